import PyProof.Rows.All
import Wide.All
import OpenK.AllK
import Wide.FinOn
import Lean
import PyProof.EqAt
import PyProof.EqKinds
import PyProof.TupleCall
import PyProof.NeKinds
import PyProof.ZipIter
import PyProof.EnumMake
import PyProof.Rows.ZipGen
import PyProof.Rows.SetFrom
import PyProof.IsiNone
import KE.KRevSl
import PyProof.Rows.ListMul
import PyProof.ListRange
import PyProof.Rows.SumAny
import PyProof.InstStoreFacts
import PyProof.ExcBaseAll.ValueError
import PyProof.ExcInit
import PyProof.ExcArgsOwn
import KE.KIsAll
import PySem.Challenge.RW_inkyears_k23_least_costs
set_option Elab.async false
set_option compiler.extract_closed false
set_option linter.all false
set_option maxRecDepth 100000
set_option maxHeartbeats 4000000
abbrev A1:=PySem.W.Frag
def A2:=@List.getElem?_eq_getElem
def A3:=@PySem.wpAny_bind
def A4:=@List.getD_eq_getElem?_getD
def A5:=@List.mem_cons_of_mem
def A6:=@List.mem_append
def A7:=@PySem.Heap.get?_push_of_some
def A8:=@List.size_toArray
def A9:=@List.mem_cons_self
abbrev B0:=PySem.Shared
def B5:=@List.mem_append_right
def B6:=@List.mem_cons
def B7:=@List.length_map
def B8:=@List.flatten_cons
def B9:=@List.map_cons
def C3:=@List.mem_singleton
def C4:=@List.mem_of_getElem?
def C5:=@PySem.wpAny_pure
def C6:=@List.mem_append_left
def C7:=@if_pos
def C8:=@List.getElem?_eq_some_iff
def C9:=@List.nodup_append
def D0:=@PySem.Heap.lt_size
def D3:=@if_neg
def D4:=@Nat.le_refl
def D5:=@PySem.Heap.get?_push_size
def D6:=@decide_eq_false
def D7:=@PySem.PassesOwn.never
def D8:=@absurd
def D9:=@Bool.false_ne_true
def E1:=@List.length_cons
abbrev E2:=PySem.Program
def E3:=@List.getElem?_map
def E4:=@Bool.and_eq_true
def E5:=@Nat.lt_of_lt_of_le
def E7:=@List.nodup_cons
def E8:=@decide_eq_true
def E9:=@Option.some.inj
def F6:=@List.nodup_nil
def F7:=@List.map_append
def F8:=@Nat.ne_of_lt
def F9:=@PySem.sizeLine_eq
abbrev G0:=PySem.Around
def G1:=@List.lookup_cons
def G2:=@List.length_append
def G3:=@beq_eq_false_iff_ne
def G4:=@Int.emod_nonneg
def G5:=@Array.length_toList
def G6:=@List.mem_range
def G7:=@List.getElem?_set_ne
def G8:=@List.replicate_succ
def G9:=@List.not_mem_nil
def J0:=@List.append_assoc
def J1:=@PySem.wpAny_mono
def J2:=@Nat.le_trans
def J3:=@List.map_map
def J4:=@Bool.and_self
def J5:=@Classical.byContradiction
def J6:=@List.all_eq_true
def J7:=@Option.map_eq_some_iff
def J8:=@Int.emod_lt_of_pos
def J9:=@PyProof.Rows.callWith_type1
def K0:=@List.append_nil
def K1:=@Int.toNat_natCast
def K2:=@List.set_cons_zero
def K3:=@List.set_cons_succ
def K4:=@List.map_nil
def K5:=@List.cons_append
def K6:=@PySem.wpAny_Call_Name_kw
def K7:=@List.nil_append
def K8:=@List.mem_map
def K9:=@PySem.wpAny_truthy_bool
def L7:=@PySem.F.plainAttrs_list
def L8:=@List.getElem_mem
def L9:=@if_true
def M3:=@List.getElem?_append_right
def M4:=@beq_self_eq_true
def M5:=@PySem.F.called_set
def M6:=@List.mem_flatMap
def M7:=@List.eq_nil_iff_forall_not_mem
def M8:=@List.mem_of_mem_take
def M9:=@Option.bind_eq_some_iff
def N0:=@List.length_set
def N1:=@PySem.Heap.size_push
def N2:=@Int.le_trans
def N3:=@Nat.lt_irrefl
def N4:=@congrArg
def N5:=@PySem.wpAny_field
def N6:=@Bool.eq_iff_iff
def N7:=@List.getElem_toArray
def N8:=@Ne.symm
def N9:=@List.mem_map_of_mem
def O0:=@List.getElem?_range
def O1:=@PySem.wpAny_newObj_type
def O2:=@if_false
def O3:=@List.getElem?_replicate
def O4:=@List.getElem?_cons_succ
def O5:=@List.any_eq_true
def O6:=@beq_iff_eq
def O7:=@Bool.false_eq_true
def O8:=@or_false
def O9:=@List.getElem?_eq_none
def P7:=@List.length_range
def P8:=@PySem.wpAny_passesOwn
def P9:=@List.forall_mem_cons
def Q0:=@PySem.wpAny_holding
def Q1:=@Nat.lt_succ_self
def Q2:=@List.length_take
def Q3:=@List.getElem?_append_left
def Q4:=@PySem.mem_of_lookup
def Q5:=@PyProof.Rows.F.plain_set_update_loop
def Q6:=@List.getElem_of_mem
def Q7:=@PySem.W.mg_of
def Q8:=@PySem.F.slot_tuple_iterator_next
def Q9:=@List.range_succ
def R0:=@List.of_mem_zip
def R1:=@List.foldl_cons
def R3:=@PySem.codeAny_mono
def R4:=@PySem.W.callWith_K
def R5:=@Nat.lt_of_le_of_lt
def R6:=@List.pairwise_cons
def R7:=@Nat.zero_le
def R8:=@List.getElem?_cons_zero
def R9:=@Nat.zero_add
def S4:=@List.take_of_length_le
def S5:=@List.getElem?_set_self
def S6:=@Bool.not_false
def S7:=@PySem.wpAny_execs_nil
def S8:=@PySem.wpAny_setField_rec
def S9:=@PyProof.Rows.slot_tuple_getitem
def U0:=@PySem.wpAny_callSpecial?_slot
def U1:=@PySem.wpAny_seqItems
def U2:=@PySem.wpAny_pyIter_list
def U3:=@List.mem_iff_getElem
def U4:=@Int.le_refl
def U5:=@PySem.Heap.get?_update_other
def U6:=@Bool.or_eq_true
def U7:=@List.length_pos_iff
def U8:=@PySem.call_meets
def U9:=@Nat.ne_of_gt
def V0:=@List.zip_cons_cons
def V1:=@List.map_replicate
def V2:=@List.contains_cons
def V3:=@Array.getElem?_eq_some_iff
def V4:=@PySem.F.type_list_extend
def V5:=@PySem.F.slot_list_extend
def V6:=@List.sublist_append_left
def V7:=@List.map_take
def V8:=@List.length_erase_of_mem
def V9:=@List.getElem?_take_of_lt
def W0:=@List.all_cons
def W1:=@Bool.true_and
def W2:=@Nat.min_eq_right
def W3:=@List.length_drop
def W4:=@List.any_toArray
def W5:=@List.sublist_cons_self
def W6:=@List.range_succ_eq_map
def W7:=@Int.zero_add
def W8:=@Nat.min_eq_left
def W9:=@List.mem_filter
def X0:=@PySem.wpAny_standAt
def X4:=@Array.getElem?_toList
def X5:=@PySem.wpAny_call_entry
def X6:=@Bool.not_eq_true'
def X7:=@List.forIn_cons
def X8{p:Prop}(h:p:=by omega):p:=h
def X9{p:Prop}(h:p:=by decide+kernel):p:=h
def Y1{p:Prop}(h:p:=by simp):p:=h
def Y2{p:Prop}(h:p:=by decide):p:=h
def Y3{p:Prop}(h:p:=by walk_at "u"):p:=h
def Y4{p:Prop}(h:p:=by with_unfolding_all rfl):p:=h
def Y5{p:Prop}(h:p:=by walk_at "s"):p:=h
def Ao8{α:Sort u}{β:α->Sort v}{f g:(a:α)->β a}(h:∀a,f a=g a:=by intro _;rfl):=h
noncomputable section
open PySem PySem.Spec PyProof.Rows
def z03{P0 P1 P2 P3:Prop}{G:Prop}(h:P0/\P1/\P2/\P3)(k:P0->P1->P2->P3->G):G:=by obtain⟨h0,h1,h2,h3⟩:=h;exact k h0 h1 h2 h3
def z04{P0 P1 P2 P3 P4:Prop}{G:Prop}(h:P0/\P1/\P2/\P3/\P4)(k:P0->P1->P2->P3->P4->G):G:=by obtain⟨h0,h1,h2,h3,h4⟩:=h;exact k h0 h1 h2 h3 h4
def z05{P0 P1 P2 P3 P4 P5:Prop}{G:Prop}(h:P0/\P1/\P2/\P3/\P4/\P5)(k:P0->P1->P2->P3->P4->P5->G):G:=by obtain⟨h0,h1,h2,h3,h4,h5⟩:=h;exact k h0 h1 h2 h3 h4 h5
def z12{α0:Type}{P0 P1 P2:α0->Prop}{G:Prop}(h:∃a0,P0 a0/\P1 a0/\P2 a0)(k:∀a0,P0 a0->P1 a0->P2 a0->G):G:=by obtain⟨a0,h0,h1,h2⟩:=h;exact k a0 h0 h1 h2
def z13{α0:Type}{P0 P1 P2 P3:α0->Prop}{G:Prop}(h:∃a0,P0 a0/\P1 a0/\P2 a0/\P3 a0)(k:∀a0,P0 a0->P1 a0->P2 a0->P3 a0->G):G:=by obtain⟨a0,h0,h1,h2,h3⟩:=h;exact k a0 h0 h1 h2 h3
def z14{α0:Type}{P0 P1 P2 P3 P4:α0->Prop}{G:Prop}(h:∃a0,P0 a0/\P1 a0/\P2 a0/\P3 a0/\P4 a0)(k:∀a0,P0 a0->P1 a0->P2 a0->P3 a0->P4 a0->G):G:=by obtain⟨a0,h0,h1,h2,h3,h4⟩:=h;exact k a0 h0 h1 h2 h3 h4
def z21{α0 α1:Type}{P0 P1:α0->α1->Prop}{G:Prop}(h:∃a0 a1,P0 a0 a1/\P1 a0 a1)(k:∀a0 a1,P0 a0 a1->P1 a0 a1->G):G:=by obtain⟨a0,a1,h0,h1⟩:=h;exact k a0 a1 h0 h1
def z22{α0 α1:Type}{P0 P1 P2:α0->α1->Prop}{G:Prop}(h:∃a0 a1,P0 a0 a1/\P1 a0 a1/\P2 a0 a1)(k:∀a0 a1,P0 a0 a1->P1 a0 a1->P2 a0 a1->G):G:=by obtain⟨a0,a1,h0,h1,h2⟩:=h;exact k a0 a1 h0 h1 h2
def z23{α0 α1:Type}{P0 P1 P2 P3:α0->α1->Prop}{G:Prop}(h:∃a0 a1,P0 a0 a1/\P1 a0 a1/\P2 a0 a1/\P3 a0 a1)(k:∀a0 a1,P0 a0 a1->P1 a0 a1->P2 a0 a1->P3 a0 a1->G):G:=by obtain⟨a0,a1,h0,h1,h2,h3⟩:=h;exact k a0 a1 h0 h1 h2 h3
def z24{α0 α1:Type}{P0 P1 P2 P3 P4:α0->α1->Prop}{G:Prop}(h:∃a0 a1,P0 a0 a1/\P1 a0 a1/\P2 a0 a1/\P3 a0 a1/\P4 a0 a1)(k:∀a0 a1,P0 a0 a1->P1 a0 a1->P2 a0 a1->P3 a0 a1->P4 a0 a1->G):G:=by obtain⟨a0,a1,h0,h1,h2,h3,h4⟩:=h;exact k a0 a1 h0 h1 h2 h3 h4
def z25{α0 α1:Type}{P0 P1 P2 P3 P4 P5:α0->α1->Prop}{G:Prop}(h:∃a0 a1,P0 a0 a1/\P1 a0 a1/\P2 a0 a1/\P3 a0 a1/\P4 a0 a1/\P5 a0 a1)(k:∀a0 a1,P0 a0 a1->P1 a0 a1->P2 a0 a1->P3 a0 a1->P4 a0 a1->P5 a0 a1->G):G:=by obtain⟨a0,a1,h0,h1,h2,h3,h4,h5⟩:=h;exact k a0 a1 h0 h1 h2 h3 h4 h5
def z31{α0 α1 α2:Type}{P0 P1:α0->α1->α2->Prop}{G:Prop}(h:∃a0 a1 a2,P0 a0 a1 a2/\P1 a0 a1 a2)(k:∀a0 a1 a2,P0 a0 a1 a2->P1 a0 a1 a2->G):G:=by obtain⟨a0,a1,a2,h0,h1⟩:=h;exact k a0 a1 a2 h0 h1
def z32{α0 α1 α2:Type}{P0 P1 P2:α0->α1->α2->Prop}{G:Prop}(h:∃a0 a1 a2,P0 a0 a1 a2/\P1 a0 a1 a2/\P2 a0 a1 a2)(k:∀a0 a1 a2,P0 a0 a1 a2->P1 a0 a1 a2->P2 a0 a1 a2->G):G:=by obtain⟨a0,a1,a2,h0,h1,h2⟩:=h;exact k a0 a1 a2 h0 h1 h2
def z33{α0 α1 α2:Type}{P0 P1 P2 P3:α0->α1->α2->Prop}{G:Prop}(h:∃a0 a1 a2,P0 a0 a1 a2/\P1 a0 a1 a2/\P2 a0 a1 a2/\P3 a0 a1 a2)(k:∀a0 a1 a2,P0 a0 a1 a2->P1 a0 a1 a2->P2 a0 a1 a2->P3 a0 a1 a2->G):G:=by obtain⟨a0,a1,a2,h0,h1,h2,h3⟩:=h;exact k a0 a1 a2 h0 h1 h2 h3
def z34{α0 α1 α2:Type}{P0 P1 P2 P3 P4:α0->α1->α2->Prop}{G:Prop}(h:∃a0 a1 a2,P0 a0 a1 a2/\P1 a0 a1 a2/\P2 a0 a1 a2/\P3 a0 a1 a2/\P4 a0 a1 a2)(k:∀a0 a1 a2,P0 a0 a1 a2->P1 a0 a1 a2->P2 a0 a1 a2->P3 a0 a1 a2->P4 a0 a1 a2->G):G:=by obtain⟨a0,a1,a2,h0,h1,h2,h3,h4⟩:=h;exact k a0 a1 a2 h0 h1 h2 h3 h4
def z35{α0 α1 α2:Type}{P0 P1 P2 P3 P4 P5:α0->α1->α2->Prop}{G:Prop}(h:∃a0 a1 a2,P0 a0 a1 a2/\P1 a0 a1 a2/\P2 a0 a1 a2/\P3 a0 a1 a2/\P4 a0 a1 a2/\P5 a0 a1 a2)(k:∀a0 a1 a2,P0 a0 a1 a2->P1 a0 a1 a2->P2 a0 a1 a2->P3 a0 a1 a2->P4 a0 a1 a2->P5 a0 a1 a2->G):G:=by obtain⟨a0,a1,a2,h0,h1,h2,h3,h4,h5⟩:=h;exact k a0 a1 a2 h0 h1 h2 h3 h4 h5
def z36{α0 α1 α2:Type}{P0 P1 P2 P3 P4 P5 P6:α0->α1->α2->Prop}{G:Prop}(h:∃a0 a1 a2,P0 a0 a1 a2/\P1 a0 a1 a2/\P2 a0 a1 a2/\P3 a0 a1 a2/\P4 a0 a1 a2/\P5 a0 a1 a2/\P6 a0 a1 a2)(k:∀a0 a1 a2,P0 a0 a1 a2->P1 a0 a1 a2->P2 a0 a1 a2->P3 a0 a1 a2->P4 a0 a1 a2->P5 a0 a1 a2->P6 a0 a1 a2->G):G:=by obtain⟨a0,a1,a2,h0,h1,h2,h3,h4,h5,h6⟩:=h;exact k a0 a1 a2 h0 h1 h2 h3 h4 h5 h6
def z41{α0 α1 α2 α3:Type}{P0 P1:α0->α1->α2->α3->Prop}{G:Prop}(h:∃a0 a1 a2 a3,P0 a0 a1 a2 a3/\P1 a0 a1 a2 a3)(k:∀a0 a1 a2 a3,P0 a0 a1 a2 a3->P1 a0 a1 a2 a3->G):G:=by obtain⟨a0,a1,a2,a3,h0,h1⟩:=h;exact k a0 a1 a2 a3 h0 h1
def z42{α0 α1 α2 α3:Type}{P0 P1 P2:α0->α1->α2->α3->Prop}{G:Prop}(h:∃a0 a1 a2 a3,P0 a0 a1 a2 a3/\P1 a0 a1 a2 a3/\P2 a0 a1 a2 a3)(k:∀a0 a1 a2 a3,P0 a0 a1 a2 a3->P1 a0 a1 a2 a3->P2 a0 a1 a2 a3->G):G:=by obtain⟨a0,a1,a2,a3,h0,h1,h2⟩:=h;exact k a0 a1 a2 a3 h0 h1 h2
def z43{α0 α1 α2 α3:Type}{P0 P1 P2 P3:α0->α1->α2->α3->Prop}{G:Prop}(h:∃a0 a1 a2 a3,P0 a0 a1 a2 a3/\P1 a0 a1 a2 a3/\P2 a0 a1 a2 a3/\P3 a0 a1 a2 a3)(k:∀a0 a1 a2 a3,P0 a0 a1 a2 a3->P1 a0 a1 a2 a3->P2 a0 a1 a2 a3->P3 a0 a1 a2 a3->G):G:=by obtain⟨a0,a1,a2,a3,h0,h1,h2,h3⟩:=h;exact k a0 a1 a2 a3 h0 h1 h2 h3
def z44{α0 α1 α2 α3:Type}{P0 P1 P2 P3 P4:α0->α1->α2->α3->Prop}{G:Prop}(h:∃a0 a1 a2 a3,P0 a0 a1 a2 a3/\P1 a0 a1 a2 a3/\P2 a0 a1 a2 a3/\P3 a0 a1 a2 a3/\P4 a0 a1 a2 a3)(k:∀a0 a1 a2 a3,P0 a0 a1 a2 a3->P1 a0 a1 a2 a3->P2 a0 a1 a2 a3->P3 a0 a1 a2 a3->P4 a0 a1 a2 a3->G):G:=by obtain⟨a0,a1,a2,a3,h0,h1,h2,h3,h4⟩:=h;exact k a0 a1 a2 a3 h0 h1 h2 h3 h4
def z45{α0 α1 α2 α3:Type}{P0 P1 P2 P3 P4 P5:α0->α1->α2->α3->Prop}{G:Prop}(h:∃a0 a1 a2 a3,P0 a0 a1 a2 a3/\P1 a0 a1 a2 a3/\P2 a0 a1 a2 a3/\P3 a0 a1 a2 a3/\P4 a0 a1 a2 a3/\P5 a0 a1 a2 a3)(k:∀a0 a1 a2 a3,P0 a0 a1 a2 a3->P1 a0 a1 a2 a3->P2 a0 a1 a2 a3->P3 a0 a1 a2 a3->P4 a0 a1 a2 a3->P5 a0 a1 a2 a3->G):G:=by obtain⟨a0,a1,a2,a3,h0,h1,h2,h3,h4,h5⟩:=h;exact k a0 a1 a2 a3 h0 h1 h2 h3 h4 h5
def z46{α0 α1 α2 α3:Type}{P0 P1 P2 P3 P4 P5 P6:α0->α1->α2->α3->Prop}{G:Prop}(h:∃a0 a1 a2 a3,P0 a0 a1 a2 a3/\P1 a0 a1 a2 a3/\P2 a0 a1 a2 a3/\P3 a0 a1 a2 a3/\P4 a0 a1 a2 a3/\P5 a0 a1 a2 a3/\P6 a0 a1 a2 a3)(k:∀a0 a1 a2 a3,P0 a0 a1 a2 a3->P1 a0 a1 a2 a3->P2 a0 a1 a2 a3->P3 a0 a1 a2 a3->P4 a0 a1 a2 a3->P5 a0 a1 a2 a3->P6 a0 a1 a2 a3->G):G:=by obtain⟨a0,a1,a2,a3,h0,h1,h2,h3,h4,h5,h6⟩:=h;exact k a0 a1 a2 a3 h0 h1 h2 h3 h4 h5 h6
def z51{α0 α1 α2 α3 α4:Type}{P0 P1:α0->α1->α2->α3->α4->Prop}{G:Prop}(h:∃a0 a1 a2 a3 a4,P0 a0 a1 a2 a3 a4/\P1 a0 a1 a2 a3 a4)(k:∀a0 a1 a2 a3 a4,P0 a0 a1 a2 a3 a4->P1 a0 a1 a2 a3 a4->G):G:=by obtain⟨a0,a1,a2,a3,a4,h0,h1⟩:=h;exact k a0 a1 a2 a3 a4 h0 h1
def z54{α0 α1 α2 α3 α4:Type}{P0 P1 P2 P3 P4:α0->α1->α2->α3->α4->Prop}{G:Prop}(h:∃a0 a1 a2 a3 a4,P0 a0 a1 a2 a3 a4/\P1 a0 a1 a2 a3 a4/\P2 a0 a1 a2 a3 a4/\P3 a0 a1 a2 a3 a4/\P4 a0 a1 a2 a3 a4)(k:∀a0 a1 a2 a3 a4,P0 a0 a1 a2 a3 a4->P1 a0 a1 a2 a3 a4->P2 a0 a1 a2 a3 a4->P3 a0 a1 a2 a3 a4->P4 a0 a1 a2 a3 a4->G):G:=by obtain⟨a0,a1,a2,a3,a4,h0,h1,h2,h3,h4⟩:=h;exact k a0 a1 a2 a3 a4 h0 h1 h2 h3 h4
def z55{α0 α1 α2 α3 α4:Type}{P0 P1 P2 P3 P4 P5:α0->α1->α2->α3->α4->Prop}{G:Prop}(h:∃a0 a1 a2 a3 a4,P0 a0 a1 a2 a3 a4/\P1 a0 a1 a2 a3 a4/\P2 a0 a1 a2 a3 a4/\P3 a0 a1 a2 a3 a4/\P4 a0 a1 a2 a3 a4/\P5 a0 a1 a2 a3 a4)(k:∀a0 a1 a2 a3 a4,P0 a0 a1 a2 a3 a4->P1 a0 a1 a2 a3 a4->P2 a0 a1 a2 a3 a4->P3 a0 a1 a2 a3 a4->P4 a0 a1 a2 a3 a4->P5 a0 a1 a2 a3 a4->G):G:=by obtain⟨a0,a1,a2,a3,a4,h0,h1,h2,h3,h4,h5⟩:=h;exact k a0 a1 a2 a3 a4 h0 h1 h2 h3 h4 h5
abbrev aa:=PySem.Str->Option PySem.Value
abbrev ac:=PySem.Str->Option PySem.Addr
abbrev ad:=List (PySem.Addr×PySem.Obj)
abbrev af:=List (List PySem.Addr)
abbrev ag:=PySem.Value->B0->Prop
abbrev ah:=List Int
abbrev am:=List PySem.Str
abbrev ao:=List PySem.Addr
abbrev aq:=List PySem.Value
abbrev av:=PySem.Addr->Prop
abbrev ax:=List Nat
abbrev az:=List (PySem.Str×PySem.Value)
abbrev a_:=Option Int
abbrev bb:=Option PySem.Addr
abbrev bf:=List (List Int)
abbrev bg:=List PySem.Env
abbrev bj:=List PySem.Expr
abbrev bp:=Array (Option PySem.Value)
abbrev br:=List Bool
abbrev bw:=List (PySem.Str×PySem.NameKind)
abbrev bx:=Array PySem.Value
abbrev b7:=List (PySem.Str×PySem.Addr)
abbrev b9:=List (PySem.Str×Int×Int)
abbrev ck:=List (PySem.Str×List Int)
abbrev cq:=PySem.Str->Option PySem.NameKind
abbrev cw:=PySem.Str×Int×Int
abbrev c6:=Nat->Int
abbrev da:=List PySem.Stmt
def Z9(h:1=1:=by rfl):=h
abbrev Z8:=Z9._auto_1
def Z7(h:1=1:=by decide):=h
abbrev Z6:=Z7._auto_1
def Z5(h:1=1:=by first|exact .inl rfl|exact .inr rfl|assumption):=h
abbrev Z0:=Z5._auto_1
def ZZ(h:1=1:=by intro _;rfl):=h
abbrev ZY:=ZZ._auto_1
def ZX(h:1=1:=by first|exact .inl rfl|exact .inr rfl):=h
abbrev ZW:=ZX._auto_1
def ZV(h:1=1:=by with_unfolding_all rfl):=h
abbrev ZU:=ZV._auto_1
def ZT(h:1=1:=by intro _ _;rfl):=h
abbrev ZS:=ZT._auto_1
def ZR(h:1=1:=by exact⟨rfl,X9,X9,by rfl,by rfl⟩):=h
abbrev ZQ:=ZR._auto_1
def ZP(h:1=1:=by decide+kernel):=h
abbrev ZO:=ZP._auto_1
namespace L2
abbrev wM:=Sum Int Str
noncomputable def do9:wM->Value->Bool
 |.inl k,v=>Value.isInt k v
 |.inr x,v=>Value.isStrOf x v
noncomputable def ff6(w:World):wM->Int
 |.inl k=>hashInt k
 |.inr x=>hashStr w x
theorem jJ:∀{k:wM}{v:Value},do9 k v=true->(∃i t,k=Sum.inl i/\v=Value.int i t)\/(∃x t,k=Sum.inr x/\v=Value.str x t)
 |.inl i,v,h=>by obtain⟨t,e⟩:=Value.isInt_shape (k:=i) (v:=v) h;exact .inl ⟨i,t,rfl,e⟩
 |.inr x,v,h=>by obtain⟨t,e⟩:=Value.isStrOf_shape (x:=x) (v:=v) h;exact .inr ⟨x,t,rfl,e⟩
def ek9(a b:Int):decide ((Sum.inl a:wM)=Sum.inl b)=(a==b):=by
 by_cases e:a=b
 . subst e;simp
 . have h:¬(Sum.inl a:wM)=Sum.inl b:=λq=>e (Sum.inl.inj q);rw[D6 h];exact(G3.mpr e).symm
def eq9(a b:Str):decide ((Sum.inr a:wM)=Sum.inr b)=decide (a=b):=by
 by_cases e:a=b
 . subst e;simp
 . have h:¬(Sum.inr a:wM)=Sum.inr b:=λq=>e (Sum.inr.inj q);rw[D6 h,D6 e]
def et5(a:Int)(b:Str):decide ((Sum.inl a:wM)=Sum.inr b)=false:=D6 (λq=>nomatch q)
def ez5(a:Str)(b:Int):decide ((Sum.inr a:wM)=Sum.inl b)=false:=D6 (λq=>nomatch q)
def bo2(prog:E2)(w:World):PySem.KeyKind prog w wM where
 is:=do9
 hash:=ff6 w
 inj:=λv a b ha hb=>by
  rcases jJ ha with⟨i,t,rfl,rfl⟩|⟨x,t,rfl,rfl⟩
  . rcases jJ hb with⟨j,u,rfl,e⟩|⟨y,u,rfl,e⟩
    . injection e with e1 _;rw[e1]
    . exact nomatch e
  . rcases jJ hb with⟨j,u,rfl,e⟩|⟨y,u,rfl,e⟩
    . exact nomatch e
    . injection e with e1 _;rw[e1]
 byValue:=λk v h=>by
  rcases jJ h with⟨i,t,rfl,rfl⟩|⟨x,t,rfl,rfl⟩<;>rfl
 pyHash:=λhv h=>by
  rcases jJ hv with⟨i,t,rfl,rfl⟩|⟨x,t,rfl,rfl⟩
  . exact wpAny_pyHash_int h
  . exact wpAny_pyHash_str h
 eqBool:=λhu hv h=>by
  rcases jJ hu with⟨i,t,rfl,rfl⟩|⟨x,t,rfl,rfl⟩
  . rcases jJ hv with⟨j,u,rfl,rfl⟩|⟨y,u,rfl,rfl⟩
    . rw[ek9]at h;exact wpAny_eqBool_int h
    . rw[et5]at h;exact SeqAt.EqAt.int_str i t y u _ _ _ _ h
  . rcases jJ hv with⟨j,u,rfl,rfl⟩|⟨y,u,rfl,rfl⟩
    . rw[ez5]at h;exact SeqAt.EqAt.str_int x t j u _ _ _ _ h
    . rw[eq9]at h;exact wpAny_eqBool_str h
 «strs»:=λk x t v h=>by
  rcases jJ h with⟨i,u,rfl,e⟩|⟨y,u,rfl,e⟩
  . exact nomatch e
  . injection e with e1 _
    subst e1
    cases v<;>rfl
inductive V where
 |non|bl (b:Bool)|int (i:Int)|str (x:Str)|byt (b:Array UInt8)|flt (b:UInt64)|ref (a:Addr)|ty (n:String)
 deriving DecidableEq
def RelV:V->Value->Prop
 |.non,u=>u=Value.none
 |.bl b,u=>u=Value.bool b
 |.int i,u=>∃t,u=Value.int i t
 |.str x,u=>∃t,u=Value.str x t
 |.byt b,u=>∃t,u=Value.bytes b t
 |.flt b,u=>∃t,u=Value.float b t
 |.ref a,u=>u=Value.ref a
 |.ty n,u=>u=Value.type n
abbrev Vals:List V->List Value->Prop:=Paired RelV
theorem Vals.length(r:Vals xs us):xs.length=us.length:=Paired.length r
theorem Vals.get:∀{xs:List V}{us:aq}{i:Nat}{x:V},Vals xs us->xs[i]?=some x->∃u,us[i]?=some u/\RelV x u
 |_,_,_,_,.nil,e=>by simp at e
 |_,_,0,_,.cons r _,e=>by simp at e;subst e;exact⟨_,rfl,r⟩
 |_,_,i+1,x,.cons _ t,e=>by obtain⟨u,h1,h2⟩:=Vals.get (i:=i) (x:=x) t (by simpa using e);exact⟨u,by simpa using h1,h2⟩
theorem Vals.set(r:RelV x u):∀{xs:List V}{us:aq}(i:Nat),Vals xs us->Vals (xs.set i x) (us.set i u)
 |_,_,_,.nil=>.nil
 |_,_,0,.cons _ t=>.cons r t
 |_,_,i+1,.cons q t=>.cons q (Vals.set r i t)
theorem Vals.append:∀{xs ys:List V}{us ws:aq},Vals xs us->Vals ys ws->Vals (xs++ys) (us++ws)
 |_,_,_,_,.nil,s=>s
 |_,_,_,_,.cons r t,s=>.cons r (Vals.append t s)
theorem Vals.take:∀{xs:List V}{us:aq}(n:Nat),Vals xs us->Vals (xs.take n) (us.take n)
 |_,_,0,_=>.nil
 |_,_,_+1,.nil=>.nil
 |_,_,n+1,.cons r t=>.cons r (Vals.take n t)
theorem Vals.drop:∀{xs:List V}{us:aq}(n:Nat),Vals xs us->Vals (xs.drop n) (us.drop n)
 |_,_,0,r=>r
 |_,_,_+1,.nil=>.nil
 |_,_,n+1,.cons _ t=>Vals.drop n t
def RelO:Option V->Option Value->Prop
 |some v,some u=>RelV v u
 |none,none=>True
 |_,_=>False
def KV{κ:Type}:List (κ×V)->List (κ×Value)->Prop:=Paired λ(p:κ×V)(q:κ×Value)=>p.1=q.1/\RelV p.2 q.2
noncomputable def kV:wM->V
 |.inl i=>.int i
 |.inr x=>.str x
inductive HO where
 |lst (xs:List V)
 |tup (xs:List V)
 |dK (kvs:List (wM×V))|dT (kvs:List (List wM×V))
 |set (S:Int->Bool) (n:Nat)
 |ins (C dx:Addr) (fs:List (Str×V))
 |own (x:Addr)
 |xd (fs:List (Str×V))
 |met (f x:Addr)
 |rng (lo hi:Int)
 |frz (o:Obj) (u:HO)
 |tbl (ps:bx)
 |ext (φ:Heap->Prop)
abbrev Hp:=Addr->Option HO
noncomputable def upd(H:Hp)(a:Addr)(o:HO):Hp:=λb=>if b=a then some o else H b
def fR:upd H a o a=some o:=by unfold upd;rw[C7 rfl]
def cE(h:b≠a):upd H a o b=H b:=by unfold upd;rw[D3 h]
def hU{H:Hp}{a b:Addr}{o:HO}(h:H a=some o)(h':H b=none):a≠b:=by intro e;subst e;rw[h]at h';cases h'
section
variable(P:E2)(w:World)
def ObjOk(H:Hp)(h:Heap)(a:Addr):HO->Prop
 |.lst xs=>xs.length<=sizeLine/\∃(its:aq)(n:Nat),Vals xs its/\h.get? a=some {cls:=.type "list",data:=.seq its.toArray n}
 |.tup xs=>xs.length<=sizeLine/\∃its:List Value,Vals xs its/\IsTup h a its.toArray
 |.dK kvs=>kvs.length<=sizeLine/\(a==sysModules)=false/\∃vs,KV kvs vs/\h.DictOf (bo2 P w) a vs
 |.dT kvs=>kvs.length<=sizeLine/\(a==sysModules)=false/\∃xs:List (List wM×Addr×Value),
  Paired (λ(p:List wM×V)(q:List wM×Addr×Value)=>p.1=q.1/\H q.2.1=some (.tup (p.1.map kV))/\RelV p.2 q.2.2) kvs xs/\
  ∃o es ep,h.get? a=some o/\o.ExactDict/\o.data=.dict es ep/\es.toList=xs.map (entryOfKey (tupleKind (bo2 P w)))/\(xs.map (·.1)).Nodup
 |.set S n=>h.SetOf (intKind P w) a S n
 |.ins C dx fs=>H dx=some (.own a)/\fs.length<=1000/\dx≠a/\h.get? a=some (PySem.W.instObj C dx)/\
  ∃mA,h.Ns1 dx mA/\(∀f,RelO (fs.lookup f) (mA f))/\PySem.Within mA (fs.map (·.1))
 |.own _=>∃o,h.get? a=some o
 |.xd fs=>∃mA,h.Ns1 a mA/\∀f,RelO (fs.lookup f) (mA f)
 |.rng lo hi=>∃t u v,h.get? a=some {cls:=.type "range",data:=.fields #[.int lo t,.int hi u,.int 1 v]}
 |.frz o u=>h.get? a=some o/\ObjOk H h a u
 |.tbl ps=>h.get? a=some {cls:=.none,data:=.fields ps}
 |.met f x=>h.get? a=some (PySem.W.methodObj (.ref f) (.ref x))
 |.ext φ=>φ h/\(∃o,h.get? a=some o)/\∀h1 h2:Heap,φ h1->(∀o,h1.get? a=some o->h2.get? a=some o)->φ h2
def HOk(H:Hp)(h:Heap):Prop:=∀a o,H a=some o->ObjOk P w H h a o
end
section
variable{P:E2}{w:World}{H H':Hp}{h h':Heap}{a:Addr}{o:HO}
theorem ObjOk.lt(x:ObjOk P w H h a o):a<h.objs.size:=by
 cases o with
 |lst xs=>obtain⟨_,_,_,_,e⟩:=x;exact D0 e
 |tup xs=>obtain⟨_,_,_,p⟩:=x;exact p.lt
 |set S n=>refine z41 x λo _ _ _ e _=>?_;exact D0 e
 |ins C dx fs=>refine z04 x λ_ _ _ e _=>?_;exact D0 e
 |own y=>obtain⟨_,e⟩:=x;exact D0 e
 |xd fs=>obtain⟨_,⟨_,_,_,e,_⟩,_⟩:=x;exact D0 e
 |rng lo hi=>obtain⟨_,_,_,e⟩:=x;exact D0 e
 |frz ob u=>obtain⟨e,_⟩:=x;exact D0 e
 |tbl ps=>exact D0 (show h.get? a=some _ from x)
 |met f y=>exact D0 (show h.get? a=some _ from x)
 |ext φ=>obtain⟨_,⟨_,e⟩,_⟩:=x;exact D0 e
 |_=>obtain⟨_,_,_,_,o,_,_,e,_⟩:=x;exact D0 e
theorem Paired.mapP:∀{l₁:List α}{l₂:List β},Paired F l₁ l₂->(∀a b,F a b->G a b)->Paired G l₁ l₂
 |_,_,.nil,_=>.nil
 |_,_,.cons r t,f=>.cons (f _ _ r) (Paired.mapP t f)
theorem ObjOk.stay(x:ObjOk P w H h a o)(k:∀b u,(b=a\/H b=some (.own a))->h.get? b=some u->h'.get? b=some u)
 (ho:∀b,H b=some (.own a)->H' b=some (.own a))(ht:∀b xs,H b=some (.tup xs)->H' b=some (.tup xs)):ObjOk P w H' h' a o:=by
 induction o with
 |lst xs=>obtain⟨z,its,n,r,e⟩:=x;exact⟨z,its,n,r,k _ _ (.inl rfl) e⟩
 |tup xs=>obtain⟨z,its,r,ob,e,c⟩:=x;exact⟨z,its,r,ob,k _ _ (.inl rfl) e,c⟩
 |dK kvs=>obtain⟨z,y,vs,r,ob,es,ep,e,c⟩:=x;exact⟨z,y,vs,r,ob,es,ep,k _ _ (.inl rfl) e,c⟩
 |dT kvs=>obtain⟨z,y,xs,r,ob,es,ep,e,c⟩:=x;exact⟨z,y,xs,Paired.mapP r λp q z=>⟨z.1,ht _ _ z.2.1,z.2.2⟩,ob,es,ep,k _ _ (.inl rfl) e,c⟩
 |set S n=>refine z41 x λob es ep t e c=>?_;exact⟨ob,es,ep,t,k _ _ (.inl rfl) e,c⟩
 |ins C dx fs=>obtain⟨d,z,ne,e,mA,⟨od,es,ep,e2,c⟩,r⟩:=x;exact⟨ho _ d,z,ne,k _ _ (.inl rfl) e,mA,⟨od,es,ep,k _ _ (.inr d) e2,c⟩,r⟩
 |own y=>obtain⟨ob,e⟩:=x;exact⟨ob,k _ _ (.inl rfl) e⟩
 |xd fs=>obtain⟨mA,⟨od,es,ep,e,c⟩,r⟩:=x;exact⟨mA,⟨od,es,ep,k _ _ (.inl rfl) e,c⟩,r⟩
 |rng lo hi=>obtain⟨t,u,v,e⟩:=x;exact⟨t,u,v,k _ _ (.inl rfl) e⟩
 |frz ob u ih=>obtain⟨e,q⟩:=x;exact⟨k _ _ (.inl rfl) e,ih q⟩
 |tbl ps=>have e:h.get? a=some {cls:=.none,data:=.fields ps}:=x;show h'.get? a=some {cls:=.none,data:=.fields ps};exact k a _ (.inl rfl) e
 |met f y=>have e:h.get? a=some (PySem.W.methodObj (.ref f) (.ref y)):=x;show h'.get? a=some (PySem.W.methodObj (.ref f) (.ref y));exact k a _ (.inl rfl) e
 |ext φ=>obtain⟨p,⟨o,e⟩,st⟩:=x;exact⟨st _ _ p λo q=>k _ _ (.inl rfl) q,⟨o,k _ _ (.inl rfl) e⟩,st⟩
theorem HOk.lt(x:HOk P w H h)(e:H a=some o):a<h.objs.size:=(x a o e).lt
theorem HOk.fresh(x:HOk P w H h)(e:h.objs.size<=a):H a=none:=by
 cases q:H a with
 |none=>rfl
 |some u=>exact D8 (E5 (x.lt q) e) (N3 _)
def HOk.kept(x:HOk P w H h)(k:∀b u,h.get? b=some u->h'.get? b=some u):HOk P w H h':=λa o e=>
 (x a o e).stay (λb u _ q=>k b u q) (λ_ q=>q) λ_ _ q=>q
def HOk.laid(x:HOk P w H h)(k:∀b u,h.get? b=some u->h'.get? b=some u)(hp:h.objs.size<=a)(new:ObjOk P w (upd H a o) h' a o):HOk P w (upd H a o) h':=λb u e=>by
 have hn:=x.fresh hp;by_cases hb:b=a
 . subst hb;rw[fR]at e;cases e;exact new
 . rw[cE hb]at e;exact(x b u e).stay (λc v _ q=>k c v q) (λc q=>by rw[cE (hU q hn)];exact q) λc xs q=>by rw[cE (hU q hn)];exact q
end
def Rd(H:Hp)(a:Addr)(u:HO):Prop:=H a=some u\/∃o,H a=some (.frz o u)
def Rd.ok(r:Rd H a u)(x:HOk P w H h):ObjOk P w H h a u:=by
 rcases r with r|⟨o,r⟩
 . exact x a u r
 . obtain⟨_,q⟩:=x a _ r;exact q
def Mut:Option HO->Prop
 |some (.lst _)=>True
 |some (.dK _)=>True
 |some (.dT _)=>True
 |some (.set _ _)=>True
 |some (.ins _ _ _)=>True
 |some (.ext _)=>True
 |_=>False
section
variable{P:E2}{w:World}{H:Hp}{h h':Heap}{x e:Addr}{o':HO}
def HOk.write(ok:HOk P w H h)(mu:Mut (H x))(he:e=x\/H e=some (.own x))(k:∀b u,b≠e->h.get? b=some u->h'.get? b=some u)(heo:∃u,h'.get? e=some u)
 (new:ObjOk P w (upd H x o') h' x o'):HOk P w (upd H x o') h':=λb u q=>by
 have nown:∀c y,H c=some (.own y)->c≠x:=λc y r z=>by subst z;rw[r]at mu;exact mu
 have ntup:∀c xs,H c=some (.tup xs)->c≠x:=λc xs r z=>by subst z;rw[r]at mu;exact mu
 by_cases hb:b=x
 . subst hb;rw[fR]at q;cases q;exact new
 . rw[cE hb]at q;by_cases hbe:b=e
   . have q':H b=some (.own x):=by
      rcases he with z|z
      . exact D8 (hbe.trans z) hb
      . rw[hbe];exact z
     rw[q]at q';cases q';obtain⟨v,hv⟩:=heo;exact⟨v,by rw[hbe];exact hv⟩
   . refine(ok b u q).stay (λc v hc r=>k c v ?_ r) (λc r=>by rw[cE (nown c b r)];exact r) λc xs r=>by rw[cE (ntup c xs r)];exact r
     rcases hc with rfl|hc
     . exact hbe
     . rintro rfl;rcases he with z|z
       . exact nown c b hc z
       . rw[hc]at z;cases z;exact hb rfl
end
structure Un (fs ex:ao) (H H':Hp) (h h':Heap):Prop where
 keep:∀b o,h.get? b=some o->H b=none->b∉fs->b∉ex->h'.get? b=some o
 slot:∀b o,h.get? b=some o->H b=none->b∈fs->b∉ex->∃sl,h'.get? b=some {o with slots:=sl}
 free:∀b o,h.get? b=some o->H b=none->b∉ex->H' b=none
 there:∀b o,h.get? b=some o->b∉ex->∃o',h'.get? b=some o'
 tups:∀b xs,H b=some (.tup xs)->H' b=some (.tup xs)
 frzs:∀b o u,H b=some (.frz o u)->H' b=some (.frz o u)
 tbls:∀b ps,H b=some (.tbl ps)->∃more,H' b=some (.tbl (ps++more))
section
variable{fs fs' ex ex':ao}{H H1 H2:Hp}{h h1 h2 h':Heap}{a x e:Addr}{o:HO}
def Un.any(u:Un fs ex H H1 h h1)(q:h.get? b=some ob)(n:H b=none)(hx:b∉ex):∃sl,h1.get? b=some {ob with slots:=sl}:=by
 by_cases hb:b∈fs
 . exact u.slot b ob q n hb hx
 . exact⟨ob.slots,u.keep b ob q n hb hx⟩
def Un.kept(k:∀b u,h.get? b=some u->h'.get? b=some u):Un fs ex H H h h':=
 ⟨λb ob q _ _ _=>k b ob q,λb ob q _ _ _=>⟨ob.slots,k b ob q⟩,λ_ _ _ n _=>n,λb ob q _=>⟨ob,k b ob q⟩,λ_ _ q=>q,λ_ _ _ q=>q,λ_ ps q=>⟨#[],by rw[q];simp⟩⟩
def Un.refl:Un fs ex H H h h:=Un.kept λ_ _ q=>q
def Un.laid(k:∀b u,h.get? b=some u->h'.get? b=some u)(hp:h.objs.size<=a)(hn:H a=none):Un fs ex H (upd H a o) h h' where
 keep:=λb u q _ _ _=>k b u q
 slot:=λb u q _ _ _=>⟨u.slots,k b u q⟩
 free:=λb u q n _=>by rw[cE (F8 (E5 (D0 q) hp))];exact n
 there:=λb u q _=>⟨u,k b u q⟩
 tups:=λb xs q=>by rw[cE (hU q hn)];exact q
 frzs:=λb u xs q=>by rw[cE (hU q hn)];exact q
 tbls:=λb ps q=>⟨#[],by rw[cE (hU q hn),q];simp⟩
def Un.write(mu:Mut (H x))(he:e=x\/H e=some (.own x))(k:∀b u,b≠e->h.get? b=some u->h'.get? b=some u)(heo:∃u,h'.get? e=some u):Un fs ex H (upd H x o) h h':=by
 have hx:∀b,H b=none->b≠x:=λb n z=>by subst z;rw[n]at mu;exact mu
 have hb:∀b,H b=none->b≠e:=λb n z=>by
  subst z;rcases he with r|r
  . exact hx b n r
  . rw[n]at r;cases r
 have hm:∀b u,H b=some u->¬Mut (some u)->b≠x:=λb u q nm z=>by subst z;rw[q]at mu;exact nm mu
 refine⟨λb u q n _ _=>k b u (hb b n) q,λb u q n _ _=>⟨u.slots,k b u (hb b n) q⟩,λb u q n _=>by rw[cE (hx b n)];exact n,λb u q _=>?_,
  λb xs q=>by rw[cE (hm b _ q λz=>z)];exact q,λb u xs q=>by rw[cE (hm b _ q λz=>z)];exact q,λb ps q=>⟨#[],by rw[cE (hm b _ q λz=>z),q];simp⟩⟩
 by_cases hbe:b=e
 . subst hbe;exact heo
 . exact⟨u,k b u hbe q⟩
end
noncomputable def trk(h:Heap)(H:Hp):List Addr:=(List.range h.objs.size).filter λa=>(H a).isSome
def ay1(h:Heap)(H:Hp):Heap:=PySem.W.hideAll h (trk h H)
def ck8(h:Heap)(H:Hp):(ay1 h H).objs.size=h.objs.size:=PySem.W.hideAll_size _ _
def dc5(e:h.get? b=some o)(n:H b=none):(ay1 h H).get? b=some o:=
 PySem.W.hideAll_get _ e λhm=>by have q:(H b).isSome=true:=(W9.mp hm).2;rw[n]at q;simp at q
theorem ei4(e:(ay1 h H).get? b=some o):h.get? b=some o/\H b=none:=by
 have e':h.get? b=some o:=PySem.W.of_hideAll (trk h H) e;refine⟨e',?_⟩;cases q:H b with
 |none=>rfl
 |some x=>have hm:b∈trk h H:=W9.mpr ⟨G6.mpr (D0 e'),by simp[q]⟩;have z:(ay1 h H).get? b=none:=PySem.W.hideAll_none (trk h H) hm;rw[z]at e;cases e
structure Mod (K:A1) (mg:aa) (base:Heap):Prop where
 kin:K.In base
 glob:base.Ns mainGlobals mg
 blt:∃mb,base.Ns builtinsNs mb/\∀x:Str,x≠"__name__"->mb x=bootBuiltins x
 nolimit:base.NoLimit
structure Cx where
 prog:E2
 w:World
 K:A1
 mg:Str->Option Value
 base:Heap
 A:G0
 N:List Str
 s₀:B0
 H₀:Hp
 env:Env
 outer:List Env
 stack:List Env
 ex:List Addr
 fn:Str->Bool
 calm:Bool
 pn:List (Addr×Obj)
 xe:Value->B0->Prop
noncomputable def pT(l:bg):List Addr:=l.filterMap (·.frame)
abbrev Cx.fs(X:Cx):List Addr:=pT X.outer
def Vis(sc:Scope)(x:Str):Prop:=sc.names.lookup x=some .local\/sc.names.lookup x=some .cell\/sc.names.lookup x=some .free
def Loc(sc:Scope)(x:Str):Prop:=sc.names.lookup x=some .local\/sc.names.lookup x=some .cell
def fm5(env:Env)(h:Heap)(m:aa)(x:Str)(u:Value):Prop:=
 (env.kindOf x=some .local/\m x=some u)\/((env.kindOf x=some .cell\/env.kindOf x=some .free)/\∃c,env.cells.lookup x=some c/\h.IsCell c (some u))
structure Cx.Ok (X:Cx):Prop where
 mod:Mod X.K X.mg X.base
 kind:X.env.scope.kind=.function
 glob:X.env.globals=mainGlobals
 blt:X.env.builtins=builtinsNs
 above:X.s₀.heap.objs.size<=X.env.locals
 inj:∀x y c,X.env.cells.lookup x=some c->X.env.cells.lookup y=some c->x=y
 has:∀x,(X.env.kindOf x=some .cell\/X.env.kindOf x=some .free)->∃c,X.env.cells.lookup x=some c
 cab:∀x c,X.fn x=true->X.env.cells.lookup x=some c->X.s₀.heap.objs.size<=c
 hd:X.calm=true->X.A.handled=none
 frames:X.A.frames=some X.stack
 stk:X.stack=X.outer\/(X.stack=X.env::X.outer/\X.env.frame=some X.env.locals)
 exf:∀b∈X.ex,b≠X.env.locals/\∀x c,X.env.cells.lookup x=some c->c≠b
 bs:∀b o,X.base.get? b=some o->X.s₀.heap.get? b=some o/\X.H₀ b=none
 bsz:X.base.objs.size<=X.s₀.heap.objs.size
 noex:∀b o,X.base.get? b=some o->b∉X.ex
 exfs:∀b∈X.ex,b∉X.fs
 funs:X.s₀.heap.FunFrames X.base X.outer
 frf:∀b∈X.fs,X.H₀ b=none
structure Inv (X:Cx) (ζ:ad) (O:List (Option V)) (H:Hp) (s:B0):Prop where
 ok:X.Ok
 os:s.os=X.s₀.os
 bare:AllBare s.gens
 base:Un X.fs X.ex X.H₀ H X.s₀.heap s.heap
 loc:∃m,s.heap.Ns X.env.locals m/\∀(i:Nat)(x:Str)(v:V),X.N[i]?=some x->O[i]?=some (some v)->Vis X.env.scope x->∃u,RelV v u/\fm5 X.env s.heap m x u
 cell:∀x c,X.env.cells.lookup x=some c->∃v,s.heap.IsCell c v
 free:H X.env.locals=none
 freeC:∀x c,X.env.cells.lookup x=some c->H c=none
 pin:∀p∈X.pn++ζ,s.heap.get? p.1=some p.2/\H p.1=none/\p.1≠X.env.locals/\p.1∉X.fs/\∀v,p.2.data≠ .cell v
 hok:HOk X.prog X.w H s.heap
 len:O.length=X.N.length
section
variable{X:Cx}{ζ:ad}{O:List (Option V)}{H H':Hp}{s:B0}{h':Heap}
def Cx.Ok.nofr(ok:X.Ok)(e:X.base.get? b=some o):b∉X.fs:=λhb=>by have:=(ok.funs.mem hb).1;rw[e]at this;cases this
theorem Inv.bs(I:Inv X ζ O H s):∀b o,X.base.get? b=some o->s.heap.get? b=some o/\H b=none:=λb o e=>
 ⟨I.base.keep b o (I.ok.bs b o e).1 (I.ok.bs b o e).2 (I.ok.nofr e) (I.ok.noex b o e),I.base.free b o (I.ok.bs b o e).1 (I.ok.bs b o e).2 (I.ok.noex b o e)⟩
def Inv.bk(I:Inv X ζ O H s):∀b o,X.base.get? b=some o->s.heap.get? b=some o:=λb o e=>(I.bs b o e).1
theorem Inv.mod(I:Inv X ζ O H s):Mod X.K X.mg X.base:=I.ok.mod
def Inv.kIn(I:Inv X ζ O H s):X.K.In s.heap:=I.ok.mod.kin.keeps I.bk
def Inv.fr(I:Inv X ζ O H s):∃m,Fr X.base X.env.locals s.heap m:=
 let⟨m,hn,_⟩:=I.loc
 ⟨m,hn,I.bk,J2 I.ok.bsz I.ok.above⟩
theorem Inv.lt(I:Inv X ζ O H s):X.env.locals<s.heap.objs.size:=let⟨_,hn,_⟩:=I.loc;hn.lt
def Inv.sz(I:Inv X ζ O H s):X.s₀.heap.objs.size<=s.heap.objs.size:=J2 I.ok.above (Nat.le_of_lt I.lt)
def Inv.nofs(I:Inv X ζ O H s)(h:s.heap.objs.size<=a):a∉X.fs:=λhb=>by obtain⟨_,o,ho,_⟩:=I.ok.funs.mem hb;exact D8 (E5 (D0 ho) (J2 I.sz h)) (N3 _)
def Inv.cne(I:Inv X ζ O H s):∀x c,X.env.cells.lookup x=some c->c≠X.env.locals:=λx c e z=>by refine z21 (I.cell x c e) λv o ho hd=>?_;obtain⟨m,⟨o',es,ep,ho',hd',_⟩,_⟩:=I.loc;rw[z,ho']at ho;cases ho;rw[hd']at hd;cases hd
theorem Inv.funs(I:Inv X ζ O H s):s.heap.FunFrames X.base X.outer:=by
 have all:∀(l:bg),(∀b∈pT l,b∈X.fs)->X.s₀.heap.FunFrames X.base l->s.heap.FunFrames X.base l:=by
  intro l;induction l with
  |nil=>intro _ _;trivial
  |cons env r ih=>intro hs hl;obtain⟨hk,⟨L,o,hf,hn,ho,hd⟩,hr⟩:=hl;have hL:L∈X.fs:=hs L (by unfold pT;rw[List.filterMap_cons,hf];exact A9);obtain⟨sl,e⟩:=I.base.slot L o ho (I.ok.frf L hL) hL λz=>I.ok.exfs L z hL;exact⟨hk,⟨L,_,hf,hn,e,hd⟩,ih (λb hb=>hs b (by unfold pT;rw[List.filterMap_cons,hf];exact A5 _ hb)) hr⟩
 exact all X.outer (λ_ hb=>hb) I.ok.funs
theorem Inv.stack(I:Inv X ζ O H s):s.heap.FunFrames X.base X.stack:=by
 rcases I.ok.stk with e|⟨e,hf⟩
 . rw[e];exact I.funs
 . rw[e];obtain⟨m,hn,_⟩:=I.loc;refine .cons (by rw[I.ok.kind];decide) hf hn ?_ I.funs;exact Heap.get?_none_of_le (J2 I.ok.bsz I.ok.above)
def Inv.stkSub(I:Inv X ζ O H s):∀b∈pT X.stack,b∈X.env.locals::X.fs:=λb hb=>by
 rcases I.ok.stk with e|⟨e,hf⟩
 . rw[e]at hb;exact A5 _ hb
 . rw[e]at hb;unfold pT at hb;rw[List.filterMap_cons,hf]at hb;exact hb
def Inv.stkFree(I:Inv X ζ O H s):∀b∈pT X.stack,H b=none:=λb hb=>by
 rcases B6.mp (I.stkSub b hb)with e|hb
 . rw[e];exact I.free
 . obtain⟨_,o,ho,_⟩:=I.ok.funs.mem hb;exact I.base.free b o ho (I.ok.frf b hb) λz=>I.ok.exfs b z hb
def Inv.step{g':Array GenState}{t':Nat}{d':Drawn}{ch:ao}(I:Inv X ζ O H s)
 (hch:∀b∈ch,(b∈X.ex\/X.s₀.heap.objs.size<=b)/\b≠X.env.locals/\(∀x c,X.env.cells.lookup x=some c->c≠b)/\∀p∈X.pn++ζ,p.1≠b)
 (keep:∀b o,b≠X.env.locals->b∉X.fs->b∉ch->s.heap.get? b=some o->H b=none->h'.get? b=some o)
 (slot:∀b o,b≠X.env.locals->b∈X.fs->b∉ch->s.heap.get? b=some o->H b=none->∃sl,h'.get? b=some {o with slots:=sl})(free:∀b o,b∉ch->s.heap.get? b=some o->H b=none->H' b=none)
 (there:∀b o,b∉ch->s.heap.get? b=some o->∃o',h'.get? b=some o')
 (tups:∀b xs,H b=some (.tup xs)->H' b=some (.tup xs))(frzs:∀b o u,H b=some (.frz o u)->H' b=some (.frz o u))(tbls:∀b ps,H b=some (.tbl ps)->∃more,H' b=some (.tbl (ps++more)))
 (ns:∀m,s.heap.Ns X.env.locals m->h'.Ns X.env.locals m)(hok:HOk X.prog X.w H' h')(hg:AllBare g'):
 Inv X ζ O H' {s with heap:=h',gens:=g',drawn:=d',toks:=t'}:=by
 have neL:∀b o,X.s₀.heap.get? b=some o->b≠X.env.locals:=λb o e=>F8 (E5 (D0 e) I.ok.above);have neC:∀b o,X.s₀.heap.get? b=some o->b∉X.ex->b∉ch:=λb o e hx hb=>by
  rcases(hch b hb).1 with z|z
  . exact hx z
  . exact D8 (E5 (D0 e) z) (N3 _)
 have cellK:∀x c,X.env.cells.lookup x=some c->∀v,s.heap.IsCell c v->h'.IsCell c v:=λx c e v ⟨o,ho,hd⟩=>by
  have nch:c∉ch:=λz=>(hch c z).2.2.1 x c e rfl;by_cases hc:c∈X.fs
  . obtain⟨sl,q⟩:=slot c o (I.cne x c e) hc nch ho (I.freeC x c e);exact⟨_,q,hd⟩
  . exact⟨o,keep c o (I.cne x c e) hc nch ho (I.freeC x c e),hd⟩
 refine⟨I.ok,I.os,hg,⟨λb o e n hb hx=>?_,λb o e n hb hx=>?_,λb o e n hx=>?_,λb o e hx=>?_,λb xs e=>tups b xs (I.base.tups b xs e),λb o xs e=>frzs b o xs (I.base.frzs b o xs e),λb ps e=>?_⟩,?_,λx c e=>?_,?_,λx c e=>?_,λp hp=>?_,hok,I.len⟩
 . exact keep b o (neL b o e) hb (neC b o e hx) (I.base.keep b o e n hb hx) (I.base.free b o e n hx)
 . obtain⟨sl,e1⟩:=I.base.slot b o e n hb hx;obtain⟨sl',e2⟩:=slot b _ (neL b o e) hb (neC b o e hx) e1 (I.base.free b o e n hx);exact⟨sl',e2⟩
 . obtain⟨o',e1⟩:=I.base.there b o e hx;exact free b o' (neC b o e hx) e1 (I.base.free b o e n hx)
 . obtain⟨o',e1⟩:=I.base.there b o e hx;exact there b o' (neC b o e hx) e1
 . obtain⟨m1,e1⟩:=I.base.tbls b ps e;obtain⟨m2,e2⟩:=tbls b _ e1;exact⟨m1++m2,by rw[e2,Array.append_assoc]⟩
 . obtain⟨m,hn,hl⟩:=I.loc;refine⟨m,ns m hn,λi x v e1 e2 e3=>?_⟩;obtain⟨u,r,l⟩:=hl i x v e1 e2 e3;refine⟨u,r,?_⟩;rcases l with l|⟨k,c,e,z⟩
   . exact .inl l
   . exact .inr ⟨k,c,e,cellK x c e _ z⟩
 . obtain⟨v,z⟩:=I.cell x c e;exact⟨v,cellK x c e v z⟩
 . obtain⟨m,⟨o,_,_,ho,_⟩,_⟩:=I.loc;exact free _ o (λz=>(hch _ z).2.1 rfl) ho I.free
 . refine z21 (I.cell x c e) λv o ho hd=>?_;exact free c o (λz=>(hch c z).2.2.1 x c e rfl) ho (I.freeC x c e)
 . refine z04 (I.pin p hp) λe n ne nf d=>?_;have nch:p.1∉ch:=λz=>(hch p.1 z).2.2.2 p hp rfl;exact⟨keep p.1 p.2 ne nf nch e n,free p.1 p.2 nch e n,ne,nf,d⟩
def Inv.un{t':Nat}(I:Inv X ζ O H s)(u:Un X.fs [] H H' s.heap h')(hok:HOk X.prog X.w H' h'):Inv X ζ O H' {s with heap:=h',toks:=t'}:=by obtain⟨m,⟨o,es,ep,ho,r⟩,_⟩:=id I.loc;obtain⟨sl,hL⟩:=u.any ho I.free Y1;exact I.step (g':=s.gens) (d':=s.drawn) (ch:=[]) (λ_ z=>nomatch z) (λb o _ hb _ e n=>u.keep b o e n hb Y1) (λb o _ hb _ e n=>u.slot b o e n hb Y1) (λb o _ e n=>u.free b o e n Y1) (λb o _ e=>u.there b o e Y1) u.tups u.frzs u.tbls (λm' hm=>by refine z31 hm λo' es' ep' ho' r'=>?_;rw[ho]at ho';cases ho';exact⟨_,es',ep',hL,r'⟩) hok I.bare
def Inv.call{g':Array GenState}{t':Nat}{d':Drawn}{ch:ao}(I:Inv X ζ O H s)(u:Un (pT X.stack) ch H H' s.heap h')(hok:HOk X.prog X.w H' h')(hg:AllBare g')
 (hch:∀b∈ch,(b∈X.ex\/X.s₀.heap.objs.size<=b)/\b≠X.env.locals/\(∀x c,X.env.cells.lookup x=some c->c≠b)/\∀p∈X.pn++ζ,p.1≠b):
 Inv X ζ O H' {s with heap:=h',gens:=g',drawn:=d',toks:=t'}:=by
 obtain⟨m,⟨o,es,ep,ho,r⟩,_⟩:=id I.loc;obtain⟨sl,hL⟩:=u.any ho I.free λz=>(hch _ z).2.1 rfl;exact I.step (ch:=ch) hch (λb o hL hb hc e n=>u.keep b o e n (λz=>(B6.mp (I.stkSub b z)).elim hL hb) hc) (λb o _ _ hc e n=>u.any e n hc) (λb o hc e n=>u.free b o e n hc) (λb o hc e=>u.there b o e hc) u.tups u.frzs u.tbls (λm' hm=>by refine z31 hm λo' es' ep' ho' r'=>?_;rw[ho]at ho';cases ho';exact⟨_,es',ep',hL,r'⟩) hok hg
def Inv.turned{t':Nat}{it:Addr}(I:Inv X ζ O H s)(k:∀b o,b≠it->s.heap.get? b=some o->h'.get? b=some o)(hn:H it=none)(hL:it≠X.env.locals)
 (h1:it∈X.ex\/X.s₀.heap.objs.size<=it)(h2:∀x c,X.env.cells.lookup x=some c->c≠it)(h3:∀p∈X.pn++ζ,p.1≠it):Inv X ζ O H {s with heap:=h',toks:=t'}:=by
 have nit:∀b u,H b=some u->b≠it:=λb u e z=>by rw[z,hn]at e;cases e
 refine I.step (g':=s.gens) (d':=s.drawn) (ch:=[it]) (λb hb=>?_) (λb o _ _ hc e _=>k b o (λz=>hc (by simp[z])) e) (λb o _ _ hc e _=>⟨o.slots,k b o (λz=>hc (by simp[z])) e⟩) (λ_ _ _ _ n=>n)
  (λb o hc e=>⟨o,k b o (λz=>hc (by simp[z])) e⟩) (λ_ _ e=>e) (λ_ _ _ e=>e) (λb ps e=>⟨#[],by rw[e];simp⟩) (λm hm=>?_) (λb u e=>?_) I.bare
 . have e:b=it:=by simpa using hb
   subst e;exact⟨h1,hL,h2,h3⟩
 . refine z31 hm λo es ep ho r=>?_;exact⟨o,es,ep,k _ o (N8 hL) ho,r⟩
 . refine(I.hok b u e).stay (λc v hc q=>k c v ?_ q) (λ_ q=>q) λ_ _ q=>q;rcases hc with z|z
   . rw[z];exact nit b u e
   . exact nit c _ z
def Inv.tok(I:Inv X ζ O H s)(t:Nat):Inv X ζ O H {s with toks:=t}:=I.un (h':=s.heap) (t':=t) Un.refl I.hok
theorem Inv.kept(I:Inv X ζ O H s)(k:∀b u,s.heap.get? b=some u->h'.get? b=some u):Inv X ζ O H {s with heap:=h',toks:=t'}:=I.un (Un.kept k) (I.hok.kept k)
theorem Inv.laid(I:Inv X ζ O H s)(k:∀b u,s.heap.get? b=some u->h'.get? b=some u)(hp:s.heap.objs.size<=a)(new:ObjOk X.prog X.w (upd H a o) h' a o):
 Inv X ζ O (upd H a o) {s with heap:=h',toks:=t'}:=I.un (Un.laid k hp (I.hok.fresh hp)) (I.hok.laid k hp new)
theorem Inv.write(I:Inv X ζ O H s)(mu:Mut (H x))(he:e=x\/H e=some (.own x))(k:∀b u,b≠e->s.heap.get? b=some u->h'.get? b=some u)(heo:∃u,h'.get? e=some u)
 (new:ObjOk X.prog X.w (upd H x o) h' x o):Inv X ζ O (upd H x o) {s with heap:=h',toks:=t'}:=I.un (Un.write mu he k heo) (I.hok.write mu he k heo new)
def Inv.weak(I:Inv X ζ O H s)(hl:σ'.length=O.length)(w:∀(i:Nat) v,σ'[i]?=some (some v)->O[i]?=some (some v)):Inv X ζ σ' H s:=
 ⟨I.ok,I.os,I.bare,I.base,let⟨m,hn,hl'⟩:=I.loc;⟨m,hn,λi x v e1 e2 e3=>hl' i x v e1 (w i v e2) e3⟩,I.cell,I.free,I.freeC,I.pin,I.hok,hl.trans I.len⟩
def Inv.pins_of(I:Inv X ζ O H s)(h:∀p∈pins',s.heap.get? p.1=some p.2/\H p.1=none/\p.1≠X.env.locals/\p.1∉X.fs/\∀v,p.2.data≠ .cell v):Inv X pins' O H s:=
 ⟨I.ok,I.os,I.bare,I.base,I.loc,I.cell,I.free,I.freeC,λp hp=>(A6.mp hp).elim (λz=>I.pin p (C6 _ z)) (h p),I.hok,I.len⟩
def ah7{N:am}(hN:N.Nodup){i j:Nat}{x:Str}(a:N[i]?=some x)(b:N[j]?=some x):i=j:=by obtain⟨h1,e1⟩:=C8.mp a;obtain⟨h2,e2⟩:=C8.mp b;exact(List.getElem_inj hN).mp (e1.trans e2.symm)
def bh5{M:Model}{A:G0}{E:ag}{i:Nat}{x:Str}{v:V}{u:Value}{Q:Unit->B0->Prop}(I:Inv X ζ O H s)(hN:X.N.Nodup)(hi:X.N[i]?=some x)(hx:Loc X.env.scope x)(r:RelV v u)
 (h:∀s',Inv X ζ (O.set i (some v)) H s'->(∃a,Heap.SameBut a s.heap s'.heap/\(a=X.env.locals\/X.env.cells.lookup x=some a))->Q () s')(hf:autoParam (X.fn x=true\/X.env.scope.names.lookup x=some .local) Z0):wpAny M A (storeName X.env x u) Q E s:=by
 obtain⟨m,hn,hl⟩:=id I.loc;have hcls:(X.env.scope.kind==.class||(X.env.scope.kind==.module&&X.env.locals !=X.env.globals))=false:=by rw[I.ok.kind];rfl
 have hiσ:i<O.length:=by rw[I.len];exact(C8.mp hi).1
 have cne:=I.cne;have tracked:∀{a:Addr}{h':Heap},(∃o,s.heap.get? a=some o/\H a=none)->Heap.SameBut a s.heap h'->HOk X.prog X.w H h':=λ{a h'} ha hs b ob e=>by
  obtain⟨_,_,hfree⟩:=ha;refine(I.hok b ob e).stay (λc w' hc q=>(hs.2 c ?_).trans q) (λ_ q=>q) λ_ _ q=>q;rintro rfl;rcases hc with rfl|hc
  . rw[hfree]at e;cases e
  . rw[hfree]at hc;cases hc
 rcases hx with hk|hk
 . refine wpAny_storeName_local hk hn (λh' hn' hs=>?_) hcls;refine z31 (id hn) λoL _ _ hoL _=>?_;refine h _ ⟨I.ok,I.os,I.bare,⟨λb o e n hb hx=>?_,λb o e n hb hx=>?_,I.base.free,λb o e hx=>?_,I.base.tups,I.base.frzs,I.base.tbls⟩,⟨_,hn',λj y v' e1 e2 e3=>?_⟩,λy c e=>?_,I.free,I.freeC,λp hp=>?_,tracked ⟨oL,hoL,I.free⟩ hs,by simpa using I.len⟩ ⟨_,hs,.inl rfl⟩
   . exact(hs.2 b (F8 (E5 (D0 e) I.ok.above))).trans (I.base.keep b o e n hb hx)
   . obtain⟨sl,e1⟩:=I.base.slot b o e n hb hx;exact⟨sl,(hs.2 b (F8 (E5 (D0 e) I.ok.above))).trans e1⟩
   . obtain⟨o',e1⟩:=I.base.there b o e hx;exact⟨o',(hs.2 b (F8 (E5 (D0 e) I.ok.above))).trans e1⟩
   . by_cases hj:j=i
     . subst hj;rw[hi]at e1;cases e1;rw[S5 hiσ]at e2;cases e2;exact⟨u,r,.inl ⟨hk,Y1⟩⟩
     . rw[G7 (N8 hj)]at e2;obtain⟨u',r',q⟩:=hl j y v' e1 e2 e3;refine⟨u',r',?_⟩;rcases q with⟨k,e⟩|⟨k,c,e,z⟩
       . refine .inl ⟨k,?_⟩;have:y≠x:=λe=>hj (ah7 hN e1 (e▸hi));simp[this,e]
       . exact .inr ⟨k,c,e,z.sameBut hs (cne y c e)⟩
   . obtain⟨w',z⟩:=I.cell y c e;exact⟨w',z.sameBut hs (cne y c e)⟩
   . refine z04 (I.pin p hp) λe n ne nf d=>?_;exact⟨(hs.2 p.1 ne).trans e,n,ne,nf,d⟩
 . have hfn:X.fn x=true:=by
    rcases hf with z|z
    . exact z
    . rw[z]at hk;cases hk
   obtain⟨c,hc⟩:=I.ok.has x (.inl hk);obtain⟨w',z⟩:=I.cell x c hc;refine wpAny_storeName_cell I.ok.kind hk hc z (λh' hc' hs=>?_);obtain⟨oc,hoc,hocd⟩:=id z;refine h {s with heap:=h'} ⟨I.ok,I.os,I.bare,⟨λb o e n hb hx=>?_,λb o e n hb hx=>?_,I.base.free,λb o e hx=>?_,I.base.tups,I.base.frzs,I.base.tbls⟩,⟨m,hn.sameBut hs (N8 (cne x c hc)),λj y v' e1 e2 e3=>?_⟩,λy c' e=>?_,I.free,I.freeC,λp hp=>?_,tracked ⟨oc,hoc,I.freeC x c hc⟩ hs,by simpa using I.len⟩ ⟨c,hs,.inr hc⟩
   . exact(hs.2 b (F8 (E5 (D0 e) (I.ok.cab x c hfn hc)))).trans (I.base.keep b o e n hb hx)
   . obtain⟨sl,e1⟩:=I.base.slot b o e n hb hx;exact⟨sl,(hs.2 b (F8 (E5 (D0 e) (I.ok.cab x c hfn hc)))).trans e1⟩
   . obtain⟨o',e1⟩:=I.base.there b o e hx;exact⟨o',(hs.2 b (F8 (E5 (D0 e) (I.ok.cab x c hfn hc)))).trans e1⟩
   . by_cases hj:j=i
     . subst hj;rw[hi]at e1;cases e1;rw[S5 hiσ]at e2;cases e2;exact⟨u,r,.inr ⟨.inl hk,c,hc,hc'⟩⟩
     . rw[G7 (N8 hj)]at e2;obtain⟨u',r',q⟩:=hl j y v' e1 e2 e3;refine⟨u',r',?_⟩;rcases q with q|⟨k,c',e,z'⟩
       . exact .inl q
       . refine .inr ⟨k,c',e,z'.sameBut hs ?_⟩;rintro rfl;exact hj (ah7 hN e1 (I.ok.inj _ _ _ e hc▸hi))
   . by_cases hcc:c'=c
     . subst hcc;exact⟨_,hc'⟩
     . obtain⟨w2,z2⟩:=I.cell y c' e;exact⟨w2,z2.sameBut hs hcc⟩
   . refine z04 (I.pin p hp) λe n ne nf d=>?_;refine⟨(hs.2 p.1 ?_).trans e,n,ne,nf,d⟩;intro q;rw[q,hoc]at e;have q':oc=p.2:=E9 e;exact d w' (by rw[<-q'];exact hocd)
def aw7(I:Inv X ζ O H s)(hN:X.N.Nodup)(hi:X.N[i]?=some x)(hx:Loc X.env.scope x)(r:RelV v u)
 (h:∀s',Inv X ζ (O.set i (some v)) H s'->Q () s')(hf:autoParam (X.fn x=true\/X.env.scope.names.lookup x=some .local) Z0):wpAny M A (storeName X.env x u) Q E s:=
 bh5 I hN hi hx r (λs' I' _=>h s' I') hf
def Inv.call'(I:Inv X ζ O H s)(ho:s'.os=s.os)(u:Un (pT X.stack) ch H H' s.heap s'.heap)(hok:HOk X.prog X.w H' s'.heap)(hg:AllBare s'.gens)
 (hch:∀b∈ch,(b∈X.ex\/X.s₀.heap.objs.size<=b)/\b≠X.env.locals/\(∀x c,X.env.cells.lookup x=some c->c≠b)/\∀p∈X.pn++ζ,p.1≠b):Inv X ζ O H' s':=by
 obtain⟨h',g',d',t',o'⟩:=s';have e:o'=s.os:=ho;subst e;exact I.call (g':=g') (t':=t') (d':=d') u hok hg hch
end
abbrev XK:=Value->Option Addr->Hp->Prop
abbrev St:=List (Option V)
abbrev VK:=V->Hp->Prop
abbrev a9:=List V
abbrev bh:=V->List V->Hp->VK->Prop
abbrev b6:=V->Option Int->Option Int->Hp->VK->Prop
abbrev b8:=Bool->Hp->Prop
abbrev cg:=List V->Hp->Prop
abbrev cj:=List V->Hp->VK->Prop
abbrev cv:=St->Hp->Prop
abbrev c5:=List (Str×V)
abbrev db:=Int->Int->V
abbrev dc:=V->Hp->VK->Prop
abbrev TE:=St->Hp->VK->Prop
abbrev TT:=St->Hp->(Bool->Hp->Prop)->Prop
abbrev TA:=St->Hp->(List V->Hp->Prop)->Prop
structure zZ where
 nx:St->Hp->Prop
 rt:VK
 bk:St->Hp->Prop:=λ_ _=>False
 ct:St->Hp->Prop:=λ_ _=>False
abbrev TS:=zZ->St->Hp->Prop
def EP(X:Cx)(ζ:ad)(O:St)(Q:VK)(u:Value)(s':B0):Prop:=∃v H',Inv X ζ O H' s'/\RelV v u/\Q v H'
def TP(X:Cx)(ζ:ad)(O:St)(Q:b8)(b:Bool)(s':B0):Prop:=∃H',Inv X ζ O H' s'/\Q b H'
def AP(X:Cx)(ζ:ad)(O:St)(Q:cg)(us:aq)(s':B0):Prop:=∃vs H',Inv X ζ O H' s'/\Vals vs us/\Q vs H'
def SP(X:Cx)(ζ:ad)(D:zZ)(f:Flow)(s':B0):Prop:=
 match f with
 |.next=>∃σ' H',Inv X ζ σ' H' s'/\D.nx σ' H'
 |.brk=>∃σ' H',Inv X ζ σ' H' s'/\D.bk σ' H'
 |.cont=>∃σ' H',Inv X ζ σ' H' s'/\D.ct σ' H'
 |.ret u=>∃v σ' H',Inv X ζ σ' H' s'/\RelV v u/\D.rt v H'
def PE(X:Cx)(e:Expr)(t:TE):Prop:=
 ∀⦃ζ:ad⦄ (s:B0)(O:St)(H:Hp)(Q:VK),Inv X ζ O H s->t O H Q->wpAny (model X.prog X.w) X.A (eval e X.env) (EP X ζ O Q) X.xe s
def PT(X:Cx)(e:Expr)(t:TT):Prop:=
 ∀⦃ζ:ad⦄ (s:B0)(O:St)(H:Hp)(Q:b8),Inv X ζ O H s->t O H Q->wpAny (model X.prog X.w) X.A (isTrue e X.env (eval e X.env)) (TP X ζ O Q) X.xe s
def PW(X:Cx)(e:Expr)(t:TT):Prop:=
 ∀⦃whole:Sem Value⦄ (ζ:ad)(s:B0)(O:St)(H:Hp)(Q:b8),Inv X ζ O H s->t O H Q->wpAny (model X.prog X.w) X.A (isTrue e X.env whole) (TP X ζ O Q) X.xe s
def PW.pt(h:PW X e t):PT X e t:=λ_ s O H Q I q=>h _ s O H Q I q
def PA(X:Cx)(es:bj)(t:TA):Prop:=
 ∀⦃pos:Pos⦄ (ζ:ad)(s:B0)(O:St)(H:Hp)(Q:cg),Inv X ζ O H s->t O H Q->wpAny (model X.prog X.w) X.A (spliced (backTo pos (starEach es X.env))) (AP X ζ O Q) X.xe s
def PS(X:Cx)(st:Stmt)(t:TS):Prop:=
 ∀⦃ζ:ad⦄ (s:B0)(O:St)(H:Hp)(D:zZ),Inv X ζ O H s->t D O H->wpAny (model X.prog X.w) X.A (exec st X.env) (SP X ζ D) X.xe s
def PSs(X:Cx)(st:da)(t:TS):Prop:=
 ∀⦃ζ:ad⦄ (s:B0)(O:St)(H:Hp)(D:zZ),Inv X ζ O H s->t D O H->wpAny (model X.prog X.w) X.A (execs st X.env) (SP X ζ D) X.xe s
def kP(h:wpAny M A t Q E s)(hQ:∀a s,Q a s->Q' a s):wpAny M A t Q' E s:=J1 h hQ λ_ _ x=>x
section
variable{α:Type}{M:Model}{A:G0}{E:ag}{s:B0}{X:Cx}{ζ:ad}{O:St}
def jE{t:Sem Value}{Q:VK}{Q':ag}(h:wpAny M A t (EP X ζ O Q) E s)(k:∀v s x H,Inv X ζ O H s->RelV x v->Q x H->Q' v s):wpAny M A t Q' E s:=kP h λ_ _ ⟨_,_,I,r,q⟩=>k _ _ _ _ I r q
def wP{t:Sem (List Value)}{Q:cg}{Q':List Value->B0->Prop}(h:wpAny M A t (AP X ζ O Q) E s)(k:∀v s x H,Inv X ζ O H s->Vals x v->Q x H->Q' v s):wpAny M A t Q' E s:=kP h λ_ _ ⟨_,_,I,r,q⟩=>k _ _ _ _ I r q
def thT{t:Sem Bool}{Q:b8}{Q':Bool->B0->Prop}(h:wpAny M A t (TP X ζ O Q) E s)(k:∀b s H,Inv X ζ O H s->Q b H->Q' b s):wpAny M A t Q' E s:=kP h λ_ _ ⟨_,I,q⟩=>k _ _ _ I q
def thH{t:Sem α}{Q:Hp->Prop}{Q':α->B0->Prop}(h:wpAny M A t (λ_ s'=>∃H',Inv X ζ O H' s'/\Q H') E s)(k:∀b s H,Inv X ζ O H s->Q H->Q' b s):wpAny M A t Q' E s:=kP h λ_ _ ⟨_,I,q⟩=>k _ _ _ I q
def thG{t:Sem α}{Q:cv}{Q':α->B0->Prop}(h:wpAny M A t (λ_ s'=>∃σ' H',Inv X ζ σ' H' s'/\Q σ' H') E s)(k:∀b s σ' H,Inv X ζ σ' H s->Q σ' H->Q' b s):wpAny M A t Q' E s:=kP h λ_ _ ⟨_,_,I,q⟩=>k _ _ _ _ I q
end
section
variable{X:Cx}
def ad5(i:Nat):TE:=λO H Q=>∃v,O[i]?=some (some v)/\Q v H
def tC(v:V):TE:=λ_ H Q=>Q v H
def eo6(hN:X.N[i]?=some x)(hv:Vis X.env.scope x)(hd:autoParam ((x==("__debug__":Str))=false) Z6)(hcd:autoParam ((x==("__classdict__":Str))=false) Z6):PE X (.Name x pos) (ad5 i):=by
 intro ζ s O H Q I h;obtain⟨v,e,h⟩:=h;obtain⟨m,hn,hl⟩:=I.loc;obtain⟨u,r,l⟩:=hl i x v hN e hv;have bP:EP X ζ O Q u s:=⟨v,H,I,r,h⟩;rcases l with⟨hk,hm⟩|⟨hk,c,hc,hcell⟩
 . exact wpAny_Name (wpAny_loadName_local I.ok.kind hk hn hm bP) hd
 . rcases hk with hk|hk
   . exact wpAny_Name (wpAny_loadName_cell I.ok.kind hk hc hcell bP) hd
   . exact wpAny_Name (wpAny_loadName_free I.ok.kind hk hc hcell bP hcd) hd
def aG{i j pos}:PE X (.Constant (.int i) j pos) (tC (.int i)):=λ_ _ _ H _ I h=>wpAny_Constant_int ⟨.int i,H,I.tok _,⟨_,rfl⟩,h⟩
def fU{b j pos}:PE X (.Constant (.bool b) j pos) (tC (.bl b)):=λ_ _ _ H _ I h=>Constant_bool ⟨.bl b,H,I,rfl,h⟩
def dZ{j pos}:PE X (.Constant .none j pos) (tC .non):=λ_ _ _ H _ I h=>Constant_none ⟨.non,H,I,rfl,h⟩
def cC{x j pos}:PE X (.Constant (.str x) j pos) (tC (.str x)):=λ_ _ _ H _ I h=>Calls.Constant_str ⟨.str x,H,I.tok _,⟨_,rfl⟩,h⟩
def Gl(X:Cx)(x:Str):Prop:=X.env.kindOf x=some .globalImplicit
def sF(I:Inv X ζ O H s)(hg:Gl X x)(hm:X.mg x=some u)(h:Q u s)
 (hd:autoParam ((x==("__debug__":Str))=false) Z6):wpAny (model X.prog X.w) X.A (eval (.Name x pos) X.env) Q E s:=
 Calls.Name_function_global I.ok.kind hg (Calls.loadGlobal_global (by rw[I.ok.glob];exact I.mod.glob.keeps I.bk) hm h) hd
def oM(I:Inv X ζ O H s)(hg:Gl X x)(hm:X.mg x=none)(hv:bootBuiltins x=some u)(h:Q u s)
 (hn:autoParam (x≠"__name__") Z6)(hd:autoParam ((x==("__debug__":Str))=false) Z6):wpAny (model X.prog X.w) X.A (eval (.Name x pos) X.env) Q E s:=by
 obtain⟨mb,h1,h2⟩:=I.mod.blt;exact Calls.Name_function_global I.ok.kind hg (Calls.loadGlobal_builtin (by rw[I.ok.glob];exact I.mod.glob.keeps I.bk) hm (by rw[I.ok.blt];exact h1.keeps I.bk) ((h2 x hn).trans hv) h) hd
def ey2(hg:Gl X x)(hm:X.mg x=some u)(r:RelV v u)(hd:autoParam ((x==("__debug__":Str))=false) Z6):PE X (.Name x pos) (tC v):=
 λ_ _ _ H _ I h=>sF I hg hm ⟨v,H,I,r,h⟩ hd
def ex1(hg:Gl X x)(hm:X.mg x=none)(hv:bootBuiltins x=some u)(r:RelV v u)(hn:autoParam (x≠"__name__") Z6)(hd:autoParam ((x==("__debug__":Str))=false) Z6):PE X (.Name x pos) (tC v):=
 λ_ _ _ H _ I h=>oM I hg hm hv ⟨v,H,I,r,h⟩ hn hd
variable{a b:Expr}{ta tb:TE}{pos:Pos}
def PC(X:Cx)(op:CmpOp)(a b:Expr)(t:TE):Prop:=
 ∀⦃ζ:ad⦄ (s:B0)(O:St)(H:Hp)(Q:VK),Inv X ζ O H s->t O H Q->
  wpAny (model X.prog X.w) X.A (eval a X.env) (λv s₁=>wpAny (model X.prog X.w) X.A (eval b X.env) (λu s₂=>wpAny (model X.prog X.w) X.A (compareOp op v u) (EP X ζ O Q) X.xe s₂) X.xe s₁) X.xe s
def tB(t:TE):TT:=λO H Q=>t O H λx H1=>∃c,x=.bl c/\Q c H1
def ez8(h:PC X op a b t)(h1:behindInMarks op b=false:=by first|exact fb6 _ Y2 Y2|rfl):PT X (.Compare a [op] [b] pos) (tB t):=by intro ζ s O H Q I hw;refine wpAny_isTrue_Compare1 (kP (h s O H _ I hw) λv s1 h1=>kP h1 λu s2 h2=>jE h2 λc s3 x H1 I1 r1 q1=>?_) h1;obtain⟨d,rfl,q⟩:=q1;cases r1;exact K9 ⟨H1,I1,q⟩
variable{tA tB':TT}{rest:bj}
def es4(t u:TT):TT:=λO H Q=>t O H λc H1=>if c=true then u O H1 Q else Q false H1
def tOr(t u:TT):TT:=λO H Q=>t O H λc H1=>if c=true then Q true H1 else u O H1 Q
def em9(t:TT):TT:=λO H Q=>t O H λc H1=>Q (!c) H1
theorem pF(ha:PT X a tA):PW X (.BoolOp .And [a] pos) tA:=by
 intro wh ζ s O H Q I h;refine isTrue_and (kP (ha s O H Q I h) λc s1 e=>?_);cases c with
 |true=>exact isTrue_and_nil e
 |false=>exact e
theorem mB(ha:PT X a tA):PW X (.BoolOp .Or [a] pos) tA:=by
 intro wh ζ s O H Q I h;refine isTrue_or (kP (ha s O H Q I h) λc s1 e=>?_);cases c with
 |false=>exact isTrue_or_nil e
 |true=>exact e
theorem qB(ha:PT X a tA)(hb:PW X (.BoolOp .And (b::rest) pos) tB'):PW X (.BoolOp .And (a::b::rest) pos) (es4 tA tB'):=by
 intro wh ζ s O H Q I h;refine isTrue_and (thT (ha s O H _ I h) λc s1 H1 I1 q1=>?_);cases c with
 |true=>exact hb ζ s1 O H1 Q I1 q1
 |false=>exact⟨H1,I1,q1⟩
theorem lF(ha:PT X a tA)(hb:PW X (.BoolOp .Or (b::rest) pos) tB'):PW X (.BoolOp .Or (a::b::rest) pos) (tOr tA tB'):=by
 intro wh ζ s O H Q I h;refine isTrue_or (thT (ha s O H _ I h) λc s1 H1 I1 q1=>?_);cases c with
 |true=>exact⟨H1,I1,q1⟩
 |false=>exact hb ζ s1 O H1 Q I1 q1
def dE(ha:PT X a tA):PT X (.UnaryOp .Not a pos) (em9 tA):=by intro ζ s O H Q I h;exact isTrue_not (ha s O H (λc H1=>Q (!c) H1) I h)
def dx8(ta tb:TE):TE:=λO H Q=>ta O H λx H1=>∃c,x=.bl c/\if c=true then tb O H1 Q else Q (.bl false) H1
def dl9(ta:TE):TE:=λO H Q=>ta O H λx H1=>∃c,x=.bl c/\Q (.bl (!c)) H1
def wA{op}(h:PE X a t):PE X (.BoolOp op [a] pos) t:=λζ s O H Q I hw=>BoolOp_one (h s O H Q I hw)
theorem vV(ha:PE X a ta)(hb:PE X (.BoolOp .And (b::rest) pos) tb):PE X (.BoolOp .And (a::b::rest) pos) (dx8 ta tb):=by
 intro ζ s O H Q I h;refine BoolOp_and (jE (ha s O H _ I h) λv s1 x H1 I1 r1 q1=>?_);obtain⟨c,rfl,q1⟩:=q1;cases r1;refine K9 ?_;cases c with
 |true=>exact hb s1 O H1 Q I1 q1
 |false=>exact⟨.bl false,H1,I1,rfl,q1⟩
def cw0(ha:PE X a ta):PE X (.UnaryOp .Not a pos) (dl9 ta):=by intro ζ s O H Q I h;refine UnaryOp_ (jE (ha s O H _ I h) λv s1 x H1 I1 r1 q1=>?_);obtain⟨c,rfl,q1⟩:=q1;cases r1;exact not_of (K9 ⟨.bl (!c),H1,I1,rfl,q1⟩)
def tIf(t:TT)(ta tb:TE):TE:=λO H Q=>t O H λc H1=>if c=true then ta O H1 Q else tb O H1 Q
theorem an7(hc:PT X c tA)(ha:PE X a ta)(hb:PE X b tb):PE X (.IfExp c a b pos) (tIf tA ta tb):=by
 intro ζ s O H Q I h;refine wpAny_IfExp (thT (hc s O H _ I h) λd s1 H1 I1 q1=>?_);cases d with
 |true=>exact ha s1 O H1 Q I1 q1
 |false=>exact hb s1 O H1 Q I1 q1
end
def SqL(K:A1)(H:Hp)(a:Addr)(xs:a9):Prop:=
 Rd H a (.lst xs)\/
  ∃(o:Obj)(its:bx)(n:Nat),K.lookup a=some o/\o.cls=.type "list"/\o.dict=none/\o.data=.seq its n/\its.size<=sizeLine/\Vals xs its.toList
def SqT(K:A1)(H:Hp)(a:Addr)(xs:a9):Prop:=
 Rd H a (.tup xs)\/
  ∃(o:Obj)(its:bx)(n:Nat),K.lookup a=some o/\o.cls=.type "tuple"/\o.data=.seq its n/\its.size<=sizeLine/\Vals xs its.toList
noncomputable def fi6:Value->Option V
 |.none=>some .non
 |.bool b=>some (.bl b)
 |.int i _=>some (.int i)
 |.str x _=>some (.str x)
 |.bytes b _=>some (.byt b)
 |.float b _=>some (.flt b)
 |.ref a=>some (.ref a)
 |.type n=>some (.ty n)
 |_=>none
theorem RelV.abs(r:RelV x u):fi6 u=some x:=by
 cases x with
 |int _=>obtain⟨t,rfl⟩:=r;rfl
 |str _=>obtain⟨t,rfl⟩:=r;rfl
 |byt _=>obtain⟨t,rfl⟩:=r;rfl
 |flt _=>obtain⟨t,rfl⟩:=r;rfl
 |_=>cases r;rfl
def RelV.inj(r:RelV x u)(q:RelV y u):x=y:=E9 (r.abs.symm.trans q.abs)
theorem Vals.inj:∀{xs ys:a9}{us:aq},Vals xs us->Vals ys us->xs=ys
 |_,_,_,.nil,.nil=>rfl
 |_,_,_,.cons r t,.cons r' t'=>by rw[r.inj r',Vals.inj t t']
section
variable{X:Cx}{ζ:ad}{O:St}{H:Hp}{s:B0}{a:Addr}{xs ys:a9}
def SqL.of{K:A1}(h:H a=some (.lst xs)):SqL K H a xs:=.inl (.inl h)
def SqT.of{K:A1}(h:H a=some (.tup xs)):SqT K H a xs:=.inl (.inl h)
def Inv.list(I:Inv X ζ O H s)(h:SqL X.K H a xs):∃its:List Value,Vals xs its/\PlainL s.heap a its.toArray/\xs.length<=sizeLine:=by
 rcases h with h|⟨o,its,n,hk,hc,hd,hs,hz,r⟩
 . obtain⟨z,its,n,r,e⟩:=h.ok I.hok;exact⟨its,r,⟨_,n,e,rfl,rfl,rfl⟩,z⟩
 . refine⟨its.toList,r,⟨o,n,I.kIn a o hk,hc,hd,by simpa using hs⟩,?_⟩;have e:=r.length;simp only[Array.length_toList]at e;omega
def Inv.tuple(I:Inv X ζ O H s)(h:SqT X.K H a xs):∃its:List Value,Vals xs its/\IsTup s.heap a its.toArray/\xs.length<=sizeLine:=by
 rcases h with h|⟨o,its,n,hk,hc,hs,hz,r⟩
 . obtain⟨z,its,r,p⟩:=h.ok I.hok;exact⟨its,r,p,z⟩
 . refine⟨its.toList,r,⟨o,I.kIn a o hk,hc,n,by simpa using hs⟩,?_⟩;have e:=r.length;simp only[Array.length_toList]at e;omega
def Inv.list_inj(I:Inv X ζ O H s)(h:SqL X.K H a xs)(h':SqL X.K H a ys):xs=ys:=by
 obtain⟨its,r,⟨o,n,e,_,_,d⟩,_⟩:=I.list h;obtain⟨its',r',⟨o',n',e',_,_,d'⟩,_⟩:=I.list h';rw[e]at e';cases e';rw[d]at d';injection d' with d1 _;have:its=its':=by simpa using N4 Array.toList d1
 subst this;exact r.inj r'
def Inv.tuple_inj(I:Inv X ζ O H s)(h:SqT X.K H a xs)(h':SqT X.K H a ys):xs=ys:=by
 obtain⟨its,r,⟨o,e,_,n,d⟩,_⟩:=I.tuple h;obtain⟨its',r',⟨o',e',_,n',d'⟩,_⟩:=I.tuple h';rw[e]at e';cases e';rw[d]at d';injection d' with d1 _;have:its=its':=by simpa using N4 Array.toList d1
 subst this;exact r.inj r'
end
noncomputable abbrev Cx.wish(X:Cx)(E:ag):Cx:={X with xe:=E}
abbrev Cx.nox(X:Cx):Cx:=X.wish λ_ _=>False
theorem Cx.Ok.wish{X:Cx}(ok:X.Ok)(E:ag):(X.wish E).Ok:=
 ⟨ok.mod,ok.kind,ok.glob,ok.blt,ok.above,ok.inj,ok.has,ok.cab,ok.hd,ok.frames,ok.stk,ok.exf,ok.bs,ok.bsz,ok.noex,ok.exfs,ok.funs,ok.frf⟩
def Cx.Ok.unwish{X:Cx}{E:ag}(ok:(X.wish E).Ok):X.Ok:=
 ⟨ok.mod,ok.kind,ok.glob,ok.blt,ok.above,ok.inj,ok.has,ok.cab,ok.hd,ok.frames,ok.stk,ok.exf,ok.bs,ok.bsz,ok.noex,ok.exfs,ok.funs,ok.frf⟩
section
variable{X:Cx}{ζ:ad}{O:St}{H:Hp}{s:B0}{E:ag}
theorem Inv.wish(I:Inv X ζ O H s)(E:ag):Inv (X.wish E) ζ O H s:=⟨I.ok.wish E,I.os,I.bare,I.base,I.loc,I.cell,I.free,I.freeC,I.pin,I.hok,I.len⟩
theorem Inv.unwish(I:Inv (X.wish E) ζ O H s):Inv X ζ O H s:=⟨I.ok.unwish,I.os,I.bare,I.base,I.loc,I.cell,I.free,I.freeC,I.pin,I.hok,I.len⟩
theorem SP.unwish(h:SP (X.wish E) ζ D f s'):SP X ζ D f s':=by
 cases f with
 |ret u=>refine z32 h λv σ' H' I r q=>?_;exact⟨v,σ',H',I.unwish,r,q⟩
 |_=>refine z21 h λσ' H' I q=>?_;exact⟨σ',H',I.unwish,q⟩
theorem PSs.nox{st:da}{t:TS}(h:PSs X.nox st t):PSs X st t:=λζ s O H D I hw=>
 J1 (h s O H D (I.wish _) hw) (λ_ _ q=>q.unwish) λ_ _ z=>False.elim z
end
section
variable{X:Cx}{st:Stmt}{rest:da}{t u:TS}{e:Expr}{te:TE}{pos:Pos}
def de9:TS:=λD O H=>D.nx O H
def el5(t u:TS):TS:=λD O H=>t {D with nx:=u D} O H
def bI:PSs X [] de9:=λ_ _ O H _ I h=>S7 ⟨O,H,I,h⟩
theorem aH(h1:PS X st t)(h2:PSs X rest u):PSs X (st::rest) (el5 t u):=by
 intro ζ s O H D I h;refine wpAny_execs_cons (kP (h1 s O H {D with nx:=u D} I h) λf s1 q=>?_);cases f with
 |next=>refine z21 q λσ' H' I' q=>?_;exact h2 s1 σ' H' D I' q
 |_=>exact q
theorem aK(h1:PS X st t):PSs X [st] t:=by
 intro ζ s O H D I h;refine wpAny_execs_cons (kP (h1 s O H D I h) λf s1 q=>?_);cases f with
 |next=>exact S7 q
 |_=>exact q
def do2:TS:=λD O H=>D.bk O H
def do4:PS X (.Break pos) do2:=λ_ _ O H _ I h=>wpAny_Break ⟨O,H,I,h⟩
def Inv.quiet(I:Inv X ζ O H s):interactive X.env=false:=by simp[interactive,I.ok.kind]
def bu7(te:TE):TS:=λD O H=>te O H λ_ H1=>D.nx O H1
def fH(he:PE X e te)(hs:autoParam (swapsWith e none pos.line X.env=pure false) Z8):PS X (.Expr e pos) (bu7 te):=by intro ζ s O H D I h;exact wpAny_Expr_any (jE (he s O H _ I h) λv s1 x H1 I1 r1 q1=>⟨O,H1,I1,q1⟩) I.quiet hs
def di5(te:TE):TS:=λD O H=>te O H D.rt
def aQ(he:PE X e te):PS X (.Return (some e) pos) (di5 te):=by intro ζ s O H D I h;exact wpAny_Return_some (jE (he s O H _ I h) λv s1 x H1 I1 r1 q1=>⟨x,O,H1,I1,r1,q1⟩)
def er9(c:TT)(t u:TS):TS:=λD O H=>c O H λb H1=>if b=true then t D O H1 else u D O H1
theorem bT(hc:PT X c tc)(ha:PSs X a t)(hb:PSs X b u):PS X (.If c a b pos) (er9 tc t u):=by
 intro ζ s O H D I h;refine wpAny_If (thT (hc s O H _ I h) λd s1 H1 I1 q1=>?_);cases d with
 |true=>exact ha s1 O H1 D I1 q1
 |false=>exact hb s1 O H1 D I1 q1
end
abbrev TG:=V->St->Hp->(St->Hp->Prop)->Prop
abbrev TGs:=List V->St->Hp->(St->Hp->Prop)->Prop
def PG(X:Cx)(target:Expr)(t:TG):Prop:=
 ∀⦃ζ:ad⦄ (s:B0)(O:St)(H:Hp)(v:V)(u:Value)(Q:cv),Inv X ζ O H s->RelV v u->t v O H Q->
  wpAny (model X.prog X.w) X.A (assign target X.env u) (λ_ s'=>∃σ' H',Inv X ζ σ' H' s'/\Q σ' H') X.xe s
def PGs(X:Cx)(ts:bj)(t:TGs):Prop:=
 ∀⦃ζ:ad⦄ (s:B0)(O:St)(H:Hp)(vs:a9)(us:aq)(Q:cv),Inv X ζ O H s->Vals vs us->t vs O H Q->
  wpAny (model X.prog X.w) X.A (assignInOrder ((assignEach ts X.env).map (·.2)) us) (λ_ s'=>∃σ' H',Inv X ζ σ' H' s'/\Q σ' H') X.xe s
abbrev ed8:=V->V->V->Hp->(Hp->Prop)->Prop
def eg8(X:Cx)(t:ed8):Prop:=
 ∀⦃ζ:ad⦄ (s:B0)(O:St)(H:Hp)(o i v:V)(ov iv u:Value)(Q:Hp->Prop),Inv X ζ O H s->RelV o ov->RelV i iv->RelV v u->t o i v H Q->
  wpAny (model X.prog X.w) X.A (setItem ov iv u) (λ_ s'=>∃H',Inv X ζ O H' s'/\Q H') X.xe s
section
variable{X:Cx}{pos:Pos}
def as5(i:Nat):TG:=λv O H Q=>Q (O.set i (some v)) H
def eg4(hN:X.N.Nodup)(hi:X.N[i]?=some x)(hx:Loc X.env.scope x)(hf:autoParam (X.fn x=true\/X.env.scope.names.lookup x=some .local) Z0):PG X (.Name x pos) (as5 i):=by intro ζ s O H v u Q I r h;exact wpAny_assign_Name (aw7 I hN hi hx r (λs' I'=>⟨_,H,I',h⟩) hf)
def ei6:TGs:=λvs O H Q=>vs=[]/\Q O H
def cl6(t:TG)(u:TGs):TGs:=λvs O H Q=>∃v r,vs=v::r/\t v O H λσ' H'=>u r σ' H' Q
def gF:PGs X [] ei6:=by intro ζ s O H vs us Q I r h;obtain⟨e,h⟩:=h;subst e;cases r;exact assignInOrder_nil ⟨O,H,I,h⟩
theorem bM(h1:PG X e t)(h2:PGs X es u)
 (hs:autoParam ((assignEach (e::es) X.env).map (·.2)=assign e X.env::(assignEach es X.env).map (·.2)) Z8):PGs X (e::es) (cl6 t u):=by
 intro ζ s O H vs us Q I r h;obtain⟨v,vr,e1,h⟩:=h;subst e1;cases r with
 |cons r rr=>rw[hs];refine assignInOrder_cons (thG (h1 s O H _ _ _ I r h) λ_ s1 σ1 H1 I1 q1=>?_);exact h2 s1 σ1 H1 _ _ Q I1 rr q1
def dp6(K:A1)(n:Nat)(t:TGs):TG:=λv O H Q=>∃a xs,v=.ref a/\SqT K H a xs/\xs.length=n/\t xs O H Q
def ep8(hc:X.calm=true)(h:PGs X es t)
 (hn:autoParam ((assignEach es X.env).length=n) Z8)(hst:autoParam ((assignEach es X.env).findIdx? (·.1)=none) Z8):PG X (.Tuple es k pos) (dp6 X.K n t):=by
 intro ζ s O H v u Q I r hw;obtain⟨a,xs,e1,hq,hl,hw⟩:=hw;subst e1;cases r;obtain⟨its,rv,ht,hz⟩:=I.tuple hq;refine assign_Tuple_tuple (I.ok.hd hc) ht (by simp[hn,<-hl,rv.length]) hst λh' hx=>?_;have I1:Inv X ζ O H {s with heap:=h'}:=I.kept (t':=s.toks) λb o e=>hx b o (F8 (D0 e)) e;exact h _ O H xs _ Q I1 (by simpa using rv) hw
def ed9(to ti:TE)(t:ed8):TG:=λv O H Q=>to O H λo H1=>ti O H1 λi H2=>t o i v H2 λH3=>Q O H3
def ai3(ho:PE X o to)(hi:PE X i ti)(hs:eg8 X t)
 (ha:∀v,assign (.Subscript o i pos) X.env v=(do
  let ov<-holding [v] (eval o X.env);let iv<-holding [v,ov] (eval i X.env)
  standAt pos
  holding [v,ov,iv] (setItem ov iv v)
  release [v,ov,iv] []):=by intro _;rfl):PG X (.Subscript o i pos) (ed9 to ti t):=by
 intro ζ s O H v u Q I r h;rw[ha];refine A3 (Q0 (jE (ho s O H _ I h) λov s1 x H1 I1 r1 q1=>?_));refine A3 (Q0 (jE (hi s1 O H1 _ I1 q1) λiv s2 y H2 I2 r2 q2=>?_));refine A3 (X0 (A3 (Q0 (thH (hs s2 O H2 x y v ov iv u _ I2 r1 r2 r q2) λ_ s3 H3 I3 q3=>?_))));exact wpAny_release ⟨O,H3,I3,q3⟩
def ba2(te:TE)(g:TG):TS:=λD O H=>te O H λx H1=>g x O H1 D.nx
def tE(he:PE X e te)(hg:PG X tg g)(hs:autoParam (swapsWithSole [tg] e pos.line X.env=pure false) Z8)(hw:autoParam (swappedStores [tg] e X.env=pure none) Z8)
 (h1:autoParam ((assignEach [tg] X.env).map (·.2)=[assign tg X.env]) Z8):PS X (.Assign [tg] e pos) (ba2 te g):=by
 intro ζ s O H D I h;refine wpAny_Assign_stores (jE (he s O H _ I h) λv s1 x H1 I1 r1 q1=>?_) hs hw;rw[h1];exact kP (hg s1 O H1 x v _ I1 r1 q1) λ_ s2 q=>q
def ep9(hN:X.N.Nodup)(hi:X.N[i]?=some x)(hx:Loc X.env.scope x)(he:PE X e te)(hs:autoParam (swapsWith e (some (.Name x pos')) pos.line X.env=pure false) Z8)(hf:autoParam (X.fn x=true\/X.env.scope.names.lookup x=some .local) Z0):
 PS X (.Assign [.Name x pos'] e pos) (ba2 te (as5 i)):=by
 intro ζ s O H D I h;refine wpAny_Assign_Name (jE (he s O H _ I h) λv s1 y H1 I1 r1 q1=>?_) hs;exact aw7 I1 hN hi hx r1 (λs2 I2=>⟨_,H1,I2,q1⟩) hf
def ck9(c:TT)(tb:TS):TS:=λD O H=>∃W:Nat->St->Hp->Prop,(∃m,W m O H)/\∀m O H,W m O H->
 c O H λb H1=>if b=true then∃N:St->Hp->Prop,(∀σ' H',N σ' H'->∃m',m'<m/\W m' σ' H')/\tb {D with nx:=N,ct:=N,bk:=D.nx} O H1 else D.nx O H1
theorem dj7(hp:PassesOwn (model X.prog X.w) X.A X.env X.xe)(hc:PT X c tc)(hb:PSs X body tb):PS X (.While c body [] pos) (ck9 tc tb):=by
 intro ζ s O H D I h;obtain⟨W,⟨m0,w0⟩,turn⟩:=h;refine wpAny_While (codeAny_whileLoop (λn s'=>∃σ' H',Inv X ζ σ' H' s'/\W n σ' H') ?_ m0 ⟨O,H,I,w0⟩);rintro n s1 ⟨σ1,H1,I1,w1⟩;refine P8 hp (thT (hc s1 σ1 H1 _ I1 (turn n σ1 H1 w1)) λb s2 H2 I2 q2=>?_);cases b with
 |true=>
  obtain⟨N,hN,q2⟩:=q2;rw[C7 rfl];refine P8 hp (kP (hb s2 σ1 H2 _ I2 q2) λf s3 q3=>?_);cases f with
  |next=>refine z21 q3 λσ3 H3 I3 n3=>?_;obtain⟨m',hm,w3⟩:=hN σ3 H3 n3;exact⟨m',hm,σ3,H3,I3,w3⟩
  |cont=>refine z21 q3 λσ3 H3 I3 n3=>?_;obtain⟨m',hm,w3⟩:=hN σ3 H3 n3;exact⟨m',hm,σ3,H3,I3,w3⟩
  |_=>exact q3
 |false=>rw[D3 D9];exact S7 ⟨σ1,H2,I2,q2⟩
end
structure It where
 go:Nat->Hp->Prop
 yld:Nat->Hp->V->Hp->Prop
 stop:Nat->Hp->Prop
def uU(X:Cx)(ζ:ad)(H:Hp)(b:Addr):Prop:=
 H b=none/\b≠X.env.locals/\b∉X.fs/\(b∈X.ex\/X.s₀.heap.objs.size<=b)/\(∀x c,X.env.cells.lookup x=some c->c≠b)/\∀p∈X.pn++ζ,p.1≠b
def Inv.fpOk(I:Inv X ζ O H s)(hb:s.heap.objs.size<=b)(hn:H' b=none):uU X ζ H' b:=by
 refine⟨hn,U9 (E5 I.lt hb),I.nofs hb,.inr (J2 I.sz hb),λx c e z=>?_,λp hp z=>?_⟩
 . obtain⟨v,q⟩:=I.cell x c e;exact D8 (E5 q.lt (by rw[z];exact hb)) (N3 _)
 . exact D8 (E5 (D0 (I.pin p hp).1) (by rw[z];exact hb)) (N3 _)
structure an4 (P:E2) (w:World) (K:A1) (tg:Expr) (J:It) (fp:ao) (it:Addr) (tn:Nat->Heap->Prop):Prop where
 mem:it∈fp
 obj:∀i h,tn i h->∀b∈fp,∃o,h.get? b=some o/\∀v,o.data≠ .cell v
 keep:∀i h h',tn i h->(∀b∈fp,∀o,h.get? b=some o->h'.get? b=some o)->tn i h'
 item:∀(X:Cx),X.prog=P->X.w=w->X.K=K->X.calm=true->∀(i:Nat)(ζ:ad)(s:B0)(O:St)(H:Hp)(E:ag),Inv X ζ O H s->(∀b∈fp,uU X ζ H b)->tn i s.heap->J.go i H->
  wpAny (model P w) X.A (pyNext (.ref it)) (λr s1=>∃u,r=some u/\
   wpAny (model P w) X.A (letOwnedTupleGo tg (.ref it) u) (λ_ s2=>∃x H',Inv X ζ O H' s2/\RelV x u/\J.yld i H x H'/\tn (i+1) s2.heap/\∀b∈fp,H' b=none) E s1) E s
 done:∀(X:Cx),X.prog=P->X.w=w->X.K=K->X.calm=true->∀(i:Nat)(ζ:ad)(s:B0)(O:St)(H:Hp)(E:ag),Inv X ζ O H s->(∀b∈fp,uU X ζ H b)->tn i s.heap->J.stop i H->
  wpAny (model P w) X.A (pyNext (.ref it)) (λr s1=>r=none/\Inv X ζ O H s1) E s
 self:∀(A:G0)(i:Nat)(s:B0)(Q:ag)(E:ag),tn i s.heap->Q (.ref it) s->wpAny (model P w) A (pyIter (.ref it)) Q E s
abbrev TI:=St->Hp->(It->Hp->Prop)->Prop
def PIE(X:Cx)(ζ:ad)(O:St)(tg:Expr)(R:It->Hp->Prop)(itv:Value)(s2:B0):Prop:=
 ∃(it:Addr)(fp:ao)(tn:Nat->Heap->Prop)(J:It)(H':Hp),itv=.ref it/\Inv X ζ O H' s2/\an4 X.prog X.w X.K tg J fp it tn/\tn 0 s2.heap/\(∀b∈fp,uU X ζ H' b)/\R J H'
def PI(X:Cx)(tg iter:Expr)(wi:TI):Prop:=
 ∀⦃ζ:ad⦄ (s:B0)(O:St)(H:Hp)(R:It->Hp->Prop),Inv X ζ O H s->wi O H R->
  wpAny (model X.prog X.w) X.A (eval iter X.env) (λv s1=>wpAny (model X.prog X.w) X.A (pyIter v) (PIE X ζ O tg R) X.xe s1) X.xe s
def cl5 (ho : s.heap.get? it = some o) (hc : o.cls = .type n) (hd : o.data = .fields vs)
    (hn : ["enumerate", "zip", "dict_itemiterator", "dict_reverseitemiterator", "odict_iterator", "itertools.zip_longest", "itertools.pairwise"].contains n = false) (hQ : Q () s) : wpAny M A (letOwnedTupleGo tg (.ref it) u) Q E s := by
  unfold letOwnedTupleGo
  cases tg <;> first
    | exact C5 hQ
    | (cases u <;> first
        | exact C5 hQ
        | (refine A3 (wpAny_load ho ?_)
           rw [hc, hd]
           show wpAny M A (if (["enumerate", "zip", "dict_itemiterator", "dict_reverseitemiterator", "odict_iterator", "itertools.zip_longest", "itertools.pairwise"].contains n && vs[0]? == some (rawInt _)) = true then _ else _) Q E s
           rw [D3 (by intro h; rw [hn, Bool.false_and] at h; cases h)]
           exact C5 hQ))
def Itl(K:A1)(a:Addr):It:=
 ⟨λi H=>∃xs x,SqL K H a xs/\xs[i]?=some x,λi H x H'=>H'=H/\∀xs,SqL K H a xs->xs[i]?=some x,λi H=>∃xs,SqL K H a xs/\xs.length<=i⟩
def Itt(K:A1)(a:Addr):It:=
 ⟨λi H=>∃xs x,SqT K H a xs/\xs[i]?=some x,λi H x H'=>H'=H/\∀xs,SqT K H a xs->xs[i]?=some x,λi H=>∃xs,SqT K H a xs/\xs.length<=i⟩
def Itr(lo:Int)(n:Nat):It:=⟨λi _=>i<n,λi H x H'=>H'=H/\x=.int (lo+i),λi _=>n<=i⟩
def do0{P:E2}{w:World}{K:A1}{tg:Expr}(a it:Addr):an4 P w K tg (Itl K a) [it] it (λi h=>h.IsListIter it a i) where
 mem:=Y1
 obj:=λi h st b hb=>by
  have e:b=it:=by simpa using hb
  subst e;refine z12 st λo e c d=>?_;exact⟨o,e,λv z=>by rw[d]at z;cases z⟩
 keep:=λi h h' st k=>st.at λo e=>k it Y1 o e
 item:=by intro X hP hw hK hc i ζ s O H E I hf st hg;subst hP hw hK;refine z21 hg λxs x hq hx=>?_;refine z12 (I.list hq) λits rv p hz=>?_;obtain⟨u,hu,ru⟩:=rv.get hx;obtain⟨f0,f1,f2,f3,f4,f5⟩:=hf it Y1;refine wpAny_pyNext_list_item st p.isList (x:=u) (by simpa using hu) λh' st' sb=>?_;have I1:Inv X ζ O H {s with heap:=h'}:=I.turned (t':=s.toks) (λb o hb e=>(sb.2 b hb).trans e) f0 f1 f3 f4 f5;refine z12 (id st') λo e c d=>?_;exact⟨u,rfl,cl5 (s:={s with heap:=h'}) e c d Y2 ⟨x,H,I1,ru,⟨rfl,λys hy=>by rw[I.list_inj hy hq];exact hx⟩,st',λb hb=>(hf b hb).1⟩⟩
 done:=by intro X hP hw hK hc i ζ s O H E I hf st hg;subst hP hw hK;obtain⟨xs,hq,hx⟩:=hg;refine z12 (I.list hq) λits rv p hz=>?_;obtain⟨f0,f1,f2,f3,f4,f5⟩:=hf it Y1;have hl:=rv.length;exact wpAny_pyNext_list_end (I.ok.hd hc) st p.isList (by simp;omega) λh' eb=>⟨rfl,I.turned (t':=s.toks) (λb o hb e=>eb b o hb e) f0 f1 f3 f4 f5⟩
 self:=λ_ _ _ _ _ st h=>wpAny_pyIter_listiter st h
def cd7{P:E2}{w:World}{K:A1}{tg:Expr}(a it:Addr):an4 P w K tg (Itt K a) [it] it (λi h=>h.IsTupleIter it a i) where
 mem:=Y1
 obj:=λi h st b hb=>by
  have e:b=it:=by simpa using hb
  subst e;refine z12 st λo e c d=>?_;exact⟨o,e,λv z=>by rw[d]at z;cases z⟩
 keep:=λi h h' st k=>st.at λo e=>k it Y1 o e
 item:=by intro X hP hw hK hc i ζ s O H E I hf st hg;subst hP hw hK;refine z21 hg λxs x hq hx=>?_;refine z12 (I.tuple hq) λits rv p hz=>?_;obtain⟨u,hu,ru⟩:=rv.get hx;obtain⟨f0,f1,f2,f3,f4,f5⟩:=hf it Y1;refine wpAny_pyNext_tuple_item st (show s.heap.IsTuple a its.toArray from p) (x:=u) (by simpa using hu) λh' st' sb=>?_;have I1:Inv X ζ O H {s with heap:=h'}:=I.turned (t':=s.toks) (λb o hb e=>(sb.2 b hb).trans e) f0 f1 f3 f4 f5;refine z12 (id st') λo e c d=>?_;exact⟨u,rfl,cl5 (s:={s with heap:=h'}) e c d Y2 ⟨x,H,I1,ru,⟨rfl,λys hy=>by rw[I.tuple_inj hy hq];exact hx⟩,st',λb hb=>(hf b hb).1⟩⟩
 done:=by intro X hP hw hK hc i ζ s O H E I hf st hg;subst hP hw hK;obtain⟨xs,hq,hx⟩:=hg;refine z12 (I.tuple hq) λits rv p hz=>?_;obtain⟨f0,f1,f2,f3,f4,f5⟩:=hf it Y1;have hl:=rv.length;exact wpAny_pyNext_tuple_end (I.ok.hd hc) st (show s.heap.IsTuple a its.toArray from p) (by simp;omega) λh' eb=>⟨rfl,I.turned (t':=s.toks) (λb o hb e=>eb b o hb e) f0 f1 f3 f4 f5⟩
 self:=λ_ _ _ _ _ st h=>wpAny_pyIter_tupleiter st h
def cg6{P:E2}{w:World}{K:A1}{tg:Expr}(it:Addr)(lo:Int)(n:Nat):an4 P w K tg (Itr lo n) [it] it (λi h=>IsRangeIter h it (lo+(i:Nat)*1) ((n:Int)-(i:Nat)) 1) where
 mem:=Y1
 obj:=λi h st b hb=>by
  have e:b=it:=by simpa using hb
  subst e;exact⟨_,st,λv z=>by have z':Data.fields _=Data.cell v:=z;cases z'⟩
 keep:=λi h h' st k=>k it Y1 _ st
 item:=by intro X hP hw hK hc i ζ s O H E I hf st hg;subst hP hw hK;obtain⟨f0,f1,f2,f3,f4,f5⟩:=hf it Y1;have W:=Walks.range (prog:=X.prog) (w:=X.w) (I.ok.hd hc) it lo 1 n;refine W.item i s _ _ hg st λv h' tk hv st' kk=>?_;obtain⟨t,rfl⟩:=hv;have I1:Inv X ζ O H {s with heap:=h',toks:=tk}:=I.turned (λb o hb e=>kk b o (by simpa using hb) e) f0 f1 f3 f4 f5;refine⟨_,rfl,cl5 (s:={s with heap:=h',toks:=tk}) (n:="range_iterator") st' rfl rfl Y2 ⟨.int (lo+i),H,I1,⟨t,?_⟩,⟨rfl,rfl⟩,st',λb hb=>(hf b hb).1⟩⟩;rw[Int.mul_one]
 done:=by intro X hP hw hK hc i ζ s O H E I hf st hg;subst hP hw hK;obtain⟨f0,f1,f2,f3,f4,f5⟩:=hf it Y1;exact wpAny_pyNext_range_end (I.ok.hd hc) st (by have:n<=i:=hg;omega) λh' eb=>⟨rfl,I.turned (t':=s.toks) (λb o hb e=>eb b o hb e) f0 f1 f3 f4 f5⟩
 self:=λ_ _ _ _ _ st h=>wpAny_pyIter_rangeiter st h
section
variable{X:Cx}{tg:Expr}
def bf8{ζ:ad}{O:St}{H:Hp}{s:B0}{R:It->Hp->Prop}{E:ag}{lo hi:Int}{t u v:Tok}{tk:Nat}(I:Inv X ζ O H s)(h1:-(2^62)<=lo)(h2:lo<2^62)(h3:-(2^62)<=hi)(h4:hi<2^62)
 (q:R (Itr lo (hi-lo).toNat) H):wpAny (model X.prog X.w) X.A (pyIter (.ref s.heap.objs.size)) (PIE X ζ O tg R) E {s with heap:=s.heap.push {cls:=.type "range",data:=.fields #[.int lo t,.int hi u,.int 1 v]},toks:=tk}:=by
 refine wpAny_pyIter_range (IsRange.new ..) (small_one h1 h2 h3 h4) ?_;have I1:Inv X ζ O H {s with heap:=s.heap.push {cls:=.type "range",data:=.fields #[.int lo t,.int hi u,.int 1 v]},toks:=tk}:=I.kept λb o e=>A7 _ e;refine⟨(s.heap.push {cls:=.type "range",data:=.fields #[.int lo t,.int hi u,.int 1 v]}).objs.size,[(s.heap.push {cls:=.type "range",data:=.fields #[.int lo t,.int hi u,.int 1 v]}).objs.size],_,_,H,rfl,
  I1.kept (t':=tk) λb o e=>A7 _ e,cg6 _ lo (hi-lo).toNat,?_,λb hb=>?_,q⟩
 . have e1:lo+((0:Nat):Int)*1=lo:=Y1
   have e2:(((hi-lo).toNat:Nat):Int)-((0:Nat):Int)=Builtin.Range.rangeSize lo hi 1:=by rw[rangeSize_one];split<;>omega
   show IsRangeIter _ _ (lo+((0:Nat):Int)*1) ((((hi-lo).toNat:Nat):Int)-((0:Nat):Int)) 1;rw[e1,e2];exact D5 _ rfl
 . have e:b=(s.heap.push {cls:=.type "range",data:=.fields #[.int lo t,.int hi u,.int 1 v]}).objs.size:=by simpa using hb
   subst e;exact I1.fpOk (D4 _) (I1.hok.fresh (D4 _))
def dp8(ta:TA):TI:=λO H R=>ta O H λvs H1=>∃j:Int,vs=[.int j]/\-(2^62)<=j/\j<2^62/\R (Itr 0 j.toNat) H1
def di9(ta:TA):TI:=λO H R=>ta O H λvs H1=>∃i j:Int,vs=[.int i,.int j]/\(-(2^62)<=i/\i<2^62/\-(2^62)<=j/\j<2^62)/\R (Itr i (j-i).toNat) H1
theorem fF{a:Expr}{ta:TA}{p pos:Pos}(hg:Gl X "range")(hm:X.mg "range"=none)(ha:PA X [a] ta)(hs:autoParam (starEach [a] X.env=[(false,eval a X.env)]) Z8):PI X tg (.Call (.Name "range" p) [a] [] pos) (dp8 ta):=by
 intro ζ s O H R I h;refine Call_ (oM I hg hm boot_range (J9 (wP (ha ζ s O H _ I h) λus s1 vs H1 I1 r1 q1=>?_) hs rfl));obtain⟨j,e,q1,q2,q⟩:=q1;subst e;cases r1 with
 |cons r rr=>cases rr;obtain⟨t,rfl⟩:=r;exact call_range_1 (bf8 I1 X8 X8 q1 q2 (by simpa using q))
theorem ct9(hg:Gl X "range")(hm:X.mg "range"=none)(ha:PA X [a,b] ta)(hs:autoParam (starEach [a,b] X.env=[(false,eval a X.env),(false,eval b X.env)]) Z8)(hs2:autoParam (starEach [b] X.env=[(false,eval b X.env)]) Z8):
 PI X tg (.Call (.Name "range" p) [a,b] [] pos) (di9 ta):=by
 intro ζ s O H R I h;refine Call_ (oM I hg hm boot_range (J9 (wP (ha ζ s O H _ I h) λus s1 vs H1 I1 r1 q1=>?_) (by rw[hs,hs2]) (by rw[hs2];rfl)));obtain⟨i,j,e,⟨q1,q2,q3,q4⟩,q⟩:=q1;subst e;cases r1 with
 |cons r rr=>
  cases rr with
  |cons r' rr=>cases rr;obtain⟨t,rfl⟩:=r;obtain⟨t',rfl⟩:=r';exact call_range_2 (bf8 I1 q1 q2 q3 q4 q)
def eu8(wi:TI)(g:TG)(tb:TS):TS:=λD O H=>wi O H λJ H1=>∃W:Nat->Nat->St->Hp->Prop,(∃m,W 0 m O H1)/\∀i m O H,W i m O H->
 (J.stop i H/\D.nx O H)\/(J.go i H/\∃N:St->Hp->Prop,(∀σ' H',N σ' H'->∃m',m'<m/\W (i+1) m' σ' H')/\∀x H',J.yld i H x H'->g x O H' λσ2 H2=>tb {D with nx:=N,ct:=N,bk:=D.nx} σ2 H2)
def aa1(fp:ao)(h:Heap):List (Addr×Obj):=fp.filterMap λb=>(h.get? b).map λo=>(b,o)
def xH(hb:b∈fp)(e:h.get? b=some o):(b,o)∈aa1 fp h:=List.mem_filterMap.mpr ⟨b,hb,by rw[e];rfl⟩
theorem dd0(hp:p∈aa1 fp h):p.1∈fp/\h.get? p.1=some p.2:=by
 obtain⟨b,hb,e⟩:=List.mem_filterMap.mp hp;cases q:h.get? b with
 |none=>rw[q]at e;cases e
 |some o=>rw[q]at e;have e':(b,o)=p:=E9 e;subst e';exact⟨hb,q⟩
def Inv.pinned(I:Inv X ζ O H s)(hf:∀b∈fp,uU X ζ H b)(ho:∀b∈fp,∃o,s.heap.get? b=some o/\∀v,o.data≠ .cell v):Inv X (ζ++aa1 fp s.heap) O H s:=
 I.pins_of λp hp=>(A6.mp hp).elim (λz=>I.pin p (B5 _ z)) λz=>by obtain⟨hb,e⟩:=dd0 z;refine z03 (hf p.1 hb) λf0 f1 f2 _=>?_;obtain⟨o,e',d⟩:=ho p.1 hb;rw[e]at e';cases e';exact⟨e,f0,f1,f2,d⟩
def Inv.unpinned(I:Inv X (ζ++pl) O H s):Inv X ζ O H s:=I.pins_of λp hp=>I.pin p (B5 _ (C6 _ hp))
def fJ(hp:PassesOwn (model X.prog X.w) X.A X.env X.xe)(hc:X.calm=true)(hi:PI X tg iter wi)(hg:PG X tg g)(hb:PSs X body tb)
 (hs:autoParam (∀x,foldedSetIterable iter X.env x=pure x) ZY):PS X (.For tg iter body [] pos) (eu8 wi g tb):=by
 intro ζ s O H D I h;refine wpAny_For (kP (hi s O H _ I h) λv s1 h1=>kP h1 λitv s2 h2=>?_) hs;obtain⟨it,fp,tn,J,H2,e,I2,T,st2,f2,W,⟨m0,w0⟩,turn⟩:=h2;subst e;have stat:∀{H':Hp},(∀b∈fp,H' b=none)->∀b∈fp,uU X ζ H' b:=λhn b hb=>⟨hn b hb,(f2 b hb).2⟩;refine codeAny_forLoop_any (λn s'=>∃i σ' H',Inv X ζ σ' H' s'/\tn i s'.heap/\(∀b∈fp,H' b=none)/\W i n σ' H') ?_ m0 ⟨0,O,H2,I2,st2,λb hb=>(f2 b hb).1,w0⟩;rintro n s3 ⟨i,σ3,H3,I3,st3,fr3,w3⟩;rcases turn i n σ3 H3 w3 with⟨stop,qn⟩|⟨go,N,hN,step⟩
 . refine P8 hp (kP (T.done X rfl rfl rfl hc i ζ s3 σ3 H3 X.xe I3 (stat fr3) st3 stop) λr s4 ⟨hr,I4⟩=>?_);subst hr;exact S7 ⟨σ3,H3,I4,qn⟩
 . refine P8 hp (kP (T.item X rfl rfl rfl hc i ζ s3 σ3 H3 X.xe I3 (stat fr3) st3 go) λr s4 ⟨u,hr,h4⟩=>?_);subst hr;refine P8 hp (kP h4 λ_ s5 ⟨x,H5,I5,r5,y5,st5,fr5⟩=>?_);have I5':=I5.pinned (stat fr5) (T.obj _ _ st5);refine P8 hp (thG (hg s5 σ3 H5 x u _ I5' r5 (step x H5 y5)) λ_ s6 σ6 H6 I6 q6=>?_);refine P8 hp (kP (hb s6 σ6 H6 _ I6 q6) λf s7 q7=>?_);have again:∀{σ7:St}{H7:Hp},Inv X (ζ++aa1 fp s5.heap) σ7 H7 s7->N σ7 H7->∃m,m<n/\∃i σ' H',Inv X ζ σ' H' s7/\tn i s7.heap/\(∀b∈fp,H' b=none)/\W i m σ' H':=λ{σ7 H7} I7 n7=>by obtain⟨m',hm,w7⟩:=hN σ7 H7 n7;refine⟨m',hm,i+1,σ7,H7,I7.unpinned,T.keep _ _ _ st5 λb hb o e=>(I7.pin (b,o) (B5 _ (B5 _ (xH hb e)))).1,λb hb=>?_,w7⟩;obtain⟨o,e,d⟩:=T.obj _ _ st5 b hb;exact(I7.pin (b,o) (B5 _ (B5 _ (xH hb e)))).2.1
   cases f with
   |brk=>refine z21 q7 λσ7 H7 I7 q7=>?_;exact⟨σ7,H7,I7.unpinned,q7⟩
   |ret v=>refine z32 q7 λx7 σ7 H7 I7 r7 q7=>?_;exact⟨x7,σ7,H7,I7.unpinned,r7,q7⟩
   |_=>refine z21 q7 λσ7 H7 I7 n7=>?_;exact again I7 n7
end
abbrev R2:=V->V->Hp->VK->Prop
def OpR(X:Cx)(f:Value->Value->Sem Value)(r:R2):Prop:=
 ∀⦃ζ:ad⦄ (s:B0)(O:St)(H:Hp)(x y:V)(v u:Value)(Q:VK),Inv X ζ O H s->RelV x v->RelV y u->r x y H Q->
  wpAny (model X.prog X.w) X.A (f v u) (EP X ζ O Q) X.xe s
def UnR(X:Cx)(f:Value->Sem Value)(r:dc):Prop:=
 ∀⦃ζ:ad⦄ (s:B0)(O:St)(H:Hp)(x:V)(v:Value)(Q:VK),Inv X ζ O H s->RelV x v->r x H Q->
  wpAny (model X.prog X.w) X.A (f v) (EP X ζ O Q) X.xe s
def CallR(X:Cx)(f:Value)(r:cj):Prop:=
 ∀⦃ζ:ad⦄ (s:B0)(O:St)(H:Hp)(xs:a9)(us:aq)(Q:VK),Inv X ζ O H s->Vals xs us->r xs H Q->
  wpAny (model X.prog X.w) X.A (call f us) (EP X ζ O Q) X.xe s
def fa6(X:Cx)(r:V->Hp->(Bool->Hp->Prop)->Prop):Prop:=
 ∀⦃ζ:ad⦄ (s:B0)(O:St)(H:Hp)(x:V)(v:Value)(Q:b8),Inv X ζ O H s->RelV x v->r x H Q->
  wpAny (model X.prog X.w) X.A (truthy v) (TP X ζ O Q) X.xe s
def tOp(r:R2)(ta tb:TE):TE:=λO H Q=>ta O H λx H1=>tb O H1 λy H2=>r x y H2 Q
def tUn(r:dc)(ta:TE):TE:=λO H Q=>ta O H λx H1=>r x H1 Q
def rI(C:Int->Int->Prop)(g:db):R2:=λx y H Q=>∃i j,x=.int i/\y=.int j/\C i j/\Q (g i j) H
def xR(g:db):R2:=λx y H Q=>∃i j,x=.int i/\y=.int j/\Q (g i j) H
def rU(g:Int->V):V->Hp->VK->Prop:=λx H Q=>∃i,x=.int i/\Q (g i) H
section
variable{X:Cx}{a b c:Expr}{ta tb tc:TE}{pos:Pos}
def dl7(ha:PE X a ta)(hb:PE X b tb){ζ:ad}{s:B0}{O:St}{H:Hp}{R:V->V->Hp->Prop}(I:Inv X ζ O H s)
 (h:ta O H λx H1=>tb O H1 λy H2=>R x y H2){Q:ag}{f:Value->Value->Sem Value}
 (hf:∀v u s2 x y H2,Inv X ζ O H2 s2->RelV x v->RelV y u->R x y H2->wpAny (model X.prog X.w) X.A (f v u) Q X.xe s2):
 wpAny (model X.prog X.w) X.A (eval a X.env) (λv s₁=>wpAny (model X.prog X.w) X.A (eval b X.env) (λu s₂=>wpAny (model X.prog X.w) X.A (f v u) Q X.xe s₂) X.xe s₁) X.xe s:=by
 refine jE (ha s O H _ I h) λv s1 x H1 I1 r1 q1=>?_;refine jE (hb s1 O H1 _ I1 q1) λu s2 y H2 I2 r2 q2=>?_;exact hf v u s2 x y H2 I2 r1 r2 q2
def aM{op:Operator}{r:R2}(ho:OpR X (binaryOp op) r)(ha:PE X a ta)(hb:PE X b tb):PE X (.BinOp a op b pos) (tOp r ta tb):=by intro ζ s O H Q I h;exact wpAny_BinOp (dl7 ha hb I h λv u s2 x y H2 I2 rx ry q=>ho s2 O H2 x y v u Q I2 rx ry q)
def tW(ho:UnR X (unaryOp op) r)(ha:PE X a ta):PE X (.UnaryOp op a pos) (tUn r ta):=by intro ζ s O H Q I h;exact UnaryOp_ (jE (ha s O H _ I h) λv s1 x H1 I1 r1 q1=>ho s1 O H1 x v Q I1 r1 q1)
def opI{f:Value->Value->Sem Value}{C:Int->Int->Prop}{g:Int->Int->Int}
 (rule:∀(i j:Int)(t u:Tok)(s:B0)(Q:ag)(E:ag),C i j->Q (.int (g i j) s.toks) {s with toks:=s.toks+1}->wpAny (model X.prog X.w) X.A (f (.int i t) (.int j u)) Q E s):
 OpR X f (rI C λi j=>.int (g i j)):=by
 intro ζ s O H x y v u Q I rx ry h;refine z23 h λi j zz zy hc q=>?_;clear h;subst zz zy;obtain⟨t,rfl⟩:=rx;obtain⟨t',rfl⟩:=ry;exact rule i j t t' s _ _ hc ⟨.int (g i j),H,I.tok _,⟨_,rfl⟩,q⟩
def ej7{f:Value->Value->Sem Value}{g:Int->Int->Int}
 (rule:∀(i j:Int)(t u:Tok)(s:B0)(Q:ag)(E:ag),Q (.int (g i j) s.toks) {s with toks:=s.toks+1}->wpAny (model X.prog X.w) X.A (f (.int i t) (.int j u)) Q E s):
 OpR X f (xR λi j=>.int (g i j)):=by
 intro ζ s O H x y v u Q I rx ry h;refine z22 h λi j zz zy q=>?_;clear h;subst zz zy;obtain⟨t,rfl⟩:=rx;obtain⟨t',rfl⟩:=ry;exact rule i j t t' s _ _ ⟨.int (g i j),H,I.tok _,⟨_,rfl⟩,q⟩
def ct7{f:Value->Value->Sem Value}{g:Int->Int->Bool}
 (rule:∀(i j:Int)(t u:Tok)(s:B0)(Q:ag)(E:ag),Q (.bool (g i j)) s->wpAny (model X.prog X.w) X.A (f (.int i t) (.int j u)) Q E s):
 OpR X f (xR λi j=>.bl (g i j)):=by
 intro ζ s O H x y v u Q I rx ry h;refine z22 h λi j zz zy q=>?_;clear h;subst zz zy;obtain⟨t,rfl⟩:=rx;obtain⟨t',rfl⟩:=ry;exact rule i j t t' s _ _ ⟨.bl (g i j),H,I,rfl,q⟩
def zV(i j:Int):Prop:=0<j/\j<1073741824
def am4(i j:Int):Prop:=0<=j/\j<=1000000/\i.natAbs<2^64
def op_add:OpR X (binaryOp .Add) (xR λi j=>.int (i+j)):=ej7 λ_ _ _ _ _ _ _ q=>add_int q
def cH:OpR X (binaryOp .Sub) (xR λi j=>.int (i-j)):=ej7 λ_ _ _ _ _ _ _ q=>sub_int q
def iI:OpR X (binaryOp .FloorDiv) (rI zV λi j=>.int (i/j)):=opI λi j _ _ _ _ _ hc q=>by have h1:(0:Int)<j:=hc.1;have h2:j<1073741824:=hc.2;exact floordiv_int X8 (by rw[Int.fdiv_eq_ediv_of_nonneg i X8];exact q) (.inl (PyProof.noPylong_small X8))
def bY:OpR X (binaryOp .Mod) (rI (λ_ j=>0<j) λi j=>.int (i%j)):=opI λi j _ _ _ _ _ hc q=>by have h1:(0:Int)<j:=hc;exact mod_int' X8 (by rw[Int.fmod_eq_emod_of_nonneg i X8];exact q)
def cu0:OpR X (binaryOp .Pow) (rI am4 λi j=>.int (i^j.toNat)):=opI λ_ _ _ _ _ _ _ hc q=>pow_int_small hc.1 hc.2.1 hc.2.2 q
def unI{f:Value->Sem Value}{g:Int->Int}
 (rule:∀(i:Int)(t:Tok)(s:B0)(Q:ag)(E:ag),Q (.int (g i) s.toks) {s with toks:=s.toks+1}->wpAny (model X.prog X.w) X.A (f (.int i t)) Q E s):
 UnR X f (rU λi=>.int (g i)):=by
 intro ζ s O H x v Q I rx h;obtain⟨i,rfl,q⟩:=h;obtain⟨t,rfl⟩:=rx;exact rule i t s _ _ ⟨.int (g i),H,I.tok _,⟨_,rfl⟩,q⟩
def oE:UnR X (unaryOp .USub) (rU λi=>.int (-i)):=unI λ_ _ _ _ _ q=>neg_int q
end
noncomputable def dc6:V->V->Bool
 |.non,.non=>true|.non,.int _=>true|.int _,.non=>true|.non,.bl _=>true|.bl _,.non=>true|.non,.str _=>true|.str _,.non=>true
 |.int _,.int _=>true|.bl _,.bl _=>true|.str _,.str _=>true|.byt _,.byt _=>true
 |.int _,.str _=>true|.str _,.int _=>true|.bl _,.str _=>true|.str _,.bl _=>true
 |_,_=>false
def rEq:R2:=λx y H Q=>dc6 x y=true/\Q (.bl (decide (x=y))) H
def rNe:R2:=λx y H Q=>dc6 x y=true/\Q (.bl (!decide (x=y))) H
def dec_int:decide (V.int i=V.int j)=(i==j):=by rw[N6];simp
def dec_bl:decide (V.bl i=V.bl j)=(i==j):=by rw[N6];simp
def dec_str:decide (V.str i=V.str j)=(i==j):=by rw[N6];simp
def cd5:decide (V.byt i=V.byt j)=(i.toList==j.toList):=by rw[N6];cases i;cases j;simp
section
variable{X:Cx}{a b c:Expr}{ta tb tc:TE}{pos:Pos}
def dO(I:Inv X ζ O H s)(q:Q (.bl k) H)(e:k=k'):EP X ζ O Q (.bool k') s:=by subst e;exact⟨.bl k,H,I,rfl,q⟩
theorem ft1:OpR X (compareOp .Eq) rEq:=by
 intro ζ s O H x y v u Q I rx ry h;obtain⟨hs,q⟩:=h;cases x with
 |non=>
  cases rx;cases y with
  |non=>cases ry;exact PySem.EqNone.eq_none_none (dO I q Y1)
  |bl j=>cases ry;exact PySem.EqNone.eq_none_bool (dO I q Y1)
  |int j=>obtain⟨t',rfl⟩:=ry;exact PySem.EqNone.eq_none_int (dO I q Y1)
  |str j=>obtain⟨t',rfl⟩:=ry;exact PySem.EqNone.eq_none_str (dO I q Y1)
  |_=>exact D8 (show false=true from hs) D9
 |bl i=>
  cases rx;cases y with
  |non=>cases ry;exact PySem.EqNone.eq_bool_none (dO I q Y1)
  |bl j=>cases ry;exact eq_bool (dO I q dec_bl)
  |str j=>obtain⟨t',rfl⟩:=ry;exact PySem.EqMixed.eq_bool_str (dO I q Y1)
  |_=>exact D8 (show false=true from hs) D9
 |int i=>
  obtain⟨t,rfl⟩:=rx;cases y with
  |non=>cases ry;exact PySem.EqNone.eq_int_none (dO I q Y1)
  |int j=>obtain⟨t',rfl⟩:=ry;exact eq_int (dO I q dec_int)
  |str j=>obtain⟨t',rfl⟩:=ry;exact PySem.EqMixed.eq_int_str (dO I q Y1)
  |_=>exact D8 (show false=true from hs) D9
 |str i=>
  obtain⟨t,rfl⟩:=rx;cases y with
  |non=>cases ry;exact PySem.EqNone.eq_str_none (dO I q Y1)
  |bl j=>cases ry;exact PySem.EqMixed.eq_str_bool (dO I q Y1)
  |int j=>obtain⟨t',rfl⟩:=ry;exact PySem.EqMixed.eq_str_int (dO I q Y1)
  |str j=>obtain⟨t',rfl⟩:=ry;exact eq_str (dO I q dec_str)
  |_=>exact D8 (show false=true from hs) D9
 |byt i=>
  obtain⟨t,rfl⟩:=rx;cases y with
  |byt j=>obtain⟨t',rfl⟩:=ry;exact PySem.W.eq_bytes (dO I q cd5)
  |_=>exact D8 (show false=true from hs) D9
 |_=>cases y<;>exact D8 (show false=true from hs) D9
theorem fw3:OpR X (compareOp .NotEq) rNe:=by
 intro ζ s O H x y v u Q I rx ry h;obtain⟨hs,q⟩:=h;cases x with
 |non=>
  cases rx;cases y with
  |non=>cases ry;exact PySem.EqNone.ne_none_none (dO I q Y1)
  |bl j=>cases ry;exact PySem.EqNone.ne_none_bool (dO I q Y1)
  |int j=>obtain⟨t',rfl⟩:=ry;exact PySem.EqNone.ne_none_int (dO I q Y1)
  |str j=>obtain⟨t',rfl⟩:=ry;exact PySem.EqNone.ne_none_str (dO I q Y1)
  |_=>exact D8 (show false=true from hs) D9
 |bl i=>
  cases rx;cases y with
  |non=>cases ry;exact PySem.EqNone.ne_bool_none (dO I q Y1)
  |bl j=>cases ry;exact ne_bool (dO I q (N4 not dec_bl))
  |str j=>obtain⟨t',rfl⟩:=ry;exact PySem.EqMixed.ne_bool_str (dO I q Y1)
  |_=>exact D8 (show false=true from hs) D9
 |int i=>
  obtain⟨t,rfl⟩:=rx;cases y with
  |non=>cases ry;exact PySem.EqNone.ne_int_none (dO I q Y1)
  |int j=>obtain⟨t',rfl⟩:=ry;exact ne_int (dO I q (N4 not dec_int))
  |str j=>obtain⟨t',rfl⟩:=ry;exact PySem.EqMixed.ne_int_str (dO I q Y1)
  |_=>exact D8 (show false=true from hs) D9
 |str i=>
  obtain⟨t,rfl⟩:=rx;cases y with
  |non=>cases ry;exact PySem.EqNone.ne_str_none (dO I q Y1)
  |bl j=>cases ry;exact PySem.EqMixed.ne_str_bool (dO I q Y1)
  |int j=>obtain⟨t',rfl⟩:=ry;exact PySem.EqMixed.ne_str_int (dO I q Y1)
  |str j=>obtain⟨t',rfl⟩:=ry;exact ne_str (dO I q (N4 not dec_str))
  |_=>exact D8 (show false=true from hs) D9
 |byt i=>
  obtain⟨t,rfl⟩:=rx;cases y with
  |byt j=>obtain⟨t',rfl⟩:=ry;exact PySem.W.ne_bytes (dO I q (N4 not cd5))
  |_=>exact D8 (show false=true from hs) D9
 |_=>cases y<;>exact D8 (show false=true from hs) D9
def az5:OpR X (compareOp .Lt) (xR λi j=>.bl (decide (i<j))):=ct7 λ_ _ _ _ _ _ _ q=>lt_int q
def mM:OpR X (compareOp .LtE) (xR λi j=>.bl (decide (i<=j))):=ct7 λ_ _ _ _ _ _ _ q=>le_int q
def av5:OpR X (compareOp .Gt) (xR λi j=>.bl (decide (j<i))):=ct7 λ_ _ _ _ _ _ _ q=>gt_int q
def dk9:OpR X (compareOp .GtE) (xR λi j=>.bl (decide (j<=i))):=ct7 λ_ _ _ _ _ _ _ q=>ge_int q
def cf9:OpR X (compareOp .In) (λx y H Q=>∃i j,x=.str i/\y=.str j/\Q (.bl (!(Builtin.Str.occurrences j i 0 j.length 1).isEmpty)) H):=by intro ζ s O H x y v u Q I rx ry h;refine z22 h λi j zz zy q=>?_;clear h;subst zz zy;obtain⟨t,rfl⟩:=rx;obtain⟨t',rfl⟩:=ry;exact in_str (dO I q rfl)
def eo4:OpR X (compareOp .Is) (λx y H Q=>y=.non/\Q (.bl (decide (x=.non))) H):=by
 intro ζ s O H x y v u Q I rx ry h;obtain⟨rfl,q⟩:=h;cases ry;refine is_none_gen (dO I q ?_);cases x<;>first
  |(cases rx;rfl)
  |(obtain⟨t,rfl⟩:=rx;rfl)
def uP:OpR X (compareOp .IsNot) (λx y H Q=>y=.non/\Q (.bl (!decide (x=.non))) H):=by
 intro ζ s O H x y v u Q I rx ry h;obtain⟨rfl,q⟩:=h;cases ry;refine isnot_none_gen (dO I q ?_);cases x<;>first
  |(cases rx;rfl)
  |(obtain⟨t,rfl⟩:=rx;rfl)
def OpR.or(h:OpR X f r)(h':OpR X f r'):OpR X f (λx y H Q=>r x y H Q\/r' x y H Q):=by
 intro ζ s O H x y v u Q I rx ry q;rcases q with q|q
 . exact h s O H x y v u Q I rx ry q
 . exact h' s O H x y v u Q I rx ry q
def uC(b:Expr)(h:autoParam (op≠ .In) Z6)(h2:autoParam (op≠ .NotIn) Z6):behindInMarks op b=false:=by
 have e1:(op==CmpOp.In)=false:=by cases op<;>first|rfl|exact D8 rfl h
 have e2:(op==CmpOp.NotIn)=false:=by cases op<;>first|rfl|exact D8 rfl h2
 cases b<;>simp[behindInMarks,e1,e2]
def jV{op:CmpOp}{r:R2}(ho:OpR X (compareOp op) r)(ha:PE X a ta)(hb:PE X b tb)(hm:behindInMarks op b=false):PE X (.Compare a [op] [b] pos) (tOp r ta tb):=by intro ζ s O H Q I h;exact wpAny_Compare1 (dl7 ha hb I h λv u s2 x y H2 I2 rx ry q=>ho s2 O H2 x y v u Q I2 rx ry q) hm
def br7(t:TE):TT:=λO H Q=>t O H λx H'=>∃k,x=.bl k/\Q k H'
def bk2(ho:OpR X (compareOp op) r)(ha:PE X a ta)(hb:PE X b tb)(hm:behindInMarks op b=false):PT X (.Compare a [op] [b] pos) (br7 (tOp r ta tb)):=by
 intro ζ s O H Q I h;refine wpAny_isTrue_Compare1 (jE (ha s O H _ I h) λv s1 x H1 I1 r1 q1=>jE (hb s1 O H1 _ I1 q1) λu s2 y H2 I2 r2 q2=>
  jE (ho s2 O H2 x y v u _ I2 r1 r2 q2) λc s3 z H3 I3 r3 qq=>?_) hm
 obtain⟨k,e,q3⟩:=qq;subst e;cases r3;exact K9 ⟨H3,I3,q3⟩
def bz8(r r':R2)(ta tb tc:TE):TE:=λO H Q=>ta O H λx H1=>tb O H1 λy H2=>r x y H2 λz H3=>∃k,z=.bl k/\
 (if k=true then tc O H3 λw' H4=>r' y w' H4 Q else Q (.bl false) H3)
theorem at7(ho:OpR X (compareOp op) r)(ho':OpR X (compareOp op') r')(ha:PE X a ta)(hb:PE X b tb)(hc:PE X c tc)
 (hm:autoParam (lastMarks [op,op'] [b,c]=false) ZU):PE X (.Compare a [op,op'] [b,c] pos) (bz8 r r' ta tb tc):=by
 intro ζ s O H Q I h;refine Compare_chain (jE (ha s O H _ I h) λv s1 x H1 I1 r1 q1=>chain_link (jE (hb s1 O H1 _ I1 q1) λu s2 y H2 I2 r2 q2=>
  jE (ho s2 O H2 x y v u _ I2 r1 r2 q2) λd s3 z H3 I3 r3 qq=>?_)) hm
 obtain⟨k,e,q3⟩:=qq;subst e;cases r3;refine K9 ?_;cases k with
 |false=>exact ite_ff ⟨.bl false,H3,I3,rfl,q3⟩
 |true=>exact ite_tt (chain_last (kP (hc s3 O H3 _ I3 q3) λw' s4 ⟨z',H4,I4,r4,q4⟩=>ho' s4 O H4 y z' u w' Q I4 r2 r4 q4))
theorem ax7(ho:OpR X (compareOp op) r)(ho':OpR X (compareOp op') r')(ha:PE X a ta)(hb:PE X b tb)(hc:PE X c tc)
 (hm:autoParam (lastMarks [op,op'] [b,c]=false) ZU):PT X (.Compare a [op,op'] [b,c] pos) (br7 (bz8 r r' ta tb tc)):=by
 intro ζ s O H Q I h;refine isTrue_chain (jE (ha s O H _ I h) λv s1 x H1 I1 r1 q1=>test_link (jE (hb s1 O H1 _ I1 q1) λu s2 y H2 I2 r2 q2=>
  jE (ho s2 O H2 x y v u _ I2 r1 r2 q2) λd s3 z H3 I3 r3 qq=>?_)) hm
 obtain⟨k,e,q3⟩:=qq;subst e;cases r3;refine K9 ?_;cases k with
 |false=>obtain⟨k',e',q'⟩:=q3;cases e';exact ite_ff ⟨H3,I3,q'⟩
 |true=>refine ite_tt (test_last (kP (hc s3 O H3 _ I3 q3) λw' s4 ⟨z',H4,I4,r4,q4⟩=>kP (ho' s4 O H4 y z' u w' _ I4 r2 r4 q4) λd' s5 ⟨z2,H5,I5,r5,k2,e2,q5⟩=>?_));subst e2;cases r5;exact K9 ⟨H5,I5,q5⟩
def cv0(K:A1)(x:V)(H:Hp)(k:Bool):Prop:=
 match x with
 |.non=>k=false
 |.bl b=>k=b
 |.int i=>k=(i !=0)
 |.str y=>y.length<=sizeLine/\k=((y.length:Int) !=0)
 |.byt y=>y.size<=sizeLine/\k=((y.size:Int) !=0)
 |.ref p=>(∃xs,SqL K H p xs/\k=!xs.isEmpty)\/(∃xs,SqT K H p xs/\k=!xs.isEmpty)\/∃kvs,H p=some (.dK kvs)/\k=!kvs.isEmpty
 |_=>False
def cw6(r:KV kvs vs):(!vs.isEmpty)=!kvs.isEmpty:=by cases r<;>rfl
def ar8(r:Vals xs its):(!its.toArray.isEmpty)=!xs.isEmpty:=by cases r<;>simp
def au0:(sizeLine:Nat)<2^63:=by rw[F9];decide
theorem eh6:fa6 X (λx H Q=>∃k,cv0 X.K x H k/\Q k H):=by
 intro ζ s O H x v Q I rx h;obtain⟨k,e,q⟩:=h;have hl:=au0;have hs:sizeLine=16777216:=F9;cases x with
 |non=>cases rx;have e':k=false:=e;subst e';exact truthy_none ⟨H,I,q⟩
 |bl b=>cases rx;have e':k=b:=e;subst e';exact K9 ⟨H,I,q⟩
 |int i=>obtain⟨t,rfl⟩:=rx;have e':k=(i !=0):=e;subst e';exact PySem.P.truthy_int ⟨H,I,q⟩
 |str y=>obtain⟨t,rfl⟩:=rx;obtain⟨hy,e'⟩:y.length<=sizeLine/\k=((y.length:Int) !=0):=e;subst e';exact PySem.P.truthy_str X8 ⟨H,I.tok _,q⟩
 |byt y=>obtain⟨t,rfl⟩:=rx;obtain⟨hy,e'⟩:y.size<=sizeLine/\k=((y.size:Int) !=0):=e;subst e';exact PySem.W.truthy_bytes X8 ⟨H,I.tok _,q⟩
 |ref p=>
  cases rx;have e':(∃xs,SqL X.K H p xs/\k=!xs.isEmpty)\/(∃xs,SqT X.K H p xs/\k=!xs.isEmpty)\/∃kvs,H p=some (.dK kvs)/\k=!kvs.isEmpty:=e;rcases e' with⟨xs,hx,e'⟩|⟨xs,hx,e'⟩|⟨kvs,hx,e'⟩
  . subst e';refine z12 (I.list hx) λits r pl hz=>?_;have hlen:=r.length;exact wpAny_truthy_list pl.isList (by simp only[A8];omega) ⟨H,I.tok _,by rw[ar8 r];exact q⟩
  . subst e';refine z12 (I.tuple hx) λits r pl hz=>?_;have hlen:=r.length;exact truthy_tuple pl (by simp only[A8];omega) ⟨H,I.tok _,by rw[ar8 r];exact q⟩
  . subst e';obtain⟨hz,hS,vs,r,m⟩:kvs.length<=sizeLine/\(p==sysModules)=false/\∃vs,KV kvs vs/\s.heap.DictOf (bo2 X.prog X.w) p vs:=I.hok p _ hx;have hlen:kvs.length=vs.length:=Paired.length r;exact wpAny_truthy_dict hS m X8 ⟨H,I.tok _,by rw[cw6 r];exact q⟩
 |_=>exact(show False from e).elim
def ds4(ha:PE X a ta)(he:∀whole,isTrue a X.env whole=(do let v<-whole;standAt a.pos;holding [v] (truthy v))):
 PT X a (λO H Q=>ta O H λx H'=>∃k,cv0 X.K x H' k/\Q k H'):=by
 intro ζ s O H Q I h;exact isTrue_plain (jE (ha s O H _ I h) λv s1 x H1 I1 r1 q1=>eh6 s1 O H1 x v Q I1 r1 q1) (he _)
def op_add_str:OpR X (binaryOp .Add) (λx y H Q=>∃i j,x=.str i/\y=.str j/\i.length+j.length<=sizeLine/\Q (.str (i++j)) H):=by intro ζ s O H x y v u Q I rx ry h;refine z23 h λi j zz zy hz q=>?_;clear h;subst zz zy;obtain⟨t,rfl⟩:=rx;obtain⟨t',rfl⟩:=ry;exact add_str (λt' tk=>⟨.str (i++j),H,I.tok _,⟨_,rfl⟩,q⟩) hz
theorem am9(r:Vals [x] us):∃u,us=[u]/\RelV x u:=by
 cases r with
 |cons r1 r2=>cases r2;exact⟨_,rfl,r1⟩
theorem cq5(r:Vals [x,y] us):∃u w',us=[u,w']/\RelV x u/\RelV y w':=by
 cases r with
 |cons r1 r2=>
  cases r2 with
  |cons r3 r4=>cases r4;exact⟨_,_,rfl,r1,r3⟩
def dl4:CallR X (.builtin "abs") (λxs H Q=>∃i,xs=[.int i]/\Q (.int (if i<0 then -i else i)) H):=by intro ζ s O H xs us Q I r h;obtain⟨i,rfl,q⟩:=h;obtain⟨u,rfl,t,rfl⟩:=am9 r;exact call_abs_int λu tk=>⟨.int (if i<0 then -i else i),H,I.tok _,⟨_,rfl⟩,q⟩
def dq0(hc:X.calm=true):CallR X (.builtin "max") (λxs H Q=>∃i j,xs=[.int i,.int j]/\Q (.int (if j>i then j else i)) H):=by
 intro ζ s O H xs us Q I r h;refine z21 h λi j zz q=>?_;clear h;subst zz;obtain⟨u,w',rfl,⟨t,rfl⟩,⟨t',rfl⟩⟩:=cq5 r;refine max_two_ints (I.ok.hd hc) λh' tk k=>⟨_,H,I.kept k,?_,q⟩;by_cases hj:j>i
 . rw[C7 hj,C7 hj];exact⟨_,rfl⟩
 . rw[D3 hj,D3 hj];exact⟨_,rfl⟩
def cs8(hc:X.calm=true):CallR X (.builtin "min") (λxs H Q=>∃i j,xs=[.int i,.int j]/\Q (.int (if j<i then j else i)) H):=by
 intro ζ s O H xs us Q I r h;refine z21 h λi j zz q=>?_;clear h;subst zz;obtain⟨u,w',rfl,⟨t,rfl⟩,⟨t',rfl⟩⟩:=cq5 r;refine min_two_ints (I.ok.hd hc) λh' tk k=>⟨_,H,I.kept k,?_,q⟩;by_cases hj:j<i
 . rw[C7 hj,C7 hj];exact⟨_,rfl⟩
 . rw[D3 hj,D3 hj];exact⟨_,rfl⟩
def cs0:CallR X (.type "str") (λxs H Q=>∃i,xs=[.int i]/\i.natAbs.log2<1920/\Q (.str (toString i)) H):=by intro ζ s O H xs us Q I r h;refine z12 h λi zz hz q=>?_;clear h;subst zz;obtain⟨u,rfl,t,rfl⟩:=am9 r;exact PySem.P.str_of_int hz ⟨.str _,H,I.tok _,⟨_,rfl⟩,q⟩
def eo5(K:A1)(x:V)(H:Hp)(n:Nat):Prop:=
 match x with
 |.str y=>y.length<=sizeLine/\n=y.length
 |.byt y=>y.size<=sizeLine/\n=y.size
 |.ref p=>(∃xs,SqL K H p xs/\n=xs.length)\/∃xs,SqT K H p xs/\n=xs.length
 |_=>False
theorem dl6:CallR X (.builtin "len") (λxs H Q=>∃x n,xs=[x]/\eo5 X.K x H n/\Q (.int n) H):=by
 intro ζ s O H xs us Q I r h;refine z22 h λx n zz e q=>?_;clear h;subst zz;obtain⟨u,rfl,rx⟩:=am9 r;have hl:=au0;have hs:sizeLine=16777216:=F9;cases x with
 |str y=>obtain⟨t,rfl⟩:=rx;obtain⟨hy,e'⟩:y.length<=sizeLine/\n=y.length:=e;subst e';exact len_str X8 ⟨.int _,H,I.tok _,⟨_,rfl⟩,q⟩
 |byt y=>obtain⟨t,rfl⟩:=rx;obtain⟨hy,e'⟩:y.size<=sizeLine/\n=y.size:=e;subst e';exact PySem.W.len_bytes X8 ⟨.int _,H,I.tok _,⟨_,rfl⟩,q⟩
 |ref p=>
  cases rx;have e':(∃xs,SqL X.K H p xs/\n=xs.length)\/∃xs,SqT X.K H p xs/\n=xs.length:=e;rcases e' with⟨xs,hx,e'⟩|⟨xs,hx,e'⟩
  . subst e';refine z12 (I.list hx) λits r' pl hz=>?_;have hlen:=r'.length;exact Calls.call_len_list pl.isList (by simp only[A8];omega) ⟨.int xs.length,H,I.tok _,⟨_,by simp only[A8];rw[hlen]⟩,q⟩
  . subst e';refine z12 (I.tuple hx) λits r' pl hz=>?_;have hlen:=r'.length;exact len_tuple pl (by simp only[A8];omega) ⟨.int xs.length,H,I.tok _,⟨_,by simp only[A8];rw[hlen]⟩,q⟩
 |_=>exact(show False from e).elim
def cu2:CallR X (.builtin "divmod") (λxs H Q=>∃i j,xs=[.int i,.int j]/\zV i j/\∀p,H p=none->Q (.ref p) (upd H p (.tup [.int (i/j),.int (i%j)]))):=by intro ζ s O H xs us Q I r h;obtain⟨i,j,rfl,⟨h1,h2⟩,q⟩:=h;obtain⟨u,w',rfl,⟨t,rfl⟩,⟨t',rfl⟩⟩:=cq5 r;refine divmod_int X8 ?_ (.inl (PyProof.noPylong_small X8));rw[Int.fdiv_eq_ediv_of_nonneg i X8,Int.fmod_eq_emod_of_nonneg i X8];have hn:H s.heap.objs.size=none:=I.hok.fresh (D4 _);refine⟨.ref s.heap.objs.size,_,?_,rfl,q _ hn⟩;refine I.laid (λb o e=>A7 _ e) (D4 _) ⟨by simp only[List.length_cons,List.length_nil];rw[F9];decide,[.int (i/j) s.toks,.int (i%j) (s.toks+1)],.cons ⟨_,rfl⟩ (.cons ⟨_,rfl⟩ .nil),?_⟩;exact⟨_,D5 s.heap rfl,rfl,0,rfl⟩
end
structure ObjM (h:Heap) (x dx C:Addr) (mA:aa):Prop where
 obj:h.get? x=some (PySem.W.instObj C dx)
 ns:h.Ns1 dx mA
 ne:dx≠x
def dg1{h:Heap}{dx:Addr}{mA:aa}(n:h.Ns1 dx mA):∃od,h.get? dx=some od/\∀name,PySem.W.lookIn name od=some (mA name):=by
 refine z34 n λo es ep ho hd hk _ hm=>?_;refine⟨o,ho,λname=>?_⟩;have e:=hm name;unfold nsFind findBy at e;rw[<-Array.find?_toList]at e;unfold PySem.W.lookIn;rw[hd];dsimp only;split
 . rename_i y q;rw[q]at e;exact N4 some e
 . rename_i q;rw[q]at e;have a:es.toList.any (·.refKey)=false:=by rw[List.any_eq_false];intro y hy;obtain⟨z,t,hkey⟩:=hk y (Array.mem_toList_iff.mp hy);simp[DictEntry.refKey,hkey]
   have a':¬es.toList.any (·.refKey)=true:=by rw[a];exact D9
   rw[D3 a'];exact N4 some e
def ObjM.look(I:ObjM h x dx C mA):∃od,PySem.W.InstAt h x (PySem.W.instObj C dx) C (some od)/\∀name,PySem.W.lookIn name od=some (mA name):=
 let⟨od,ho,hl⟩:=dg1 I.ns
 ⟨od,⟨I.obj,rfl,rfl,ho⟩,hl⟩
section
variable{prog:E2}{w:World}{A:G0}{E:ag}{s:B0}{K:A1}{x dx C f:Addr}{mA:aa}{name:Str}{v:Value}
def ew0(X:K.In s.heap)(I:ObjM s.heap x dx C mA)(hg:PySem.W.plainGet K C name=true)(hh:PySem.W.hasDictIn K C=true)
 (ha:PySem.W.findIn K (.ref C) name=some none)(hv:mA name=some v)(hv':PySem.W.handedIn v=true)(h:Q v {s with toks:=s.toks+1}):
 wpAny (model prog w) A (getAttr (.ref x) name expr) Q E s:=by
 obtain⟨od,J,hl⟩:=I.look;exact PySem.W.get_value X J (PySem.W.plainGet_of hg).1 (PySem.W.findObj_own hh ha rfl (by rw[hl,hv])) hv' h
def dq4(X:K.In s.heap)(I:ObjM s.heap x dx C mA)(hg:PySem.W.plainGet K C name=true)
 (hf:PySem.W.findIn K (.ref C) name=some (some (.ref f)))(ht:PySem.W.isFn K (.ref f)=true)(hv:mA name=none)(h:Q (.ref f,[.ref x]) s):
 wpAny (model prog w) A (getMethod (.ref x) name pl) Q E s:=by
 obtain⟨od,J,hl⟩:=I.look;exact PySem.W.method_fn X J (PySem.W.plainGet_of hg).1 (PySem.W.plainGet_of hg).2 hf (O6.mp ht) (by show(PySem.W.lookIn name od).map (·.isSome)=some false;rw[hl,hv];rfl) h
def es2(X:K.In s.heap)(I:ObjM s.heap x dx C mA)
 (hs:PySem.W.findIn K (.ref C) "__setattr__"=some (some (.builtin "object.__setattr__")))(hp:PySem.W.plainOver K C=true)(ht:PySem.W.takerIn K C name=some none)(hh:PySem.W.hasDictIn K C=true)
 (hw:PySem.Within mA ns)(hsz:ns.length<=sizeLine)
 (h:∀h',ObjM h' x dx C (λy=>if y=name then some v else mA y)->Heap.SameBut dx s.heap h'->Q () {s with heap:=h',toks:=s.toks+2}):
 wpAny (model prog w) A (setAttr (.ref x) name v) Q E s:=by
 obtain⟨od,J,hl⟩:=I.look;refine PySem.W.set_plain X J hs (PySem.W.osa_open (s:={s with toks:=s.toks+1}) (r:=none) X J hp ht λb=>?_);obtain⟨cd,hc,hd'⟩:=PySem.W.any_some hh;have hx:s.heap.get? x=some ⟨.ref C,some dx,.plain,#[]⟩:=I.obj;refine A3 (C5 (A3 (A3 (wpAny_loadPart hx (A3 (PySem.W.Looks.here (s:={s with toks:=s.toks+1}) (PySem.W.looks_clsIn X hc) ?_))))));rw[hd'];refine C5 (a:=some dx) (A3 (C5 (A3 ?_)));refine wpAny_nsSet1 (s:={s with toks:=s.toks+1}) I.ns λh' hn2 hs2=>?_;refine z32 (hn2.count (PySem.Within.cons name v hw)) λoD esD epD hoD hdD hcD=>?_;refine A3 (wpAny_lookBehind hoD (by rw[hdD];exact pastItsLine_dict (J2 hcD (by rw[E1];omega))) ?_);exact C5 (h _ ⟨(hs2.2 _ (N8 I.ne)).trans I.obj,hn2,I.ne⟩ hs2)
def dn7(X:K.In s.heap)(hm:PySem.W.makesIn K C=true)
 (hi:PySem.W.findIn K (.ref C) "__init__"=some (some (.ref f)))(hf:PySem.W.typeIn K (.ref f)=some (.type "function"))
 (h:codeAny (model prog w) (A.under (.builtin "type.__call__" ⟨.ref C::vs,kw⟩)) (.call (.ref f) ⟨.ref (s.heap.objs.size+1)::vs,kw⟩) (PySem.W.InitBack (s.heap.objs.size+1) R)
  {s with heap:=(s.heap.push PySem.W.emptyDict).push (PySem.W.instObj C s.heap.objs.size)}):
 codeAny (model prog w) A (.call (.ref C) ⟨vs,kw⟩) R s:=by
 obtain⟨hh,g,d,t,os⟩:=s;exact PySem.W.make_core (PySem.W.makes_of X hm) (PySem.W.looks_findIn X hi) (λself=>PySem.W.bind_fn X self hf) (.inl rfl) h
end
noncomputable def mC(f:Str)(v:V):List (Str×V)->List (Str×V)
 |[]=>[(f,v)]
 |(g,x)::r=>if g=f then(g,v)::r else(g,x)::mC f v r
theorem an6(f g:Str)(v:V):∀fs:List (Str×V),(mC f v fs).lookup g=if g=f then some v else fs.lookup g
 |[]=>by
  show List.lookup g [(f,v)]=_;by_cases h:g=f
  . have hb:(g==f)=true:=O6.mpr h;simp only[List.lookup,hb,C7 h]
  . have hb:(g==f)=false:=G3.mpr h;simp only[List.lookup,hb,D3 h]
 |(k,x)::r=>by
  have ih:=an6 f g v r;rw[show mC f v ((k,x)::r)=(if k=f then(k,v)::r else(k,x)::mC f v r) from rfl];by_cases hk:k=f
  . rw[C7 hk];by_cases h:g=k
    . have hb:(g==k)=true:=O6.mpr h;simp only[List.lookup,hb,C7 (h.trans hk)]
    . have hb:(g==k)=false:=G3.mpr h;simp only[List.lookup,hb,D3 (λe:g=f=>h (e.trans hk.symm))]
  . rw[D3 hk];by_cases h:g=k
    . have hb:(g==k)=true:=O6.mpr h;simp only[List.lookup,hb,D3 (λe:g=f=>hk (h.symm.trans e))]
    . have hb:(g==k)=false:=G3.mpr h;simp only[List.lookup,hb];exact ih
theorem ad4(f:Str)(v:V):∀fs:List (Str×V),f∈(mC f v fs).map (·.1)/\∀g,g∈fs.map (·.1)->g∈(mC f v fs).map (·.1)
 |[]=>⟨by simp[mC],λg h=>by simp at h⟩
 |(k,x)::r=>by
  obtain⟨i1,i2⟩:=ad4 f v r;rw[show mC f v ((k,x)::r)=(if k=f then(k,v)::r else(k,x)::mC f v r) from rfl];by_cases hk:k=f
  . rw[C7 hk];subst hk;exact⟨Y1,λg h=>by simpa using h⟩
  . rw[D3 hk];refine⟨?_,λg h=>?_⟩
    . rw[B9];exact A5 _ i1
    . rw[B9]at h⊢;rcases B6.mp h with e|e
      . exact B6.mpr (.inl e)
      . exact A5 _ (i2 g e)
theorem av6(f:Str)(v:V):∀fs:List (Str×V),(mC f v fs).length<=fs.length+1
 |[]=>by simp[mC]
 |(k,x)::r=>by
  have ih:=av6 f v r;rw[show mC f v ((k,x)::r)=(if k=f then(k,v)::r else(k,x)::mC f v r) from rfl];by_cases hk:k=f
  . rw[C7 hk,E1,E1];omega
  . rw[D3 hk,E1,E1];omega
theorem RelO.some_of(r:RelO (some v) o):∃u,o=some u/\RelV v u:=by
 cases o with
 |none=>exact(show False from r).elim
 |some u=>exact⟨u,rfl,r⟩
theorem RelO.none_of(r:RelO none o):o=none:=by
 cases o with
 |none=>rfl
 |some u=>exact(show False from r).elim
theorem dj2(r:RelV v u):PySem.W.handedIn u=true:=by
 cases v with
 |non=>cases(show u=Value.none from r);rfl
 |bl b=>cases(show u=Value.bool b from r);rfl
 |int i=>obtain⟨t,e⟩:=(show∃t,u=Value.int i t from r);cases e;rfl
 |str x=>obtain⟨t,e⟩:=(show∃t,u=Value.str x t from r);cases e;rfl
 |byt b=>obtain⟨t,e⟩:=(show∃t,u=Value.bytes b t from r);cases e;rfl
 |flt b=>obtain⟨t,e⟩:=(show∃t,u=Value.float b t from r);cases e;rfl
 |ref a=>cases(show u=Value.ref a from r);rfl
 |ty n=>cases(show u=Value.type n from r);rfl
section
variable{P:E2}{w:World}{H H':Hp}{h h':Heap}{a C dx:Addr}{fs fs':c5}
def bq2(hok:HOk P w H h)(e:H a=some (.ins C dx fs)):∃mA,ObjM h a dx C mA/\(∀f,RelO (fs.lookup f) (mA f))/\PySem.Within mA (fs.map (·.1))/\fs.length<=1000/\H dx=some (.own a):=by obtain⟨d,z,ne,ob,mA,n,r,q⟩:=(show ObjOk P w H h a (.ins C dx fs) from hok a _ e);exact⟨mA,⟨ob,n,ne⟩,r,q,z,d⟩
end
structure Cls (K:A1) (C:Addr):Prop where
 pg:PySem.W.plainGet K C Str.empty=true
 hd:PySem.W.hasDictIn K C=true
 po:PySem.W.plainOver K C=true
 sa:PySem.W.findIn K (.ref C) "__setattr__"=some (some (.builtin "object.__setattr__"))
def Cls.get{K:A1}{C:Addr}(c:Cls K C)(f:Str):PySem.W.plainGet K C f=true:=c.pg
def NoAttr(K:A1)(C:Addr)(f:Str):Prop:=PySem.W.findIn K (.ref C) f=some none
def NoAttr.taker{K:A1}{C:Addr}{f:Str}(n:NoAttr K C f):PySem.W.takerIn K C f=some none:=by unfold PySem.W.takerIn;rw[show PySem.W.findIn K (.ref C) f=some none from n];rfl
structure dk3 (K:A1) (C:Addr) (m:Str) (f:Addr):Prop where
 at_:PySem.W.findIn K (.ref C) m=some (some (.ref f))
 fn:PySem.W.isFn K (.ref f)=true
 kp:PySem.W.keepIn K (.ref f)=true
section
variable{X:Cx}{ζ:ad}{O:St}{H:Hp}{s:B0}{a C dx:Addr}{fs:c5}{f:Str}{v:V}{A:G0}{E:ag}
def cz6(I:Inv X ζ O H s)(e:H a=some (.ins C dx fs))(c:Cls X.K C)(n:NoAttr X.K C f)(l:fs.lookup f=some v)
 (h:∀u s',Inv X ζ O H s'->RelV v u->Q u s'):wpAny (model X.prog X.w) A (getAttr (.ref a) f b) Q E s:=by
 refine z14 (bq2 I.hok e) λmA ao6q r _ _ _=>?_;obtain⟨u,hu,ru⟩:=RelO.some_of (v:=v) (o:=mA f) (by rw[<-l];exact r f);exact ew0 I.kIn ao6q (c.get f) c.hd n hu (dj2 ru) (h u _ (I.tok _) ru)
def ab9(I:Inv X ζ O H s)(e:H a=some (.ins C dx fs))(c:Cls X.K C)(k:dk3 X.K C m g)(l:fs.lookup m=none)
 (h:Q (.ref g,[.ref a]) s):wpAny (model X.prog X.w) A (getMethod (.ref a) m pl) Q E s:=by
 refine z14 (bq2 I.hok e) λmA ao6q r _ _ _=>?_;have hn:mA m=none:=RelO.none_of (by rw[<-l];exact r m);exact dq4 I.kIn ao6q (c.get m) k.at_ k.fn hn h
def ct6(I:Inv X ζ O H s)(e:H a=some (.ins C dx fs))(c:Cls X.K C)(n:NoAttr X.K C f)(hl:fs.length<1000)(ry:RelV y u)
 (h:∀s',Inv X ζ O (upd H a (.ins C dx (mC f y fs))) s'->Q () s'):wpAny (model X.prog X.w) A (setAttr (.ref a) f u) Q E s:=by
 refine z14 (bq2 I.hok e) λmA ao6q r wi _ ho=>?_;have hz:(fs.map (·.1)).length<=sizeLine:=by rw[B7,F9];omega
 refine es2 I.kIn ao6q c.sa c.po n.taker c.hd wi hz λh' O' sb=>h _ ?_;have hd:∃o,h'.get? dx=some o:=let⟨o,_,_,e',_⟩:=O'.ns;⟨o,e'⟩
 refine I.write (x:=a) (e:=dx) (by rw[e];exact True.intro) (.inr ho) (λb q hb z=>(sb.2 b hb).trans z) hd ?_;refine⟨by rw[cE ao6q.ne];exact ho,?_,ao6q.ne,O'.obj,_,O'.ns,λg=>?_,λg hg=>?_⟩
 . have:=av6 f y fs;omega
 . show RelO ((mC f y fs).lookup g) (if g=f then some u else mA g);rw[an6];by_cases q:g=f
   . rw[C7 q,C7 q];exact ry
   . rw[D3 q,D3 q];exact r g
 . by_cases q:g=f
   . rw[q];exact(ad4 f y fs).1
   . refine(ad4 f y fs).2 g (wi g λz=>hg ?_);show(if g=f then some u else mA g)=none;rw[D3 q];exact z
def Inv.made(I:Inv X ζ O H s):Inv X ζ O (upd (upd H s.heap.objs.size (.own (s.heap.objs.size+1))) (s.heap.objs.size+1) (.ins C s.heap.objs.size []))
 {s with heap:=(s.heap.push PySem.W.emptyDict).push (PySem.W.instObj C s.heap.objs.size)}:=by
 have e1:(s.heap.push PySem.W.emptyDict).get? s.heap.objs.size=some PySem.W.emptyDict:=D5 s.heap rfl;have e2:((s.heap.push PySem.W.emptyDict).push (PySem.W.instObj C s.heap.objs.size)).get? (s.heap.objs.size+1)=some (PySem.W.instObj C s.heap.objs.size):=by have:=D5 (s.heap.push PySem.W.emptyDict) (o:=PySem.W.instObj C s.heap.objs.size) rfl;rwa[N1]at this
 have e3:(s.heap.push PySem.W.emptyDict).Ns s.heap.objs.size (λ_=>none):=⟨PySem.W.emptyDict,#[],_,e1,rfl,(λe he=>D8 he Y1),λ_=>rfl⟩;have I1:=I.laid (a:=s.heap.objs.size) (o:=.own (s.heap.objs.size+1)) (h':=s.heap.push PySem.W.emptyDict) (t':=s.toks) (λb u q=>A7 _ q) (D4 _) ⟨_,e1⟩;refine I1.laid (a:=s.heap.objs.size+1) (o:=.ins C s.heap.objs.size []) (t':=s.toks) (λb u q=>A7 _ q) (Nat.le_of_eq (N1 _ _)) ?_;have ne:s.heap.objs.size≠s.heap.objs.size+1:=F8 (Q1 _);refine⟨by rw[cE ne,fR],R7 _,ne,e2,λ_=>none,(Heap.Ns1.of_empty e3).at λo q=>A7 _ q,λ_=>True.intro,λy hy=>D8 rfl hy⟩
def eq3(hb:attributeBase e f env (eval e env)=eval e env)
 (h:wpAny (model prog w) A (eval e env) (λo s₁=>wpAny (model prog w) A (getAttr o f true) Q E s₁) E s):wpAny (model prog w) A (eval (.Attribute e f pos) env) Q E s:=
 Attribute_any_ h (by rw[arm_eval_Attribute,hb])
end
def dl3(K:A1)(ta:TE)(f:Str):TE:=λO H Q=>ta O H λx H1=>∃a C dx fs v,x=.ref a/\H1 a=some (.ins C dx fs)/\Cls K C/\NoAttr K C f/\fs.lookup f=some v/\Q v H1
def da4(K:A1)(ta tv:TE)(f:Str):TS:=λD O H=>tv O H λy H1=>ta O H1 λx H2=>∃a C dx fs,x=.ref a/\H2 a=some (.ins C dx fs)/\Cls K C/\NoAttr K C f/\fs.length<1000/\
 D.nx O (upd H2 a (.ins C dx (mC f y fs)))
section
variable{X:Cx}{o e value:Expr}{f:Str}{pos pos' tpos:Pos}{ta tv:TE}
def ev7(he:PE X e ta)(hb:attributeBase e f X.env (eval e X.env)=eval e X.env):PE X (.Attribute e f pos) (dl3 X.K ta f):=by intro ζ s O H Q I h;refine eq3 hb (jE (he s O H _ I h) λu s1 x H1 I1 rx qq=>?_);refine z55 qq λa C dx fs v ex ea c n l q=>?_;subst ex;obtain rfl:u=Value.ref a:=rx;exact cz6 I1 ea c n l λu' s2 I2 ru=>⟨v,H1,I2,ru,q⟩
def eg5(ha:PE X o ta)(hv:PE X value tv)(hs:swapsWith value (some (.Attribute o f pos')) pos.line X.env=pure false):PS X (.Assign [.Attribute o f pos'] value pos) (da4 X.K ta tv f):=by intro ζ s O H D I h;refine plainObj_wpAny_Assign_Attribute (jE (hv s O H _ I h) λu s1 y H1 I1 ry q=>jE (ha s1 O H1 _ I1 q) λov s2 x H2 I2 rx qq=>?_) hs;refine z45 qq λa C dx fs ex ea c n l q2=>?_;subst ex;obtain rfl:ov=Value.ref a:=rx;exact ct6 I2 ea c n l ry λs3 I3=>⟨O,_,I3,q2⟩
end
section
variable{X:Cx}{ζ:ad}{O:St}{H:Hp}{s:B0}{A:G0}{E:ag}{Q:ag}{c:Value}{b:Bool}
end
structure Room (k:Nat) (A:G0):Prop where
 hd:A.handled=none
 dp:A.depth+3*k+5<recursionLimit
 un:A.units+16*k+200<cLine
def Room.mono(r:Room k A)(h:j<=k):Room j A:=⟨r.hd,by have:=r.dp;omega,by have:=r.un;omega⟩
theorem Room.deeper(r:Room (k+1) A)(env:Env):Room k (A.deeper env):=
 ⟨r.hd,by have:=r.dp;show A.depth+1+3*k+5<_;omega,by have:=r.un;show A.units+3+16*k+200<_;omega⟩
def cp7{A:G0}{C:Addr}{us:aq}{kw:az}:(A.under (.builtin "type.__call__" ⟨.ref C::us,kw⟩)).depth=A.depth+1:=by first|rfl|simp[Around.under,Code.weight,Code.isCreation,Code.isGuard,Code.isCaller,Code.frames,Code.isFrame,guardIds]
def cg7{A:G0}{C:Addr}{us:aq}{kw:az}:(A.under (.builtin "type.__call__" ⟨.ref C::us,kw⟩)).units=A.units+1:=by first|rfl|simp[Around.under,Code.cUnits,Code.frames,Code.isFrame]
def Room.make(r:Room (k+1) A)(C:Addr)(us:aq)(kw:az):Room k (A.under (.builtin "type.__call__" ⟨.ref C::us,kw⟩)):=
 ⟨r.hd,by have:=r.dp;rw[cp7];omega,by have:=r.un;rw[cg7];omega⟩
theorem Room.depth(r:Room k A):A.depth<recursionLimit:=by have:=r.dp;omega
theorem Room.units(r:Room k A):A.units+64<cLine:=by have:=r.un;omega
def xZ:TA:=λ_ H Q=>Q [] H
def nU(ta:TE)(tr:TA):TA:=λO H Q=>ta O H λx H1=>tr O H1 λxs H2=>Q (x::xs) H2
section
variable{X:Cx}{e:Expr}{es:bj}{te:TE}{t:TA}{pos:Pos}
def oG:PA X [] xZ:=λ_ _ _ _ H Q I h=>Calls.spliced_nil ⟨[],H,I,.nil,h⟩
def aE(ha:PE X e te)(hr:PA X es t)(hs:autoParam (starEach (e::es) X.env=(false,eval e X.env)::starEach es X.env) Z8):PA X (e::es) (nU te t):=by intro pos ζ s O H Q I h;rw[hs];show wpAny _ _ (spliced ((false,eval e X.env)::backTo pos (starEach es X.env))) _ _ s;refine Calls.spliced_cons (jE (ha s O H _ I h) λu s1 x H1 I1 r1 q1=>?_);exact wP (hr ζ s1 O H1 _ I1 q1) λus s2 xs H2 I2 r2 q2=>⟨x::xs,H2,I2,.cons r1 r2,q2⟩
def dk5(t:TA):TE:=λO H Q=>t O H λxs H1=>xs.length<=sizeLine/\∀p,H1 p=none->Q (.ref p) (upd H1 p (.tup xs))
def eb5(t:TA):TE:=λO H Q=>t O H λxs H1=>xs.length<=sizeLine/\∀p,H1 p=none->Q (.ref p) (upd H1 p (.lst xs))
def cD{x1}(h:PA X es t):PE X (.Tuple es x1 pos) (dk5 t):=by intro ζ s O H Q I hq;refine wpAny_Tuple_spliced (wP (h ζ s O H _ I hq) λus s1 xs H1 I1 r ⟨z,q⟩=>⟨by rw[<-r.length];exact z,?_⟩);have hf:H1 s1.heap.objs.size=none:=I1.hok.fresh (D4 _);refine⟨.ref s1.heap.objs.size,upd H1 s1.heap.objs.size (.tup xs),I1.laid (t':=s1.toks) (λb u e=>A7 _ e) (D4 _) ?_,rfl,q _ hf⟩;exact⟨z,us,r,⟨_,D5 _ rfl,rfl,_,rfl⟩⟩
def cR(h:PA X es t):PE X (.List es pos) (eb5 t):=by intro ζ s O H Q I hq;refine wpAny_List_spliced (wP (h ζ s O H _ I hq) λus s1 xs H1 I1 r ⟨z,q⟩=>⟨by rw[<-r.length];exact z,?_⟩);have hf:H1 s1.heap.objs.size=none:=I1.hok.fresh (D4 _);refine⟨.ref s1.heap.objs.size,upd H1 s1.heap.objs.size (.lst xs),I1.laid (t':=s1.toks) (λb u e=>A7 _ e) (D4 _) ?_,rfl,q _ hf⟩;exact⟨z,us,0,r,D5 _ rfl⟩
end
abbrev Sp:=List V->Hp->VK->XK->Prop
abbrev xQ:=List Env->Hp->B0->XK->Value->B0->Prop
structure Env0 (P:E2) (w:World) (K:A1) (mg:aa) (base:Heap) (A:G0) (outer:bg) (s:B0) (H:Hp):Prop where
 frames:A.frames=some outer
 mod:Mod K mg base
 bs:∀b o,base.get? b=some o->s.heap.get? b=some o/\H b=none
 bsz:base.objs.size<=s.heap.objs.size
 funs:s.heap.FunFrames base outer
 frf:∀b∈pT outer,H b=none
 hok:HOk P w H s.heap
 bare:AllBare s.gens
def CE(outer:bg)(P:E2)(w:World)(H:Hp)(s:B0)(Q:VK)(u:Value)(s':B0):Prop:=
 ∃v H',s'.os=s.os/\AllBare s'.gens/\Un (pT outer) [] H H' s.heap s'.heap/\HOk P w H' s'.heap/\RelV v u/\Q v H'
def CR(CX:xQ)(outer:bg)(P:E2)(w:World)(H:Hp)(s:B0)(Q:VK)(E:XK)(r:Result)(s':B0):Prop:=
 match r with
 |.ok (.ret u)=>CE outer P w H s Q u s'
 |.ok _=>False
 |.error e=>CX outer H s E e s'
structure FnOk (P:E2) (w:World) (K:A1) (mg:aa) (base:Heap) (CX:xQ) (k:Nat) (f:Addr) (fd:FuncData) (ps:am) (sp:Sp):Prop where
 len:∀vs H Q E,sp vs H Q E->vs.length=ps.length
 run:∀(A:G0)(outer:bg)(s:B0)(H:Hp)(args:Args)(us:aq)(vs:a9)(Q:VK)(E:XK),Room k A->Env0 P w K mg base A outer s H->BindsTo s fd args (ps.zip us)->Vals vs us->sp vs H Q E->
  codeAny (model P w) A (.call (.ref f) args) (CR CX outer P w H s Q E) s
theorem FnOk.mono{P:E2}{w:World}{K:A1}{mg:aa}{base:Heap}{CX:xQ}{j k:Nat}{f:Addr}{fd:FuncData}{ps:am}{sp:Sp}(F:FnOk P w K mg base CX j f fd ps sp)(h:j<=k):
 FnOk P w K mg base CX k f fd ps sp:=⟨F.len,λA outer s H args us vs Q E hr=>F.run A outer s H args us vs Q E (hr.mono h)⟩
def FnOk.imp{P:E2}{w:World}{K:A1}{mg:aa}{base:Heap}{CX:xQ}{k:Nat}{f:Addr}{fd:FuncData}{ps:am}{sp sp':Sp}(F:FnOk P w K mg base CX k f fd ps sp)
 (h:∀vs H Q E,sp' vs H Q E->sp vs H Q E):FnOk P w K mg base CX k f fd ps sp':=
 ⟨λvs H Q E q=>F.len vs H Q E (h _ _ _ _ q),λA outer s H args us vs Q E hr he hb hv hs=>F.run A outer s H args us vs Q E hr he hb hv (h _ _ _ _ hs)⟩
def Env0.make{P:E2}{w:World}{K:A1}{mg:aa}{base:Heap}{A:G0}{outer:bg}{s:B0}{H:Hp}(e:Env0 P w K mg base A outer s H)(C:Addr)(us:aq)(kw:az):
 Env0 P w K mg base (A.under (.builtin "type.__call__" ⟨.ref C::us,kw⟩)) outer s H:=⟨by first|exact e.frames|(simpa[Around.under,Code.envs,Code.isFrame,pushEnvs]using e.frames),e.mod,e.bs,e.bsz,e.funs,e.frf,e.hok,e.bare⟩
section
variable{X:Cx}{ζ:ad}{O:St}{H:Hp}{s s':B0}
def Inv.env0(I:Inv X ζ O H s):Env0 X.prog X.w X.K X.mg X.base X.A X.stack s H:=
 ⟨I.ok.frames,I.ok.mod,I.bs,J2 I.ok.bsz I.sz,I.stack,I.stkFree,I.hok,I.bare⟩
def Inv.after(I:Inv X ζ O H s)(h:CE X.stack X.prog X.w H s Q u s'):EP X ζ O Q u s':=by refine z25 h λv H' os bare un hok r q=>?_;obtain⟨hh,g,d,t,os'⟩:=s';obtain rfl:os'=s.os:=os;exact⟨v,H',I.call (h':=hh) (g':=g) (d':=d) (t':=t) (ch:=[]) un hok bare (λb z=>D8 z Y1),r,q⟩
end
def fd1(sp:Sp)(dvs:a9)(E:XK)(t:TA):TE:=λO H Q=>t O H λvs H1=>sp (vs++dvs) H1 Q E
def cs6(C:Addr)(sp:Sp)(dvs:a9)(E:XK)(t:TA):TE:=λO H Q=>t O H λvs H1=>∀x dx,H1 x=none->H1 dx=none->dx≠x->
 sp (.ref x::(vs++dvs)) (upd (upd H1 dx (.own x)) x (.ins C dx [])) (λv H2=>v=.non/\Q (.ref x) H2) E
def Binds(K:A1)(fd:FuncData)(ps:am)(ds:aq):Prop:=
 ∀(s:B0)(us:aq),K.In s.heap->(us++ds).length=ps.length->BindsTo s fd ⟨us,[]⟩ (ps.zip (us++ds))
def Binds.all{K:A1}{fd:FuncData}{ps:am}(h:∀us:List Value,us.length=ps.length->bindArgs fd ⟨us,[]⟩=pure (ps.zip us)):Binds K fd ps []:=λs us _ hl=>by rw[K0]at hl⊢;exact .of_eq (h us hl)
def wC(CX:xQ)(X:Cx)(E:XK):Prop:=∀(ζ:ad)(O:St)(H:Hp)(s:B0)(e:Value)(s':B0),Inv X ζ O H s->CX X.stack H s E e s'->X.xe e s'
section
variable{X:Cx}{CX:xQ}{k:Nat}{f C:Addr}{fd:FuncData}{ps:am}{sp:Sp}{dvs:a9}{ds:aq}{E:XK}{x m:Str}{p pos apos:Pos}{e o:Expr}{es:bj}{ta:TE}{t:TA}
theorem bt0(F:FnOk X.prog X.w X.K X.mg X.base CX k f fd ps sp)(hr:Room k X.A)(hb:Binds X.K fd ps ds)(hd:Vals dvs ds)(hx:wC CX X E)
 (I:Inv X ζ O H s)(r:Vals vs us)(h:sp (vs++dvs) H Q E):wpAny (model X.prog X.w) X.A (call (.ref f) us) (EP X ζ O Q) X.xe s:=by
 have r2:Vals (vs++dvs) (us++ds):=r.append hd;have hl:(us++ds).length=ps.length:=by rw[<-r2.length];exact F.len _ _ _ _ h
 refine wpAny_call (R3 (F.run X.A X.stack s H ⟨us,[]⟩ (us++ds) (vs++dvs) Q E hr I.env0 (hb s us I.kIn hl) r2 h) λr s' hq=>?_);cases r with
 |error e=>exact hx ζ O H s e s' I hq
 |ok fl=>
  cases fl with
  |ret u=>exact I.after hq
  |_=>exact False.elim hq
def ce4(F:FnOk X.prog X.w X.K X.mg X.base CX k f fd ps sp)(hr:Room k X.A)(hg:Gl X x)(hm:X.mg x=some (.ref f))(hk:PySem.W.keepIn X.K (.ref f)=true)(hb:Binds X.K fd ps ds)(hd:Vals dvs ds)(hx:wC CX X E)
 (ha:PA X (e::es) t)(hdb:autoParam ((x==("__debug__":Str))=false) Z6)(he:autoParam (starEach (e::es) X.env=(false,eval e X.env)::starEach es X.env) Z8)(hpl:autoParam ((backTo pos (starEach es X.env)).any (·.1)=false) Z8):
 PE X (.Call (.Name x p) (e::es) [] pos) (fd1 sp dvs E t):=by
 intro ζ s O H Q I h;refine K6 (sF I hg hm ?_ hdb);refine R4 (h₀:=X.base) I.ok.mod.kin hk (wP (ha ζ s O H _ I h) λus s1 vs H1 I1 r q=>⟨I1.kIn,?_⟩) he hpl;exact bt0 F hr hb hd hx I1 r q
structure Mk (K:A1) (C f:Addr):Prop where
 makes:PySem.W.makesIn K C=true
 init:PySem.W.findIn K (.ref C) "__init__"=some (some (.ref f))
 fn:PySem.W.isFn K (.ref f)=true
 kp:PySem.W.keepIn K (.ref C)=true
theorem dr3(M:Mk X.K C f)(F:FnOk X.prog X.w X.K X.mg X.base CX k f fd ps sp)(hr:Room (k+1) X.A)(hb:Binds X.K fd ps ds)(hd:Vals dvs ds)
 (hx:wC CX X E)(I:Inv X ζ O H s)(r:Vals vs us)
 (h:∀x dx,H x=none->H dx=none->dx≠x->sp (.ref x::(vs++dvs)) (upd (upd H dx (.own x)) x (.ins C dx [])) (λv H2=>v=.non/\Q (.ref x) H2) E):
 wpAny (model X.prog X.w) X.A (call (.ref C) us) (EP X ζ O Q) X.xe s:=by
 have hq:=h (s.heap.objs.size+1) s.heap.objs.size (I.hok.fresh (Nat.le_succ _)) (I.hok.fresh (D4 _)) (F8 (Q1 _));have I2:=Inv.made (C:=C) I;have r2:Vals (V.ref (s.heap.objs.size+1)::(vs++dvs)) (Value.ref (s.heap.objs.size+1)::(us++ds)):=.cons rfl (r.append hd);have hl:(Value.ref (s.heap.objs.size+1)::us++ds).length=ps.length:=by have e:=r2.length;rw[F.len _ _ _ _ hq]at e;exact e.symm
 refine wpAny_call (dn7 (f:=f) I.kIn M.makes M.init (O6.mp M.fn) (R3 (F.run _ X.stack _ _ ⟨Value.ref (s.heap.objs.size+1)::us,[]⟩ (Value.ref (s.heap.objs.size+1)::(us++ds)) _ _ E (hr.make C us [])
  (I2.env0.make C us []) (hb _ (Value.ref (s.heap.objs.size+1)::us) I2.kIn hl) r2 hq) λr s' hq'=>?_))
 cases r with
 |error e=>exact hx ζ O _ _ e s' I2 hq'
 |ok fl=>
  cases fl with
  |ret u=>refine z23 (I2.after hq') λv H' I3 rv ev q3=>?_;subst ev;exact⟨rv,⟨V.ref (s.heap.objs.size+1),H',I3,rfl,q3⟩⟩
  |_=>exact False.elim hq'
def ec2(M:Mk X.K C f)(F:FnOk X.prog X.w X.K X.mg X.base CX k f fd ps sp)(hr:Room (k+1) X.A)(hg:Gl X x)(hm:X.mg x=some (.ref C))(hb:Binds X.K fd ps ds)(hd:Vals dvs ds)(hx:wC CX X E)
 (ha:PA X (e::es) t)(hdb:autoParam ((x==("__debug__":Str))=false) Z6)(he:autoParam (starEach (e::es) X.env=(false,eval e X.env)::starEach es X.env) Z8)(hpl:autoParam ((backTo pos (starEach es X.env)).any (·.1)=false) Z8):
 PE X (.Call (.Name x p) (e::es) [] pos) (cs6 C sp dvs E t):=by
 intro ζ s O H Q I h;refine K6 (sF I hg hm ?_ hdb);refine R4 (h₀:=X.base) I.ok.mod.kin M.kp (wP (ha ζ s O H _ I h) λus s1 vs H1 I1 r q=>⟨I1.kIn,?_⟩) he hpl;exact dr3 M F hr hb hd hx I1 r q
end
section
variable{X:Cx}{CX:xQ}{k:Nat}{f C:Addr}{fd:FuncData}{ps ks:am}{sp:Sp}{E:XK}{x m:Str}{p pos apos kpos:Pos}{e o:Expr}{es:bj}{kws:List Keyword}{te ta:TE}{t tk:TA}{nm:Option Str}
variable{g:List Value->List Value->List Value}{gV:List V->List V->List V}
end
structure aV (N P:am) (sc:Scope):Prop where
 kind:sc.kind=.function
 co:sc.isCoroutine=false
 gen:sc.isGenerator=false
 nd:N.Nodup
 pre:N.take P.length=P
 par:∀x∈P,sc.names.lookup x=some .local\/sc.names.lookup x=some .cell
 nofree:∀y∈sc.names,y.2≠ .free
theorem be5{kindOf:cq}{x:Str}:∀{binds:az}{m:aa},(∀v,(x,v)∉binds)->bindL kindOf binds m x=m x
 |[],_,_=>rfl
 |(n,v)::r,m,h=>by
  unfold bindL;rw[be5 λw hw=>h w (A5 _ hw)];split
  . have:x≠n:=by rintro rfl;exact h v A9
    simp[this]
  . rfl
theorem bs5{kindOf:cq}{x:Str}:∀{binds:az}{m:aa},(∀v,(x,v)∉binds)->bindC kindOf binds m x=m x
 |[],_,_=>rfl
 |(n,v)::r,m,h=>by
  unfold bindC;rw[bs5 λw hw=>h w (A5 _ hw)];split
  . rfl
  . have:x≠n:=by rintro rfl;exact h v A9
    simp[this]
theorem bv4{kindOf:cq}{x:Str}{v:Value}:∀{P:am}{vs:aq}{i:Nat}{m:aa},P.Nodup->P[i]?=some x->vs[i]?=some v->kindOf x=some .local->
 bindL kindOf (P.zip vs) m x=some v
 |[],_,_,_,_,h,_,_=>by simp at h
 |_::_,[],_,_,_,_,h,_=>by simp at h
 |p::P,w::vs,0,m,nd,h1,h2,hk=>by simp at h1 h2;subst h1;subst h2;show bindL kindOf ((p,w)::P.zip vs) m p=_;unfold bindL;rw[be5 λv hv=>(E7.mp nd).1 (R0 hv).1,C7 hk];simp
 |p::P,w::vs,i+1,m,nd,h1,h2,hk=>by show bindL kindOf ((p,w)::P.zip vs) m x=_;unfold bindL;exact bv4 (i:=i) (E7.mp nd).2 (by simpa using h1) (by simpa using h2) hk
theorem br5{kindOf:cq}{x:Str}{v:Value}:∀{P:am}{vs:aq}{i:Nat}{m:aa},P.Nodup->P[i]?=some x->vs[i]?=some v->kindOf x≠some .local->
 bindC kindOf (P.zip vs) m x=some v
 |[],_,_,_,_,h,_,_=>by simp at h
 |_::_,[],_,_,_,_,h,_=>by simp at h
 |p::P,w::vs,0,m,nd,h1,h2,hk=>by simp at h1 h2;subst h1;subst h2;show bindC kindOf ((p,w)::P.zip vs) m p=_;unfold bindC;rw[bs5 λv hv=>(E7.mp nd).1 (R0 hv).1,D3 hk];simp
 |p::P,w::vs,i+1,m,nd,h1,h2,hk=>by show bindC kindOf ((p,w)::P.zip vs) m x=_;unfold bindC;exact br5 (i:=i) (E7.mp nd).2 (by simpa using h1) (by simpa using h2) hk
noncomputable def start(N:am)(vs:a9):St:=vs.map some++List.replicate (N.length-vs.length) none
def kQ(CX:xQ)(P:E2)(w:World)(K:A1)(mg:aa)(base:Heap)(N:am)(qual:Str)(scope:Scope)(f:Addr)(cd:Value)(A:G0)(outer:bg)(s:B0)(H:Hp)(E:XK):Cx where
 prog:=P
 w:=w
 K:=K
 mg:=mg
 base:=base
 A:=A.deeper (envOfC qual scope s.heap.objs.size f cd)
 N:=N
 s₀:=s
 H₀:=H
 env:=envOfC qual scope s.heap.objs.size f cd
 outer:=outer
 stack:=envOfC qual scope s.heap.objs.size f cd::outer
 ex:=[]
 calm:=true
 fn:=λ_=>true
 pn:=[]
 xe:=λe s'=>wpAny (model P w) (A.deeper (envOfC qual scope s.heap.objs.size f cd)) (leaving (envOfC qual scope s.heap.objs.size f cd) e) (λ_ s''=>CX outer H s E e s'') (λe' s''=>CX outer H s E e' s'') s'
def bw8{sc:Scope}{n:Nat}{x:Str}(h:sc.names.lookup x=some .cell):∃c,(cellsFrom n sc.names []).lookup x=some c:=by have q:=PySem.W.cellsFrom_some sc.names n [] (.inl h);exact Option.isSome_iff_exists.mp q
def dg0{CX:xQ}{P:E2}{w:World}{K:A1}{mg:aa}{base:Heap}{N ps:am}{qual:Str}{scope:Scope}{f:Addr}{cd:Value}{A:G0}{outer:bg}{s s1:B0}{H:Hp}{E:XK}{us:aq}{vs:a9}
 (S:aV N ps scope)(hd:A.handled=none)(e0:Env0 P w K mg base A outer s H)(hl:vs.length=ps.length)(r:Vals vs us)
 (x:InCallC s s.heap.objs.size (bindL (envOfC qual scope s.heap.objs.size f cd).kindOf (ps.zip us) λ_=>none) (cellsFrom (s.heap.objs.size+1) scope.names []) (bindC (envOfC qual scope s.heap.objs.size f cd).kindOf (ps.zip us) λ_=>none) s1):
 Inv (kQ CX P w K mg base N qual scope f cd A outer s H E) [] (start N vs) H s1:=by
 have hpl:ps.length<=N.length:=by have:=N4 List.length S.pre;rw[Q2]at this;omega
 refine z21 x.done λh1 tk zz hk=>?_;subst zz;have noA:∀b:Addr,b∉(kQ CX P w K mg base N qual scope f cd A outer s H E).ex:=λb z=>D8 (show b∈([]:List Addr) from z) Y1;refine⟨⟨e0.mod,S.kind,rfl,rfl,D4 _,λy z c h1 h2=>?_,λy hy=>?_,λy c _ h=>?_,λ_=>hd,Around.frames_deeper e0.frames,.inr ⟨rfl,rfl⟩,λb z=>D8 z (noA b),e0.bs,e0.bsz,λb _ _=>noA b,λb z=>D8 z (noA b),e0.funs,e0.frf⟩,
  rfl,e0.bare,Un.kept hk,⟨_,x.toInCall.ns,λi y v h1 h2 h3=>?_⟩,λy c h=>⟨_,x.cell y c h⟩,e0.hok.fresh (D4 _),λy c h=>?_,λp hp=>D8 (show p∈([]:List (Addr×Obj)) from hp) Y1,e0.hok.kept hk,?_⟩
 . exact name_of_addr x.apart (Q4 h1) (Q4 h2)
 . have hy:scope.names.lookup y=some .cell\/scope.names.lookup y=some .free:=hy;rcases hy with hy|hy
   . exact bw8 hy
   . exact D8 rfl (S.nofree _ (Q4 hy))
 . exact Nat.le_of_lt (x.above y c (Q4 h))
 . have hi:i<vs.length:=by
    unfold start at h2;by_cases hi:i<vs.length
    . exact hi
    . rw[M3 (by simpa using hi)]at h2;rw[O3]at h2;split at h2<;>cases h2
   have ha:vs[i]?=some v:=by
    unfold start at h2;rw[Q3 (by simpa using hi),E3]at h2;cases e:vs[i]? with
    |none=>rw[e]at h2;cases h2
    |some a=>rw[e]at h2;cases h2;rfl
   obtain⟨u,hu,rv⟩:=r.get ha;have hp:ps[i]?=some y:=by rw[<-S.pre,V9 X8];exact h1
   have ndP:ps.Nodup:=by rw[<-S.pre];exact S.nd.sublist (List.take_sublist _ _)
   refine⟨u,rv,?_⟩;rcases S.par y (C4 hp)with k|k
   . exact .inl ⟨k,bv4 ndP hp hu k⟩
   . obtain⟨c,e⟩:=bw8 (n:=s.heap.objs.size+1) k;refine .inr ⟨.inl k,c,e,?_⟩;have q:=x.cell y c e;rw[br5 ndP hp hu (by show scope.names.lookup y≠_;rw[k];decide)]at q;exact q
 . exact e0.hok.fresh (Nat.le_of_lt (x.above y c (Q4 h)))
 . unfold start;show _=N.length;rw[G2,B7,List.length_replicate];omega
theorem dn8{CX:xQ}{P:E2}{w:World}{K:A1}{mg:aa}{base:Heap}{k:Nat}{f:Addr}{name qual:Str}{params:Arguments}{body:da}{scope:Scope}{dV kV doc pm cdv ct oc:Value}{an od:bb}
 {osl:bp}{N ps:am}{sp:Sp}(lk:K.lookup f=some ⟨oc,od,.func (PySem.W.fnOf name qual params body scope dV kV doc pm an cdv ct),osl⟩)(hcd:PySem.W.codeIn K cdv qual=true)(S:aV N ps scope)
 (len:∀vs H Q E,sp vs H Q E->vs.length=ps.length)
 (hbody:∀(A:G0)(outer:bg)(s:B0)(H:Hp)(vs:a9)(Q:VK)(E:XK),Room k (A.deeper (envOfC qual scope s.heap.objs.size f cdv))->sp vs H Q E->
  ∃t,PSs (kQ CX P w K mg base N qual scope f cdv A outer s H E) body t/\t {nx:=λ_ H'=>Q .non H',rt:=Q} (start N vs) H):
 FnOk P w K mg base CX (k+1) f (PySem.W.fnOf name qual params body scope dV kV doc pm an cdv ct) ps sp:=by
 refine⟨len,λA outer s H args us vs Q E hr e0 hb r hsp=>?_⟩;have hl:=len _ _ _ _ hsp;have KX:K.In s.heap:=e0.mod.kin.keeps λb o e=>(e0.bs b o e).1;have lim:s.heap.NoLimit:=e0.mod.nolimit.keeps λb o e=>(e0.bs b o e).1;have hkind:∀y∈ps.zip us,scope.names.lookup y.1=some .local\/(scope.names.lookup y.1=some .cell/\((cellsFrom (s.heap.objs.size+1) scope.names []).lookup y.1).isSome=true):=λ⟨n,v⟩ hy=>by
  rcases S.par n (R0 hy).1 with q|q
  . exact .inl q
  . exact .inr ⟨q,PySem.W.cellsFrom_some _ _ _ (.inl q)⟩
 refine codeAny_call_function hr.depth (KX _ _ lk) rfl S.co S.gen rfl (PySem.W.codeRec_of KX hcd) (hb _ _ _ _ ?_);refine wpAny_newFunctionEnv_cells S.kind hkind λenv he s1 x=>?_;subst he;refine⟨lim.keeps x.toInCall.keep,codeAny_func ?_⟩;obtain⟨t,ht,hq⟩:=hbody A outer s H vs Q E (hr.deeper _) hsp;have I:Inv (kQ CX P w K mg base N qual scope f cdv A outer s H E) [] (start N vs) H s1:=dg0 S hr.hd e0 hl r x;refine J1 (ht s1 (start N vs) H _ I hq) (λfl s' hs=>?_) λe s' hs=>hs;have bP:∀{σ':St}{H':Hp}{v:V}{u:Value},Inv (kQ CX P w K mg base N qual scope f cdv A outer s H E) [] σ' H' s'->RelV v u->Q v H'->CE outer P w H s Q u s':=
  λ{σ' H' v u} J rv q=>⟨v,H',J.os,J.bare,J.base,J.hok,rv,q⟩
 cases fl with
 |ret u=>refine z32 hs λv σ' H' J rv q=>?_;exact bP J rv q
 |next=>refine z21 hs λσ' H' J q=>?_;exact bP (v:=V.non) (u:=Value.none) J rfl q
 |brk=>refine z21 hs λ_ _ _ q=>?_;exact False.elim q
 |cont=>refine z21 hs λ_ _ _ q=>?_;exact False.elim q
section
variable{X:Cx}{x:Str}{p pos:Pos}{e:Expr}{es:bj}{t:TA}{id T:String}{r:cj}
def tCB(r:cj)(t:TA):TE:=λO H Q=>t O H λvs H1=>r vs H1 Q
def aR(hc:CallR X (.builtin id) r)(hg:Gl X x)(hm:X.mg x=none)(hv:bootBuiltins x=some (.builtin id))(ha:PA X (e::es) t)(hn:autoParam (x≠"__name__") Z6)(hdb:autoParam ((x==("__debug__":Str))=false) Z6)
 (he:autoParam (starEach (e::es) X.env=(false,eval e X.env)::starEach es X.env) Z8)(hpl:autoParam ((backTo pos (starEach es X.env)).any (·.1)=false) Z8):PE X (.Call (.Name x p) (e::es) [] pos) (tCB r t):=by
 intro ζ s O H Q I h;refine K6 (oM I hg hm hv ?_ hn hdb);exact PyProof.Rows.callWith_builtin1 (wP (ha ζ s O H _ I h) λus s1 vs H1 I1 r1 q1=>hc s1 O H1 vs us Q I1 r1 q1) he hpl
def jR(hc:CallR X (.type T) r)(hg:Gl X x)(hm:X.mg x=none)(hv:bootBuiltins x=some (.type T))(ha:PA X (e::es) t)(hn:autoParam (x≠"__name__") Z6)(hdb:autoParam ((x==("__debug__":Str))=false) Z6)
 (he:autoParam (starEach (e::es) X.env=(false,eval e X.env)::starEach es X.env) Z8)(hpl:autoParam ((backTo pos (starEach es X.env)).any (·.1)=false) Z8):PE X (.Call (.Name x p) (e::es) [] pos) (tCB r t):=by
 intro ζ s O H Q I h;refine K6 (oM I hg hm hv ?_ hn hdb);exact J9 (wP (ha ζ s O H _ I h) λus s1 vs H1 I1 r1 q1=>hc s1 O H1 vs us Q I1 r1 q1) he hpl
end
end L2
namespace HT
open PySem PyProof.Rows
section
open PySem.SeqAt
open PySem.AutoSeq1 (wpAny_loadPart')
open PySem.MeetsSeq PySem.MeetsSeq2 PySem.MeetsSeq3
end
section
variable{prog:E2}{w:World}{A:G0}{E:ag}{s:B0}
def cat_tup(ht:IsTup s.heap t vs.toArray)(hb:IsTup s.heap b ws.toArray)(hv:vs≠[])
 (h1:ws=[]->Q (.ref t) s)(h2:ws≠[]->Q (.ref s.heap.objs.size) {s with heap:=s.heap.push {cls:=.type "tuple",data:=.seq (vs++ws).toArray}})
 (hsz:vs.length+ws.length<=sizeLine):wpAny (model prog w) A (binaryOp .Add (.ref t) (.ref b)) Q E s:=by
 obtain⟨⟨cls,dd,data,sl⟩,ho,hc,n,hd⟩:=id ht;obtain⟨⟨cls2,dd2,data2,sl2⟩,ho2,hc2,n2,hd2⟩:=id hb;simp only at hc hd hc2 hd2;subst hc hd hc2 hd2;have e:vs.toArray++ws.toArray=(vs++ws).toArray:=Y1
 by_cases hw:ws=[]
 . exact concat_meets ⟨_,ho,rfl⟩ ⟨_,ho2,rfl⟩ noFill_tuple_add seq_tuple_add PySem.F.slot_tuple_add PySem.F.entry_tuple_add (PySem.F.args_tuple_add_2 _ _)
    (tuple_addW1 t b vs.toArray ws.toArray n n2 dd dd2 sl sl2 (by simpa using hv) (by simp[hw])) ⟨ho,ho2,h1 hw⟩
 . refine concat_meets ⟨_,ho,rfl⟩ ⟨_,ho2,rfl⟩ noFill_tuple_add seq_tuple_add PySem.F.slot_tuple_add PySem.F.entry_tuple_add (PySem.F.args_tuple_add_2 _ _)
    (tuple_addW2 t b vs.toArray ws.toArray n n2 dd dd2 sl sl2 (by simpa using hv) (by simpa using hw) (by rw[A8,A8];exact hsz)) ⟨ho,ho2,?_⟩
   rw[e];exact h2 hw
def sIx(n d:Nat):Option Int->Nat
 |none=>d
 |some v=>if v<0 then(v+(n:Int)).toNat else min v.toNat n
theorem sIx_none(n d:Nat):sIx n d none=d:=rfl
theorem sIx_le(n d:Nat)(hd:d<=n)(o:a_):sIx n d o<=n:=by
 cases o with
 |none=>exact hd
 |some v=>
  show(if v<0 then(v+(n:Int)).toNat else min v.toNat n)<=n;by_cases hv:v<0
  . rw[C7 hv];omega
  . rw[D3 hv];exact Nat.min_le_right _ _
def clip_eq(v:Int)(n d:Nat):(if v<0 then max (v+(n:Int)) 0 else min v (n:Int))=((sIx n d (some v):Nat):Int):=by
 show(if v<0 then max (v+(n:Int)) 0 else min v (n:Int))=(((if v<0 then(v+(n:Int)).toNat else min v.toNat n):Nat):Int);by_cases hv:v<0
 . simp only[C7 hv];omega
 . simp only[D3 hv];omega
def adjust_gen(lo hi:a_)(n:Nat):Builtin.Slice.sliceAdjust lo hi 1 (n:Int)=(((sIx n 0 lo:Nat):Int),((sIx n n hi:Nat):Int)):=by
 have h1:¬((1:Int)<0):=X8
 unfold Builtin.Slice.sliceAdjust;simp only[h1,O2];refine Prod.ext ?_ ?_
 . cases lo with
   |none=>rfl
   |some v=>exact clip_eq v n 0
 . cases hi with
   |none=>rfl
   |some v=>exact clip_eq v n n
def places_gen(i j:Nat):Builtin.Slice.slicePlaces (i:Int) (j:Int) 1=j-i:=by
 unfold Builtin.Slice.slicePlaces;have h1:(1:Int)>0:=X8
 simp only[h1,L9,Int.ediv_one];split<;>omega
theorem slicePart_(p:IsPart v o)(h:Q o s):wpAny (model prog w) A (Builtin.Slice.slicePartIndex v) Q E s:=by
 cases p with
 |none=>exact slicePart_none h
 |int i t=>exact slicePart_int h
def sliceApplied_gen{sl:Addr}{vl vu:Value}{lo hi:a_}{n:Nat}{Q:Int×Int×Nat->B0->Prop}(hs:s.heap.IsSliceOf sl vl vu .none)(pl:IsPart vl lo)(pu:IsPart vu hi)
 (h:Q (((sIx n 0 lo:Nat):Int),1,sIx n n hi-sIx n 0 lo) s):wpAny (model prog w) A (Builtin.Slice.sliceApplied (.ref sl) (pure (n:Int))) Q E s:=by
 refine z12 (id hs) λos hos hcs hds=>?_;unfold Builtin.Slice.sliceApplied Builtin.Slice.sliceFields;refine A3 (A3 (N5 hos hds (x:=vl) rfl (A3 (N5 hos hds (x:=vu) rfl (A3 (N5 hos hds (x:=.none) rfl (C5 ?_)))))));refine A3 (slicePart_none ?_);show wpAny _ _ (if((1:Int)==0)=true then _ else _) _ _ s;rw[D3 Y2];refine A3 (slicePart_ pl (A3 (slicePart_ pu (A3 (C5 ?_)))));show wpAny _ _ (match Builtin.Slice.sliceAdjust lo hi 1 (n:Int)with|(lo,hi)=>pure (lo,(1:Int),Builtin.Slice.slicePlaces lo hi 1)) _ _ s;rw[adjust_gen lo hi n];show wpAny _ _ (pure (((sIx n 0 lo:Nat):Int),(1:Int),Builtin.Slice.slicePlaces ((sIx n 0 lo:Nat):Int) ((sIx n n hi:Nat):Int) 1)) _ _ s;rw[places_gen];exact C5 h
def pick_gen(xs:bx)(i k:Nat):((List.range k).filterMap λ(m:Nat)=>xs[((i:Int)+(m:Int)*1).toNat]?).toArray=((xs.toList.drop i).take k).toArray:=by
 have e:(λ(m:Nat)=>xs[((i:Int)+(m:Int)*1).toNat]?)=λm=>xs[i+m]?:=by
  funext m;have:((i:Int)+(m:Int)*1).toNat=i+m:=X8
  rw[this]
 rw[e];have:=pick_run xs i k;rw[List.filterMap_map]at this;have e2:((λx=>xs[x]?)∘λx=>i+x)=λm=>xs[i+m]?:=rfl;rw[e2]at this;rw[this]
def getItem_tuple_cut{t sl:Addr}{items:bx}{vl vu:Value}{lo hi:a_}{Q:ag}(ht:IsTup s.heap t items)(hs:s.heap.IsSliceOf sl vl vu .none)(pl:IsPart vl lo)(pu:IsPart vu hi)
 (hw:¬(sIx items.size 0 lo=0/\sIx items.size items.size hi=items.size))
 (h:Q (.ref s.heap.objs.size) {s with heap:=s.heap.push {cls:=.type "tuple",data:=.seq ((items.toList.drop (sIx items.size 0 lo)).take (sIx items.size items.size hi-sIx items.size 0 lo)).toArray}})
 (hsz:items.size<=sizeLine):wpAny (model prog w) A (getItem (.ref t) (.ref sl)) Q E s:=by
 have htake:sizeOk (.seq ((items.toList.drop (sIx items.size 0 lo)).take (sIx items.size items.size hi-sIx items.size 0 lo)).toArray):=by show((items.toList.drop (sIx items.size 0 lo)).take (sIx items.size items.size hi-sIx items.size 0 lo)).toArray.size<=sizeLine;rw[A8,Q2,W3,G5];omega
 have hj:sIx items.size items.size hi<=items.size:=sIx_le _ _ (D4 _) hi;refine z12 (id hs) λos hos hcs hds=>?_;have hTs:s.TypeIs (.ref sl) "slice":=⟨os,hos,hcs⟩;unfold getItem;try with_reducible refine Q0 ?_
 first|refine A3 (C5 ?_)|skip
 refine A3 (wpAny_sequenceKey ht.typeIs Y2 ?_);refine A3 (U0 (name:=Str.ofString "__getitem__") ht.typeIs S9
  (X5 S9 ht.typeIs entry_tuple_getitem ?_ (args_tuple_getitem _ _)))
 show wpAny _ _ (Builtin.Tuple.tupleItemsOf (.ref t)>>=_) _ _ s;refine A3 (tupleItemsOf_ ht ?_);refine A3 (wpAny_typeOf hTs ?_);rw[C7 Y2];refine A3 (sliceApplied_gen hs pl pu ?_);have hno:¬((((sIx items.size 0 lo:Nat):Int)==0&&(1:Int)==1&&(sIx items.size items.size hi-sIx items.size 0 lo)==items.size)=true):=by intro q;rw[E4,E4]at q;have q1:((sIx items.size 0 lo:Nat):Int)=0:=eq_of_beq q.1.1;have q2:sIx items.size items.size hi-sIx items.size 0 lo=items.size:=eq_of_beq q.2;exact hw ⟨X8,X8⟩
 show wpAny _ _ (if(((sIx items.size 0 lo:Nat):Int)==0&&(1:Int)==1&&(sIx items.size items.size hi-sIx items.size 0 lo)==items.size)=true then _ else _) _ _ s;rw[D3 hno,pick_gen];first
  |exact A3 (m:=Builtin.Tuple.tupleExact _) (O1 (C5 ⟨_,rfl,C5 h⟩) htake)
  |exact A3 (m:=Builtin.Tuple.tupleExact _) (O1 (A3 (C5 (C5 ⟨_,rfl,C5 h⟩))) htake)
  |exact A3 (A3 (m:=Builtin.Tuple.tupleExact _) (O1 (C5 (C5 ⟨_,rfl,C5 h⟩)) htake))
  |exact A3 (A3 (m:=Builtin.Tuple.tupleExact _) (O1 (C5 ⟨_,rfl,C5 h⟩) htake))
end
end HT
namespace L2
abbrev TO:=St->Hp->(Option Int->Hp->Prop)->Prop
def PO(X:Cx)(e:Option Expr)(t:TO):Prop:=
 ∀⦃ζ:ad⦄ (s:B0)(O:St)(H:Hp)(Q:Option Int->Hp->Prop),Inv X ζ O H s->t O H Q->
  wpAny (model X.prog X.w) X.A (evalPart e X.env) (λu s'=>∃o H',Inv X ζ O H' s'/\IsPart u o/\Q o H') X.xe s
def cw4:TO:=λ_ H Q=>Q none H
def dz8(t:TE):TO:=λO H Q=>t O H λx H1=>∃i,x=.int i/\Q (some i) H1
theorem xI:∀{us:aq},Vals (ns.map V.int) us->IntsAre us ns:=by
 induction ns with
 |nil=>intro us r;rw[K4]at r;cases r;exact .nil
 |cons n ns ih=>
  intro us r;rw[B9]at r;cases r with
  |cons r1 r2=>obtain⟨t,e⟩:=r1;subst e;exact .cons n t (ih r2)
section
variable{X:Cx}{e:Expr}{te:TE}{lo hi:Option Expr}{tl th:TO}{pos p2:Pos}
def jU:PO X none cw4:=by intro ζ s O H Q I h;rw[evalPart_none];exact C5 ⟨none,H,I,.none,h⟩
def gT(h:PE X e te):PO X (some e) (dz8 te):=by intro ζ s O H Q I hw;rw[evalPart_some];refine jE (h s O H _ I hw) λu s1 x H1 I1 r1 q1=>?_;obtain⟨i,rfl,q⟩:=q1;obtain⟨t,rfl⟩:=r1;exact⟨some i,H1,I1,.int i t,q⟩
def SlR(X:Cx)(r:b6):Prop:=
 ∀⦃ζ:ad⦄ (s:B0)(O:St)(H:Hp)(x:V)(v vl vu:Value)(lo hi:a_)(sl:Addr)(Q:VK),Inv X ζ O H s->RelV x v->s.heap.IsSliceOf sl vl vu .none->IsPart vl lo->IsPart vu hi->r x lo hi H Q->
  ∃T id,typeLookup (.type T) "__getitem__"=pure (some (.builtin id))/\s.TypeIs v T/\wpAny (model X.prog X.w) X.A (getItem v (.ref sl)) (EP X ζ O Q) X.xe s
def SlR.or(h:SlR X r)(h':SlR X r'):SlR X (λx lo hi H Q=>r x lo hi H Q\/r' x lo hi H Q):=by
 intro ζ s O H x v vl vu lo hi sl Q I rx hs pl pu q;rcases q with q|q
 . exact h s O H x v vl vu lo hi sl Q I rx hs pl pu q
 . exact h' s O H x v vl vu lo hi sl Q I rx hs pl pu q
def tSl(r:b6)(te:TE)(tl th:TO):TE:=λO H Q=>te O H λx H1=>tl O H1 λl H2=>th O H2 λu H3=>r x l u H3 Q
def gL(hr:SlR X r)(he:PE X e te)(hl:PO X lo tl)(hu:PO X hi th):PE X (.Subscript e (.Slice lo hi none p2) pos) (tSl r te tl th):=by intro ζ s O H Q I h;refine Subscript_ (jE (he s O H _ I h) λv s1 x H1 I1 r1 q1=>?_);refine wpAny_Slice (kP (hl s1 O H1 _ I1 q1) λvl s2 ⟨l,H2,I2,pl,q2⟩=>kP (hu s2 O H2 _ I2 q2) λvu s3 ⟨u,H3,I3,pu,q3⟩=>?_);rw[evalPart_none];refine C5 ?_;have I4:Inv X ζ O H3 {s3 with heap:=s3.heap.push {cls:=.type "slice",data:=.fields #[vl,vu,.none]}}:=I3.kept (t':=s3.toks) λb ob q=>A7 _ q;refine z22 (hr {s3 with heap:=s3.heap.push {cls:=.type "slice",data:=.fields #[vl,vu,.none]}} O H3 x v vl vu l u s3.heap.objs.size Q I4 r1 (Heap.IsSliceOf.new ..) pl pu q3) λT id hT ht hg=>?_;show wpAny (model X.prog X.w) X.A (subscriptTail e (.Slice lo hi none p2) v (.ref s3.heap.objs.size)) (EP X ζ O Q) X.xe {s3 with heap:=s3.heap.push {cls:=.type "slice",data:=.fields #[vl,vu,.none]}};exact tail_any (ops:=[.ref s3.heap.objs.size,v]) ht hT hg Y4
noncomputable def ae4(xs:a9)(lo hi:a_):List V:=(xs.drop (HT.sIx xs.length 0 lo)).take (HT.sIx xs.length xs.length hi-HT.sIx xs.length 0 lo)
def as6(xs:a9)(lo hi:a_):(ae4 xs lo hi).length<=xs.length:=by unfold ae4;rw[Q2,W3];omega
def en8(K:A1):V->Option Int->Option Int->Hp->VK->Prop:=λx lo hi H Q=>∃a xs,x=.ref a/\SqT K H a xs/\
 ¬(HT.sIx xs.length 0 lo=0/\HT.sIx xs.length xs.length hi=xs.length)/\∀p,H p=none->Q (.ref p) (upd H p (.tup (ae4 xs lo hi)))
def ej6:SlR X (en8 X.K):=by
 intro ζ s O H x v vl vu lo hi sl Q I rx hs pl pu h;refine z23 h λa xs zz hx hw q=>?_;clear h;subst zz;cases rx;refine z12 (I.tuple hx) λits r ht hz=>?_;have hlen:its.toArray.size=xs.length:=by rw[A8];exact r.length.symm
 refine⟨"tuple",_,S9.lookup,ht.typeIs,?_⟩;refine HT.getItem_tuple_cut ht hs pl pu (by rw[hlen];exact hw) ?_ (by rw[hlen];exact hz);rw[hlen];refine⟨.ref s.heap.objs.size,_,I.laid (t':=s.toks) (o:=.tup (ae4 xs lo hi)) (λb ob q=>A7 _ q) (D4 _) ?_,rfl,q _ (I.hok.fresh (D4 _))⟩;exact⟨J2 (as6 xs lo hi) hz,_,(r.drop (HT.sIx xs.length 0 lo)).take (HT.sIx xs.length xs.length hi-HT.sIx xs.length 0 lo),IsTup.new _ _⟩
def da9(K:A1):R2:=λx y H Q=>∃a b xs ys,x=.ref a/\y=.ref b/\SqT K H a xs/\SqT K H b ys/\xs≠[]/\xs.length+ys.length<=sizeLine/\
 (ys=[]->Q (.ref a) H)/\(ys≠[]->∀p,H p=none->Q (.ref p) (upd H p (.tup (xs++ys))))
theorem Vals.nil_iff(r:Vals xs us):us=[]↔xs=[]:=by
 cases r with
 |_=>simp
def ek1:OpR X (binaryOp .Add) (da9 X.K):=by intro ζ s O H x y v u Q I rx ry h;obtain⟨a,b,xs,ys,rfl,rfl,ha,hb,hx,hz,q1,q2⟩:=h;cases rx;cases ry;obtain⟨its,r1,p1,_⟩:=I.tuple ha;obtain⟨its2,r2,p2,_⟩:=I.tuple hb;refine HT.cat_tup p1 p2 (λz=>hx (r1.nil_iff.mp z)) (λz=>⟨.ref a,H,I,rfl,q1 (r2.nil_iff.mp z)⟩) (λz=>?_) (by rw[<-r1.length,<-r2.length];exact hz);refine⟨.ref s.heap.objs.size,_,I.laid (t':=s.toks) (o:=.tup (xs++ys)) (λb ob q=>A7 _ q) (D4 _) ?_,rfl,q2 (λw=>z (r2.nil_iff.mpr w)) _ (I.hok.fresh (D4 _))⟩;exact⟨by rw[G2];exact hz,_,r1.append r2,IsTup.new _ _⟩
end
noncomputable def pU(n:Nat)(i:Int):Option Nat:=if 0<=i then(if i<n then some i.toNat else none)else if -(n:Int)<=i then some (i+n).toNat else none
def atI{α:Type}(xs:List α)(i:Int):Option α:=(pU xs.length i).bind λj=>xs[j]?
def bg2(h:pU n i=some j):seqIndex? i n=some j/\j<n/\-(n:Int)<=i/\i<n:=by
 unfold pU at h;by_cases h0:0<=i
 . rw[C7 h0]at h;by_cases h1:i<n
   . rw[C7 h1]at h;have e:i.toNat=j:=E9 h;exact⟨by rw[seqIndex_of h0 h1,e],X8,X8,h1⟩
   . rw[D3 h1]at h;cases h
 . rw[D3 h0]at h;by_cases h1:-(n:Int)<=i
   . rw[C7 h1]at h;have e:(i+n).toNat=j:=E9 h;exact⟨by rw[seqIndex_neg X8 h1,e],X8,h1,X8⟩
   . rw[D3 h1]at h;cases h
theorem bw1(h:atI xs i=some v):∃j,seqIndex? i xs.length=some j/\xs[j]?=some v/\j<xs.length/\-(xs.length:Int)<=i/\i<xs.length:=by
 unfold atI at h;cases e:pU xs.length i with
 |none=>rw[e]at h;cases h
 |some j=>rw[e]at h;refine z03 (bg2 e) λh1 h2 h3 h4=>?_;exact⟨j,h1,h,h2,h3,h4⟩
def gG{α:Type}{xs:List α}{j:Nat}{v:α}(h:xs[j]?=some v):atI xs (j:Int)=some v:=by
 have hj:j<xs.length:=(C8.mp h).1;have e:pU xs.length (j:Int)=some j:=by unfold pU;rw[C7 X8,C7 X8];simp
 unfold atI;rw[e];exact h
def cp4(b:Expr):Prop:=∀o i,subscripted b false o i=operate [o,i] (getItem o i)
def IxR(X:Cx)(r:R2):Prop:=
 ∀(value slice:Expr)(ζ:ad)(s:B0)(O:St)(H:Hp)(x y:V)(v u:Value)(Q:VK),Inv X ζ O H s->RelV x v->RelV y u->r x y H Q->
  subscripted slice false v u=operate [v,u] (getItem v u)->wpAny (model X.prog X.w) X.A (subscriptTail value slice v u) (EP X ζ O Q) X.xe s
def MtR(X:Cx)(id:String)(r:bh):Prop:=
 ∀⦃ζ:ad⦄ (s:B0)(O:St)(H:Hp)(x:V)(xs:a9)(v:Value)(us:aq)(Q:VK),Inv X ζ O H s->RelV x v->Vals xs us->r x xs H Q->
  wpAny (model X.prog X.w) X.A (call (.builtin id) (v::us)) (EP X ζ O Q) X.xe s
section
variable{X:Cx}{a b:Expr}{ta tb:TE}{pos:Pos}
def IxR.or(h:IxR X r)(h':IxR X r'):IxR X (λx y H Q=>r x y H Q\/r' x y H Q):=by
 intro value slice ζ s O H x y v u Q I rx ry q hs;rcases q with q|q
 . exact h value slice ζ s O H x y v u Q I rx ry q hs
 . exact h' value slice ζ s O H x y v u Q I rx ry q hs
def fx1(hr:IxR X r)(ha:PE X a ta)(hb:PE X b tb)(hs:cp4 b):PE X (.Subscript a b pos) (tOp r ta tb):=by intro ζ s O H Q I h;exact Subscript_ (dl7 ha hb I h λv u s2 x y H2 I2 rx ry q=>hr a b ζ s2 O H2 x y v u Q I2 rx ry q (hs _ _))
def ey7(K:A1):R2:=λx y H Q=>∃p xs i v,x=.ref p/\y=.int i/\SqL K H p xs/\atI xs i=some v/\Q v H
def eu4(K:A1):R2:=λx y H Q=>∃p xs i v,x=.ref p/\y=.int i/\SqT K H p xs/\atI xs i=some v/\Q v H
def ez4:R2:=λx y H Q=>∃z i c,x=.str z/\y=.int i/\z.length<=sizeLine/\atI z.cps.toList i=some c/\Q (.str ⟨#[c]⟩) H
def ix_list:IxR X (ey7 X.K):=by
 intro value slice ζ s O H x y v u Q I rx ry h hs;refine z44 h λp xs i z zz zy hq he q=>?_;clear h;subst zz zy;cases rx;obtain⟨t,rfl⟩:=ry;refine z12 (I.list hq) λits r pl hz=>?_;refine z14 (bw1 he) λj h1 h2 h3 h4 h5=>?_;obtain⟨w,ew,rw'⟩:=r.get h2;have hl:=r.length;have hn:=au0;have bP:EP X ζ O Q w s:=⟨z,H,I,rw',q⟩;by_cases h0:0<=i
 . have hj:i.toNat=j:=by rw[seqIndex_of h0 h5]at h1;exact E9 h1
   exact item_listR pl.isList h0 X8 (by rw[hj];simpa using ew) bP hs
 . have hj:(i+(its.toArray.size:Int)).toNat=j:=by rw[seqIndex_neg X8 h4]at h1;rw[A8,<-hl];exact E9 h1
   exact subscriptTail_builtinR (x:=w) pl.isList.typeIs slot_list_getitem.lookup
    (wpAny_getItem_list_neg (Q:=λr s'=>r=w/\EP X ζ O Q r s') pl.isList X8 (by rw[A8]<;>omega) X8 (by rw[hj];simpa using ew) ⟨rfl,bP⟩) hs
def ix_tup:IxR X (eu4 X.K):=by
 intro value slice ζ s O H x y v u Q I rx ry h hs;refine z44 h λp xs i z zz zy hq he q=>?_;clear h;subst zz zy;cases rx;obtain⟨t,rfl⟩:=ry;refine z12 (I.tuple hq) λits r pl hz=>?_;refine z14 (bw1 he) λj h1 h2 h3 h4 h5=>?_;obtain⟨w,ew,rw'⟩:=r.get h2;have hl:=r.length;have hn:=au0;have bP:EP X ζ O Q w s:=⟨z,H,I,rw',q⟩;exact subscriptTail_builtinR (x:=w) pl.typeIs slot_tuple_getitem.lookup
  (getItem_tuple (j:=j) (Q:=λr s'=>r=w/\EP X ζ O Q r s') pl X8 X8 (by rw[A8,<-hl];exact h1) (by simpa using ew) ⟨rfl,bP⟩) hs
def ea7:IxR X ez4:=by
 intro value slice ζ s O H x y v u Q I rx ry h hs;refine z34 h λz i c zz zy hz he q=>?_;clear h;subst zz zy;obtain⟨t,rfl⟩:=rx;obtain⟨t',rfl⟩:=ry;refine z14 (bw1 he) λj h1 h2 h3 h4 h5=>?_;have hl:z.cps.toList.length=z.length:=by simp[Str.length]
 rw[hl]at h1 h4 h5;have hn:=au0;exact tail_any (typeIs_str s z t) slot_str_getitem.lookup (getItem_str (c:=c) (by have e1:decide (i< -(2^63:Int))=false:=D6 X8;have e2:decide (i>=2^63)=false:=D6 X8;rw[e1,e2,Bool.or_false]) (by rw[h1];simpa using h2) ⟨.str ⟨#[c]⟩,H,I.tok _,⟨_,rfl⟩,q⟩) hs
def rIx(K:A1):R2:=λx y H Q=>ey7 K x y H Q\/eu4 K x y H Q\/ez4 x y H Q
def ea9:IxR X (rIx X.K):=ix_list.or (ix_tup.or ea7)
def cu5(its:aq)(n j:Nat)(u:Value):Obj.mapSeq (·.setIfInBounds j u) {cls:=.type "list",data:=.seq its.toArray n}={cls:=.type "list",data:=.seq (its.set j u).toArray n}:=by simp[Obj.mapSeq]
theorem Inv.lst{ζ:ad}{O:St}{H:Hp}{s:B0}{p:Addr}{xs:a9}(I:Inv X ζ O H s)(h:H p=some (.lst xs)):
 ∃(its:aq)(n:Nat),Vals xs its/\s.heap.get? p=some {cls:=.type "list",data:=.seq its.toArray n}/\xs.length<=sizeLine:=by
 obtain⟨z,its,n,r,e⟩:=I.hok p _ h;exact⟨its,n,r,e,z⟩
def Inv.lstUpd{ζ:ad}{O:St}{H:Hp}{s:B0}{p:Addr}{xs ys:a9}{its its':aq}{n n':Nat}{f:Obj->Obj}(I:Inv X ζ O H s)(h:H p=some (.lst xs))
 (ho:s.heap.get? p=some {cls:=.type "list",data:=.seq its.toArray n})(hf:f {cls:=.type "list",data:=.seq its.toArray n}={cls:=.type "list",data:=.seq its'.toArray n'})(r:Vals ys its')(hz:ys.length<=sizeLine)(t:Nat):
 Inv X ζ O (upd H p (.lst ys)) {s with heap:=s.heap.update p f,toks:=t}:=by
 have e:(s.heap.update p f).get? p=some {cls:=.type "list",data:=.seq its'.toArray n'}:=by rw[Heap.get?_update_self f ho (by rw[hf]<;>rfl),hf]
 refine I.write (x:=p) (e:=p) (by rw[h];trivial) (.inl rfl) (λb u hb q=>(U5 _ _ (N8 hb)).trans q) ⟨_,e⟩ ?_;exact⟨hz,its',n',r,e⟩
def dq8:V->V->V->Hp->(Hp->Prop)->Prop:=λo i v H Q=>∃p xs k j,o=.ref p/\i=.int k/\H p=some (.lst xs)/\pU xs.length k=some j/\Q (upd H p (.lst (xs.set j v)))
def yM:eg8 X dq8:=by
 intro ζ s O H o i v ov iv u Q I ro ri rv h;refine z44 h λp xs k j zz zy hp hj q=>?_;clear h;subst zz zy;cases ro;obtain⟨t,rfl⟩:=ri;refine z22 (I.lst hp) λits n r ho hz=>?_;refine z03 (bg2 hj) λh1 h2 h3 h4=>?_;have hl:=r.length;have hn:=au0;have I':Inv X ζ O (upd H p (.lst (xs.set j v))) {s with heap:=s.heap.update p (Obj.mapSeq (·.setIfInBounds j u))}:=
  I.lstUpd hp ho (cu5 its n j u) (r.set rv j) (by rw[N0];exact hz) s.toks
 by_cases h0:0<=k
 . have hk:k.toNat=j:=by rw[seqIndex_of h0 h4]at h1;exact E9 h1
   exact PySem.W.ki_setAt ho h0 X8 (by rw[A8,<-hl];exact h4) (by rw[hk];exact⟨_,I',q⟩)
 . have hk:(k+(its.toArray.size:Int)).toNat=j:=by rw[seqIndex_neg X8 h3]at h1;rw[A8,<-hl];exact E9 h1
   exact PySem.W.ki_setBack ho X8 (by rw[A8,<-hl];exact h3) X8 (by rw[hk];exact⟨_,I',q⟩)
def ci0(lo hi:a_)(n:Nat):(sliceBounds lo hi none n).1=((HT.sIx n 0 lo:Nat):Int)/\(sliceBounds lo hi none n).2.1=((HT.sIx n n hi:Nat):Int)/\(sliceBounds lo hi none n).2.2=1:=by
 refine⟨?_,?_,rfl⟩
 . cases lo with
   |none=>simp[sliceBounds,HT.sIx]
   |some i=>
    simp only[sliceBounds,HT.sIx,Option.getD_none,show(1:Int)>0 by decide,L9];by_cases h:i<0
    . simp only[h,L9]<;>omega
    . simp only[h,O2]<;>omega
 . cases hi with
   |none=>simp[sliceBounds,HT.sIx]
   |some i=>
    simp only[sliceBounds,HT.sIx,Option.getD_none,show(1:Int)>0 by decide,L9];by_cases h:i<0
    . simp only[h,L9]<;>omega
    . simp only[h,O2]<;>omega
def bx5(its:aq)(lo hi:a_):slicePick its.toArray lo hi none=((its.drop (HT.sIx its.length 0 lo)).take (HT.sIx its.length its.length hi-HT.sIx its.length 0 lo)).toArray:=by obtain⟨h1,h2,h3⟩:=ci0 lo hi its.toArray.size;unfold slicePick;rw[h1,h2,h3];simp only[sliceRange_one,pick_run,A8]<;>rfl
def er6(K:A1):V->Option Int->Option Int->Hp->VK->Prop:=λx lo hi H Q=>∃a xs,x=.ref a/\SqL K H a xs/\∀p,H p=none->Q (.ref p) (upd H p (.lst (ae4 xs lo hi)))
def em0:SlR X (er6 X.K):=by intro ζ s O H x v vl vu lo hi sl Q I rx hs pl pu h;refine z22 h λa xs zz hx q=>?_;clear h;subst zz;cases rx;refine z12 (I.list hx) λits r ht hz=>?_;have hlen:=r.length;refine⟨"list",_,slot_list_getitem.lookup,ht.isList.typeIs,?_⟩;refine wpAny_getItem_list_slice ht.isList hs pl pu .none Y1 ?_ (by rw[A8]<;>omega);rw[bx5,<-hlen];refine⟨.ref s.heap.objs.size,_,I.laid (t':=s.toks) (o:=.lst (ae4 xs lo hi)) (λb ob q=>A7 _ q) (D4 _) ?_,rfl,q _ (I.hok.fresh (D4 _))⟩;exact⟨J2 (as6 xs lo hi) hz,_,0,(r.drop (HT.sIx xs.length 0 lo)).take (HT.sIx xs.length xs.length hi-HT.sIx xs.length 0 lo),D5 _ rfl⟩
noncomputable def tR:V->Bool
 |.non=>true
 |.bl _=>true
 |.int _=>true
 |.str _=>true
 |_=>false
noncomputable def eqV:V->V->Bool
 |.non,.non=>true
 |.bl a,.bl b=>a==b
 |.bl a,.int b=>(if a then 1 else 0)==b
 |.int a,.bl b=>a==(if b then 1 else 0)
 |.int a,.int b=>a==b
 |.str a,.str b=>a==b
 |_,_=>false
theorem db0(ry:RelV y u)(rx:RelV x v)(fy:tR y=true)(fx:tR x=true):SeqAt.EqAt A s u v (eqV y x):=by
 cases y with
 |non=>
  cases ry;cases x with
  |non=>cases rx;exact SeqAt.EqAt.same _
  |bl b=>cases rx;exact SeqAt.EqAt.none_bool b
  |int b=>obtain⟨t,rfl⟩:=rx;exact SeqAt.EqAt.none_int b t
  |str b=>obtain⟨t,rfl⟩:=rx;exact SeqAt.EqAt.none_str b t
  |_=>exact D8 (show false=true from fx) D9
 |bl a=>
  cases ry;cases x with
  |non=>cases rx;exact SeqAt.EqAt.bool_none a
  |bl b=>cases rx;exact SeqAt.EqAt.bool_bool a b
  |int b=>obtain⟨t,rfl⟩:=rx;exact SeqAt.EqAt.bool_int a b t
  |str b=>obtain⟨t,rfl⟩:=rx;exact SeqAt.EqAt.bool_str a b t
  |_=>exact D8 (show false=true from fx) D9
 |int a=>
  obtain⟨t',rfl⟩:=ry;cases x with
  |non=>cases rx;exact SeqAt.EqAt.int_none a t'
  |bl b=>cases rx;exact SeqAt.EqAt.int_bool a t' b
  |int b=>obtain⟨t,rfl⟩:=rx;exact SeqAt.EqAt.int_int a t' b t
  |str b=>obtain⟨t,rfl⟩:=rx;exact SeqAt.EqAt.int_str a t' b t
  |_=>exact D8 (show false=true from fx) D9
 |str a=>
  obtain⟨t',rfl⟩:=ry;cases x with
  |non=>cases rx;exact SeqAt.EqAt.str_none a t'
  |bl b=>cases rx;exact SeqAt.EqAt.str_bool a t' b
  |int b=>obtain⟨t,rfl⟩:=rx;exact SeqAt.EqAt.str_int a t' b t
  |str b=>obtain⟨t,rfl⟩:=rx;exact SeqAt.EqAt.str_str a t' b t
  |_=>exact D8 (show false=true from fx) D9
 |_=>exact D8 (show false=true from fy) D9
def ch0:OpR X (compareOp .NotIn) (λx y H Q=>∃i j,x=.str i/\y=.str j/\Q (.bl (!(!(Builtin.Str.occurrences j i 0 j.length 1).isEmpty))) H):=by intro ζ s O H x y v u Q I rx ry h;refine z22 h λi j zz zy q=>?_;clear h;subst zz zy;obtain⟨t,rfl⟩:=rx;obtain⟨t',rfl⟩:=ry;exact notIn_str ⟨.bl _,H,I,rfl,q⟩
def CallR.or(h:CallR X f r)(h':CallR X f r'):CallR X f (λxs H Q=>r xs H Q\/r' xs H Q):=by
 intro ζ s O H xs us Q I rs q;rcases q with q|q
 . exact h s O H xs us Q I rs q
 . exact h' s O H xs us Q I rs q
def ck1:CallR X (.type "list") (λxs H Q=>∃p ys,xs=[.ref p]/\(SqL X.K H p ys\/SqT X.K H p ys)/\∀l,H l=none->Q (.ref l) (upd H l (.lst ys))):=by
 intro ζ s O H xs us Q I r h;refine z22 h λp ys zz hq q=>?_;clear h;subst zz;obtain⟨u,rfl,rx⟩:=am9 r;cases rx;have bP:∀(its:aq),Vals ys its->ys.length<=sizeLine->∀(h':Heap)(c':Nat),(∀b o',s.heap.get? b=some o'->h'.get? b=some o')->
  h'.get? s.heap.objs.size=some {cls:=.type "list",dict:=none,data:=.seq its.toArray c',slots:=#[]}->EP X ζ O Q (.ref s.heap.objs.size) {s with heap:=h'}:=λits r' hz h' c' kp e=>
  ⟨.ref s.heap.objs.size,_,I.laid (t':=s.toks) kp (D4 _) (show ObjOk X.prog X.w _ h' _ (.lst ys) from⟨hz,its,c',r',e⟩),rfl,q _ (I.hok.fresh (D4 _))⟩
 rcases hq with hq|hq
 . refine z12 (I.list hq) λits r' pl hz=>?_;have hlen:=r'.length;obtain⟨o,ho,hc,n,hd⟩:=pl.isList;exact call_list_seq p (.inl rfl) ho hc hd (λh' c' kp e=>bP its r' hz h' c' kp e) (by simp only[A8]<;>omega)
 . refine z12 (I.tuple hq) λits r' pl hz=>?_;have hlen:=r'.length;obtain⟨o,ho,hc,n,hd⟩:=pl;exact call_list_seq p (.inr rfl) ho hc hd (λh' c' kp e=>bP its r' hz h' c' kp e) (by simp only[A8]<;>omega)
def tyV(K:A1)(T:String)(x:V)(H:Hp):Prop:=match x with
 |.str _=>T="str"
 |.int _=>T="int"
 |.ref p=>(T="list"/\∃xs,SqL K H p xs)\/(T="tuple"/\∃o,K.lookup p=some o/\o.cls=.type "tuple"/\o.dict=none)\/
  (T="dict"/\((∃kvs,H p=some (.dK kvs))\/∃kvs,H p=some (.dT kvs)))\/(T="set"/\∃S n,H p=some (.set S n))
 |_=>False
theorem cl9(I:Inv X ζ O H s)(r:RelV x v)(ty:tyV X.K T x H):
 s.TypeIs v T/\∀a,v=.ref a->∃ob,s.heap.get? a=some ob/\ob.dict=none:=by
 cases x with
 |str z=>obtain⟨t,rfl⟩:=r;cases(show T="str" from ty);exact⟨typeIs_str s z t,λ_ e=>nomatch e⟩
 |int i=>obtain⟨t,rfl⟩:=r;cases(show T="int" from ty);exact⟨typeIs_int s i t,λ_ e=>nomatch e⟩
 |ref p=>
  cases r;rcases ty with⟨rfl,xs,hq⟩|⟨rfl,o,hk,hc,hd⟩|⟨rfl,hk⟩|⟨rfl,S,n,hk⟩
  . refine z12 (I.list hq) λits _ pl _=>?_;refine⟨pl.isList.typeIs,λa e=>?_⟩;cases e;refine z23 pl λo n e c hd _=>?_;exact⟨o,e,hd⟩
  . refine⟨⟨o,I.kIn p o hk,hc⟩,λa e=>?_⟩;cases e;exact⟨o,I.kIn _ o hk,hd⟩
  . have z:∃o,s.heap.get? p=some o/\o.ExactDict:=by
     rcases hk with⟨kvs,hk⟩|⟨kvs,hk⟩
     . obtain⟨_,_,_,_,o,_,_,e,ex,_⟩:=I.hok p _ hk;exact⟨o,e,ex⟩
     . obtain⟨_,_,_,_,o,_,_,e,ex,_⟩:=I.hok p _ hk;exact⟨o,e,ex⟩
    obtain⟨o,e,ex⟩:=z;refine⟨⟨o,e,ex.1⟩,λa e2=>?_⟩;cases e2;exact⟨o,e,ex.2.1⟩
  . refine z42 (I.hok p _ hk) λo _ _ _ e ex _=>?_;refine⟨⟨o,e,ex.1⟩,λa e2=>?_⟩;cases e2;exact⟨o,e,ex.2.1⟩
 |_=>exact False.elim ty
def fv5(K:A1)(T:String)(r:bh)(to:TE):TE:=λO H Q=>to O H λx H1=>tyV K T x H1/\r x [] H1 Q
def tBM(K:A1)(T:String)(r:bh)(to:TE)(t:TA):TE:=λO H Q=>to O H λx H1=>tyV K T x H1/\t O H1 λxs H2=>r x xs H2 Q
variable{o e:Expr}{es:bj}{to:TE}{t:TA}{name:Str}{apos cpos:Pos}{T id:String}{r:bh}
def ev5(pa:PlainAttrs T)(slot:Slot T name id)(hty:typeOf (.builtin id)=pure (.type "method_descriptor"))(hm:MtR X id r)(ho:PE X o to)
 (hbase:autoParam (attributeBase o name X.env (eval o X.env)=eval o X.env) Z8)(hline:autoParam ((apos.endLine==cpos.line)=true) Z8):PE X (.Call (.Attribute o name apos) [] [] cpos) (fv5 X.K T r to):=by
 intro ζ s O H Q I h;refine wpAny_Call_method0_late hbase hline (jE (ho s O H _ I h) λv s1 x H1 I1 r1 qq=>?_);obtain⟨ty,q1⟩:=qq;obtain⟨h1,h2⟩:=cl9 I1 r1 ty;exact⟨T,id,pa,slot,hty,h1,h2,Calls.callWith_builtin rfl (PySem.evalArgs_none (hm s1 O H1 x [] v [] Q I1 r1 .nil q1))⟩
def fp3(pa:PlainAttrs T)(slot:Slot T name id)(hty:typeOf (.builtin id)=pure (.type "method_descriptor"))(hm:MtR X id r)(ho:PE X o to)(ha:PA X (e::es) t)
 (hbase:autoParam (attributeBase o name X.env (eval o X.env)=eval o X.env) Z8)
 (hfew:((backTo cpos (starEach (e::es) X.env)).all (λx=>!x.1)&&(backToKw cpos (keywordEach [] X.env)).all (λx=>x.1.isSome)
  &&decide ((e::es).length+([]:List Keyword).length+(if([]:List Keyword).isEmpty then 0 else 1)<30))=true:=by rfl)
 (hline:autoParam ((apos.endLine==cpos.line)=true) Z8)(hs:autoParam (starEach (e::es) X.env=(false,eval e X.env)::starEach es X.env) Z8)(hplain:autoParam ((backTo cpos (starEach es X.env)).any (·.1)=false) Z8):
 PE X (.Call (.Attribute o name apos) (e::es) [] cpos) (tBM X.K T r to t):=by
 intro ζ s O H Q I h;refine wpAny_Call_method_late hbase hfew hline rfl (jE (ho s O H _ I h) λv s1 x H1 I1 r1 qq=>?_);obtain⟨ty,q1⟩:=qq;obtain⟨h1,h2⟩:=cl9 I1 r1 ty;refine⟨T,id,pa,slot,hty,h1,h2,?_⟩;have hA:=@ha cpos ζ s1 O H1 _ I1 q1;rw[hs]at hA⊢;refine Calls.callWith_builtin (by show(false||(backTo cpos (starEach es X.env)).any (·.1))=false;rw[hplain]<;>rfl) (Calls.evalArgs_plain ?_);exact wP hA λus s2 vs H2 I2 r2 q2=>hm s2 O H2 x vs v us Q I2 r1 r2 q2
/- xs.append(e), list.index on a module's tuple .. are MtR facts of 06m -/
end
def MtM(X:Cx)(id:String)(r:bh):Prop:=
 ∀(ζ:ad)(s:B0)(O:St)(H:Hp)(x:V)(xs:a9)(v:Value)(us:aq)(Q:VK),Inv X ζ O H s->RelV x v->Vals xs us->r x xs H Q->
  wpAny (model X.prog X.w) X.A (call (.builtin id) (v::us)) (EP X ζ O Q) X.xe s
theorem Vals.cns{x:V}{xs:a9}{us:aq}(h:Vals (x::xs) us):∃u r,us=u::r/\RelV x u/\Vals xs r:=by
 cases h with
 |cons r t=>exact⟨_,_,rfl,r,t⟩
def Vals.one{x:V}{us:aq}(h:Vals [x] us):∃u,us=[u]/\RelV x u:=by refine z22 h.cns λu r zz a t=>?_;subst zz;cases t;exact⟨u,rfl,a⟩
def Vals.two{x y:V}{us:aq}(h:Vals [x,y] us):∃u v,us=[u,v]/\RelV x u/\RelV y v:=by refine z22 h.cns λu r zz a t=>?_;subst zz;obtain⟨v,rfl,b⟩:=t.one;exact⟨u,v,rfl,a,b⟩
theorem Vals.zero:∀{us:aq},Vals [] us->us=[]
 |_,.nil=>rfl
theorem Vals.dropLast(h:Vals xs us):Vals xs.dropLast us.dropLast:=by
 induction h with
 |nil=>exact .nil
 |cons r t ih=>
  cases t with
  |nil=>exact .nil
  |cons q t'=>exact .cons r ih
theorem ct5(l:List α):l.eraseIdx (l.length-1)=l.dropLast:=by
 induction l with
 |nil=>rfl
 |cons a r ih=>
  cases r with
  |nil=>rfl
  |cons b r=>
   have e:(a::b::r).length-1=((b::r).length-1)+1:=by have h1:(a::b::r).length=r.length+2:=rfl;have h2:(b::r).length=r.length+1:=rfl;omega
   rw[e,List.eraseIdx_cons_succ,ih];all_goals rfl
section
variable{X:Cx}{ζ:ad}{O:St}{H:Hp}{s:B0}{l b:Addr}{xs ys zs:a9}
def Inv.lset{its its':aq}{n:Nat}{f:Array Value->Array Value}{t':Nat}(I:Inv X ζ O H s)(hH:H l=some (.lst xs))
 (e:s.heap.get? l=some {cls:=.type "list",data:=.seq its.toArray n})(hf:f its.toArray=its'.toArray)(hv:Vals ys its')(hz:ys.length<=sizeLine):
 Inv X ζ O (upd H l (.lst ys)) {s with heap:=s.heap.update l (Obj.mapSeq f),toks:=t'}:=by
 have q:=PySem.IsL.update e f;rw[hf]at q;refine I.write (x:=l) (e:=l) (by rw[hH];exact trivial) (.inl rfl) (λb' u hb hu=>(U5 s.heap (Obj.mapSeq f) (N8 hb)).trans hu) ⟨_,q⟩ ?_;exact⟨hz,its',_,hv,q⟩
def Inv.lnew(I:Inv X ζ O H s)(hv:Vals ys its)(hz:ys.length<=sizeLine):
 Inv X ζ O (upd H s.heap.objs.size (.lst ys)) {s with heap:=s.heap.push {cls:=.type "list",data:=.seq its.toArray},toks:=t'}:=
 I.laid (λ_ _ q=>A7 _ q) (D4 _) ⟨hz,its,0,hv,D5 _ rfl⟩
theorem Inv.fresh(I:Inv X ζ O H s):H s.heap.objs.size=none:=I.hok.fresh (D4 _)
def Inv.lstM(I:Inv X ζ O H s)(hH:H l=some (.lst xs)):xs.length<=sizeLine/\∃(its:aq)(n:Nat),Vals xs its/\xs.length=its.length/\s.heap.get? l=some {cls:=.type "list",data:=.seq its.toArray n}:=by obtain⟨z,its,n,r,e⟩:=I.hok l _ hH;exact⟨z,its,n,r,r.length,e⟩
def dw6(h:n<=sizeLine):Builtin.List.listTooLong n=false:=by unfold Builtin.List.listTooLong;exact D6 X8
end
section
variable{X:Cx}
def bt2:V->List V->Hp->VK->Prop:=λx vs H Q=>∃l xs y,x=.ref l/\vs=[y]/\H l=some (.lst xs)/\xs.length<sizeLine/\Q .non (upd H l (.lst (xs++[y])))
def du0:MtM X "list.append" bt2:=by intro ζ s O H x vs v us Q I rx rv h;refine z34 h λl xs y zz zy hH hz q=>?_;clear h;subst zz zy;cases rx;obtain⟨u,rfl,ru⟩:=rv.one;obtain⟨z,its,n,r,hl,e⟩:=I.lstM hH;refine U8 F.slot_list_append ⟨_,e,rfl⟩ F.entry_list_append (F.args_list_append_2 _ _) (PySem.list_append l its.toArray n u (by rw[A8];omega)) ⟨e,?_⟩;refine⟨.non,_,I.lset (its':=its++[u]) hH e Y1 (r.append (.cons ru .nil)) ?_,rfl,q⟩;rw[G2,List.length_singleton];omega
def cf5:V->List V->Hp->VK->Prop:=λx vs H Q=>∃l b xs zs,x=.ref l/\vs=[.ref b]/\H l=some (.lst xs)/\H b=some (.lst zs)/\xs.length+zs.length<=sizeLine/\Q .non (upd H l (.lst (xs++zs)))
def aj4:MtM X "list.extend" cf5:=by
 intro ζ s O H x vs v us Q I rx rv h;refine z45 h λl b xs zs zz zy hH hB hz q=>?_;clear h;subst zz zy;cases rx;obtain⟨u,rfl,ru⟩:=rv.one;cases ru;obtain⟨z,its,n,r,hl,e⟩:=I.lstM hH;obtain⟨z2,its2,n2,r2,hl2,e2⟩:=I.lstM hB;have hsz:its.toArray.size+its2.toArray.size<=sizeLine:=by rw[A8,A8];omega
 have hlong:¬(!its.toArray.isEmpty&&Builtin.List.listTooLong (its.toArray.size+its2.toArray.size))=true:=by rw[dw6 hsz,Bool.and_false];exact D9
 refine U8 F.slot_list_extend ⟨_,e,rfl⟩ F.entry_list_extend (F.args_list_extend_2 _ _)
  (AutoSeq1.list_extend_list_list_0 l its.toArray n b its2.toArray n2 hlong (by rw[A8];omega) X8) ⟨e,e2,?_⟩
 refine⟨.non,_,I.lset (its':=its++its2) hH e Y1 (r.append r2) ?_,rfl,q⟩;rw[G2];omega
def ex7:V->List V->Hp->VK->Prop:=λx vs H Q=>∃l xs y,x=.ref l/\vs=[]/\H l=some (.lst xs)/\xs[xs.length-1]?=some y/\Q y (upd H l (.lst xs.dropLast))
def ep6:MtM X "list.pop" ex7:=by
 intro ζ s O H x vs v us Q I rx rv h;refine z34 h λl xs y zz zy hH hy q=>?_;clear h;subst zz zy;cases rx;have hus:=rv.zero;subst hus;obtain⟨z,its,n,r,hl,e⟩:=I.lstM hH;obtain⟨u,hu,ru⟩:=r.get hy;have hy':its.toArray[its.toArray.size-1]?=some u:=by show its.toArray[its.length-1]?=some u;rw[<-X4,<-hl];exact hu
 refine U8 F.slot_list_pop ⟨_,e,rfl⟩ F.entry_list_pop (F.args_list_pop_1 _) (MeetsSeq.list_pop_last l its.toArray n u hy' (by rw[A8];omega)) ⟨e,?_⟩;refine⟨y,_,I.lset (its':=its.dropLast) hH e ?_ r.dropLast ?_,ru,q⟩
 . show its.toArray.eraseIdxIfInBounds (its.toArray.size-1)=its.dropLast.toArray;rw[A8,List.eraseIdxIfInBounds_toArray,ct5]
 . rw[List.length_dropLast];omega
theorem ef2(xs:List α)(k:Nat):(List.replicate k xs).flatten.length=k*xs.length:=by
 induction k with
 |zero=>simp
 |succ k ih=>rw[G8,B8,G2,ih,Nat.succ_mul,Nat.add_comm]
end
section
variable{prog:E2}{w:World}{A:G0}{E:ag}{s:B0}
set_option maxRecDepth 100000 in
end
section
variable{X:Cx}
end
end L2
namespace Att
open PySem PySem.W PySem.Calls PyProof.Rows
theorem ints_of_wellAll:∀(ns:ah)(vs:aq),WellAll P h vs (ns.map WData.int)->IntsAre vs ns:=by
 intro ns;induction ns with
 |nil=>intro vs w;rw[K4]at w;cases w;exact .nil
 |cons n ns ih=>
  intro vs w;rw[B9]at w;cases w with
  |cons a b=>cases a;exact .cons _ _ (ih _ b)
theorem script_of{l:OpenLaw}{n:Nat}(hn:l.most=some n){P:Params}{h:Heap}{args:List WData}{vals:aq}
 (hpre:l.row.toRowW.claim.pre args=true)(hwl:WellAll P h vals args):
 ∃a vs ns,vals=[Value.ref a]/\args=[WData.list (ns.map WData.int)]/\h.get? a=some {cls:=.type "list",data:=.seq vs.toArray}/\IntsAre vs ns/\ns.length<=n:=by
 have hsh:WShape.hasAll [] args [.list .int]=true:=(pre_splitW hpre).1;have hc:l.pre.holds [] {args:=args}=true:=(pre_splitW hpre).2;refine z22 (hasAllW_cons hsh) λd r zz h1 h2=>?_;subst zz;obtain rfl:=hasAllW_nil h2;obtain⟨xs,rfl,h3⟩:=hasW_list h1;obtain⟨ns,rfl⟩:=items_int h3;have hlen:ns.length<=n:=by
  unfold OpenLaw.pre at hc;have h4:(WTm.not (.lt (.lit (.int (n:Int))) (.len (.arg 0)))).holds [] {args:=[.list (ns.map .int)]}=true:=by have h4:=(holds_andW hc).1;rw[hn]at h4;exact h4
  have h5:=condW_of h4 (w_not (w_lt w_lit (w_len_list (w_arg rfl))));rw[B7]at h5;refine Nat.le_of_not_lt λq=>?_;have q':(n:Int)<((ns.length:Nat):Int):=X8
  first
   |(rw[E8 q']at h5;exact D8 h5 Y2)
   |(simp at h5;omega)
 cases hwl with
 |cons w1 w2=>
  cases w2;cases w1 with
  |list ho hall=>exact⟨_,_,ns,rfl,rfl,ho,ints_of_wellAll ns _ hall,hlen⟩
def post_true(l:OpenLaw)(args:List WData):l.row.toRowW.claim.post args (.bool true) args=true:=
 postW_of (r:=l.row.toRowW) (X:=(true==true))
  (show WShape.has [] (.bool true) .bool=true by first|rfl|decide|simp[WShape.has,WShape.arms,WShape.armsAll])
  (show(WTm.eq .res (.lit (.bool true))).value [] {args:=args,res:=some (.bool true),after:=args}=some (.bool (true==true)) from w_eq_bool (w_res rfl) w_lit) rfl
section
variable{prog:E2}{w:World}{A:G0}{E:ag}{s:B0}{K:Frag}
end
end Att
namespace L2
theorem as3:∀{vs:aq}{ns:ah},IntsAre vs ns->Vals (ns.map V.int) vs
 |_,_,.nil=>.nil
 |_,_,.cons n t h=>.cons ⟨t,rfl⟩ (as3 h)
def et8(H:Hp):Prop:=∀b,H b=none\/∃o xs,H b=some (.frz o (.lst xs))
theorem dq5{P:E2}{w:World}{K:A1}{mg mb:aa}{CX:xQ}{k:Nat}{fa a:Addr}{fd:FuncData}{x:Str}{sp:Sp}{s₁:B0}{vs:aq}{ns:ah}
 (KX:K.In s₁.heap)(hns:s₁.heap.Ns mainGlobals mg)(hb:s₁.heap.Ns builtinsNs mb)(hbb:∀x:Str,x≠"__name__"->mb x=bootBuiltins x)(hlim:s₁.heap.NoLimit)(hg:s₁.gens=#[])
 (ha:s₁.heap.get? a=some {cls:=.type "list",data:=.seq vs.toArray})(hi:IntsAre vs ns)(hl:ns.length<=sizeLine)(hr:Room k callerA)
 (F:∀base:Heap,K.In base->base.Ns mainGlobals mg->FnOk P w K mg base CX k fa fd [x] sp)(hbind:∀(s:B0)(u:Value),BindsTo s fd ⟨[u],[]⟩ [(x,u)])
 (hsp:∀H:Hp,et8 H->SqL K H a (ns.map V.int)->sp [.ref a] H (λv _=>v=.bl true) λ_ _ _=>False)
 (hCX:∀H e s',CX [] H s₁ (λ_ _ _=>False) e s'->False):
 codeAny (model P w) callerA (.call (.ref fa) ⟨[.ref a],[]⟩) (λr s'=>r=.ok (.ret (.bool true))/\OldK s₁.heap s'.heap/\s'.os=s₁.os/\AllBare s'.gens) s₁:=by
 have rv:=as3 hi;have lenV:=hi.length;have core:∀H:Hp,et8 H->SqL K H a (ns.map V.int)->HOk P w H s₁.heap->(∀b,H b≠none->b=a)->(H a≠none->K.lookup a=none)->
  codeAny (model P w) callerA (.call (.ref fa) ⟨[.ref a],[]⟩) (λr s'=>r=.ok (.ret (.bool true))/\OldK s₁.heap s'.heap/\s'.os=s₁.os/\AllBare s'.gens) s₁:=by
  intro H hO hS hok hA hK;have base_of:∀{b:Addr}{o:Obj},s₁.heap.get? b=some o->H b=none->(ay1 s₁.heap H).get? b=some o:=λe n=>dc5 e n;have noA:∀{b:Addr}{o:Obj}{es:Array DictEntry}{ep:Nat},s₁.heap.get? b=some o->o.data=.dict es ep->H b=none:=λ{b o es ep} e d=>by
   cases q:H b with
   |none=>rfl
   |some u=>have e':b=a:=hA b (by rw[q];simp);subst e';rw[ha]at e;cases e;have d':Data.seq vs.toArray _=Data.dict es ep:=d;cases d'
  have nsK:∀{b:Addr}{m:aa},s₁.heap.Ns b m->(ay1 s₁.heap H).Ns b m:=λ{b m} ⟨o,es,ep,e,d,r⟩=>⟨o,es,ep,base_of e (noA e d),d,r⟩;have hKb:K.In (ay1 s₁.heap H):=λb o e=>base_of (KX b o e) (by
   cases q:H b with
   |none=>rfl
   |some u=>have e':b=a:=hA b (by rw[q];simp);subst e';rw[hK (by rw[q];simp)]at e;cases e)
  have hM:Mod K mg (ay1 s₁.heap H):=⟨hKb,nsK hns,⟨mb,nsK hb,hbb⟩,let⟨mc,h1,h2⟩:=hlim;⟨mc,nsK h1,h2⟩⟩;have e0:Env0 P w K mg (ay1 s₁.heap H) callerA [] s₁ H:=⟨rfl,hM,λb o e=>ei4 e,Nat.le_of_eq (ck8 _ _),trivial,λb hb=>D8 (show b∈([]:List Addr) from hb) Y1,hok,.of_eq hg⟩;refine R3 ((F _ hKb (nsK hns)).run callerA [] s₁ H ⟨[.ref a],[]⟩ [.ref a] [.ref a] _ _ hr e0 (hbind s₁ (.ref a)) (.cons rfl .nil) (hsp H hO hS)) λr s' h=>?_;cases r with
  |error e=>exact(hCX H e s' h).elim
  |ok fl=>
   cases fl with
   |ret u=>
    refine z25 h λv H' os bare un hok' r' q=>?_;have q':v=.bl true:=q;subst q';obtain rfl:u=Value.bool true:=r';refine⟨rfl,OldK.of_keep λb o e=>?_,os,bare⟩;cases q:H b with
    |none=>exact un.keep b o e q (by intro z;exact D8 (show b∈([]:List Addr) from z) Y1) Y1
    |some u=>
     rcases hO b with z|⟨ob,xs,z⟩
     . rw[q]at z;cases z
     . have z2:=un.frzs b ob _ z;obtain⟨e1,_⟩:=hok b _ z;obtain⟨e2,_⟩:=hok' b _ z2;rw[e]at e1;cases e1;exact e2
   |_=>exact False.elim h
 cases hk:K.lookup a with
 |some o=>have e:=KX a o hk;rw[ha]at e;cases e;refine core (λ_=>none) (λ_=>.inl rfl) (.inr ⟨_,vs.toArray,_,hk,rfl,rfl,rfl,by rw[A8,lenV];exact hl,by simpa using rv⟩) (λb u z=>by have z':(none:Option HO)=some u:=z;cases z') (λb z=>D8 rfl z) λz=>D8 rfl z
 |none=>
  refine core (λb=>if b=a then some (.frz {cls:=.type "list",data:=.seq vs.toArray} (.lst (ns.map V.int)))else none) (λb=>?_) (.inl (.inr ⟨{cls:=.type "list",data:=.seq vs.toArray},C7 rfl⟩)) (λb u z=>?_) (λb z=>?_) λ_=>hk
  . by_cases hb:b=a
    . exact .inr ⟨_,_,C7 hb⟩
    . exact .inl (D3 hb)
  . by_cases hb:b=a
    . have z':=(C7 hb).symm.trans z;cases z';subst hb;exact⟨ha,by rw[B7];exact hl,vs,_,rv,ha⟩
    . have z':=(D3 hb).symm.trans z;cases z'
  . by_cases hb:b=a
    . exact hb
    . exact D8 (D3 hb) z
noncomputable def xM(s:Stmt)(j:Nat):Stmt:=match s with
 |.ClassDef _ _ _ body _ _ _ _ _ _ _=>body.getD j (.Pass ⟨0,0,0,0⟩)
 |_=>.Pass ⟨0,0,0,0⟩
noncomputable def jB(s:Stmt):Arguments:=match s with
 |.FunctionDef _ a _ _ _ _ _ _ _ _=>a
 |_=>{posonlyargs:=[],args:=[],vararg:=none,kwonlyargs:=[],kw_defaults:=[],kwarg:=none,defaults:=[]}
noncomputable def cP(s:Stmt):List Stmt:=match s with
 |.FunctionDef _ _ b _ _ _ _ _ _ _=>b
 |_=>[]
noncomputable def aL(s:Stmt):Scope:=match s with
 |.FunctionDef _ _ _ _ _ _ sc _ _ _=>sc
 |_=>{kind:=.function,names:=[],isGenerator:=false,isCoroutine:=false}
abbrev kS:xQ:=λ_ _ _ _ _ _=>False
abbrev E0:XK:=λ_ _ _=>False
def ax9:wC kS X E0:=λ_ _ _ _ _ _ _ h=>h.elim
structure Fun (K:A1) (x qual:Str) (st:Stmt) (f:Addr) (fd:FuncData):Prop where
 ex:∃(oc:Value)(od:bb)(kV doc pm:Value)(an:bb)(cdv ct:Value)(osl:bp),
  fd=PySem.W.fnOf x qual (jB st) (cP st) (aL st) .none kV doc pm an cdv ct/\K.lookup f=some ⟨oc,od,.func fd,osl⟩/\PySem.W.codeIn K cdv qual=true
 kp:PySem.W.keepIn K (.ref f)=true
section
variable{P:E2}{w:World}{K:A1}{mg:aa}{base:Heap}
def Fun.ok{x qual:Str}{st:Stmt}{f:Addr}{fd:FuncData}{N ps:am}{k:Nat}{sp:Sp}(F:Fun K x qual st f fd)(S:aV N ps (aL st))(len:∀vs H Q E,sp vs H Q E->vs.length=ps.length)
 (hbody:∀(cdv:Value)(A:G0)(outer:bg)(s:B0)(H:Hp)(vs:a9)(Q:VK)(E:XK),Room k (A.deeper (envOfC qual (aL st) s.heap.objs.size f cdv))->sp vs H Q E->
  ∃t,PSs (kQ kS P w K mg base N qual (aL st) f cdv A outer s H E).nox (cP st) t/\t {nx:=λ_ H'=>Q .non H',rt:=Q} (start N vs) H):FnOk P w K mg base kS (k+1) f fd ps sp:=by
 obtain⟨oc,od,kV,doc,pm,an,cdv,ct,osl,rfl,lk,hcd⟩:=F.ex;refine dn8 lk hcd S len λA outer s H vs Q E hr hsp=>?_;obtain⟨t,h,q⟩:=hbody cdv A outer s H vs Q E hr hsp;exact⟨t,h.nox,q⟩
def Fun.binds{x qual:Str}{st:Stmt}{f:Addr}{fd:FuncData}{ps:am}(F:Fun K x qual st f fd)
 (h:∀(kV doc pm:Value)(an:bb)(cdv ct:Value)(us:aq),us.length=ps.length->bindArgs (PySem.W.fnOf x qual (jB st) (cP st) (aL st) .none kV doc pm an cdv ct) ⟨us,[]⟩=pure (ps.zip us)):Binds K fd ps []:=by
 obtain⟨oc,od,kV,doc,pm,an,cdv,ct,osl,rfl,lk,hcd⟩:=F.ex;exact .all (h kV doc pm an cdv ct)
def ab5{x qual:Str}{st:Stmt}{f:Addr}{oc:Value}{od an:bb}{osl:bp}{kV doc pm cdv ct:Value}(l:K.lookup f=some ⟨oc,od,.func (PySem.W.fnOf x qual (jB st) (cP st) (aL st) .none kV doc pm an cdv ct),osl⟩)
 (c:PySem.W.codeIn K cdv qual=true)(k:PySem.W.keepIn K (.ref f)=true):Fun K x qual st f (PySem.W.fnOf x qual (jB st) (cP st) (aL st) .none kV doc pm an cdv ct):=⟨⟨oc,od,kV,doc,pm,an,cdv,ct,osl,rfl,l,c⟩,k⟩
end
section
variable{X:Cx}
def pv(i:Nat)(hN:autoParam (X.N[i]?=some x) Z8)(hv:Vis X.env.scope x:=by first|exact Or.inl rfl|exact Or.inr (Or.inl rfl)|exact Or.inr (Or.inr rfl))(hd:autoParam ((x==("__debug__":Str))=false) Z6)
 (hcd:autoParam ((x==("__classdict__":Str))=false) Z6):PE X (.Name x pos) (ad5 i):=eo6 hN hv hd hcd
end
def Same(H H':Hp):Prop:=∀b o,H b=some o->H' b=some o
def Same.refl(H:Hp):Same H H:=λ_ _ h=>h
def Same.trans(a:Same H H1)(b:Same H1 H2):Same H H2:=λc o h=>b c o (a c o h)
theorem Same.free(e:Same H H')(h:H' l=Option.none):H l=Option.none:=by
 cases q:H l with
 |none=>rfl
 |some o=>rw[e l o q]at h;cases h
def Same.seq{K:A1}{H H':Hp}{a:Addr}{xs:a9}(e:Same H H')(h:SqL K H a xs):SqL K H' a xs:=by
 rcases h with(h|⟨o,h⟩)|h
 . exact .inl (.inl (e _ _ h))
 . exact .inl (.inr ⟨o,e _ _ h⟩)
 . exact .inr h
def el7:R2:=λx y H Q=>∃i j,x=.int i/\y=.int j/\IntMulOk i j/\Q (.int (i*j)) H
section
variable{X:Cx}
def op_mulB:OpR X (binaryOp .Mult) el7:=by intro ζ s O H x y v u Q I rx ry h;refine z23 h λi j zz zy hc q=>?_;clear h;subst zz zy;obtain⟨t,rfl⟩:=rx;obtain⟨t',rfl⟩:=ry;exact mul_int ⟨.int (i*j),H,I.tok _,⟨_,rfl⟩,q⟩ hc
def TyN(K:A1)(H:Hp)(x:V)(tx:String):Prop:=match x with
 |.int _=>tx="int"
 |.bl _=>tx="bool"
 |.str _=>tx="str"
 |.ref p=>(tx="list"/\∃xs,SqL K H p xs)\/(tx="tuple"/\∃xs,SqT K H p xs)
 |_=>False
inductive iQ:String->String->Bool->Prop where
 |int_int:iQ "int" "int" true
 |int_bool:iQ "int" "bool" false
 |int_str:iQ "int" "str" false
 |int_list:iQ "int" "list" false
 |int_tuple:iQ "int" "tuple" false
 |bool_int:iQ "bool" "int" true
 |bool_bool:iQ "bool" "bool" true
 |bool_str:iQ "bool" "str" false
 |bool_list:iQ "bool" "list" false
 |bool_tuple:iQ "bool" "tuple" false
 |str_int:iQ "str" "int" false
 |str_bool:iQ "str" "bool" false
 |str_str:iQ "str" "str" true
 |str_list:iQ "str" "list" false
 |str_tuple:iQ "str" "tuple" false
 |list_int:iQ "list" "int" false
 |list_bool:iQ "list" "bool" false
 |list_str:iQ "list" "str" false
 |list_list:iQ "list" "list" true
 |list_tuple:iQ "list" "tuple" false
 |tuple_int:iQ "tuple" "int" false
 |tuple_bool:iQ "tuple" "bool" false
 |tuple_str:iQ "tuple" "str" false
 |tuple_list:iQ "tuple" "list" false
 |tuple_tuple:iQ "tuple" "tuple" true
theorem dv3:CallR X (.builtin "isinstance") (λxs H Q=>∃x T tx b,xs=[x,.ty T]/\TyN X.K H x tx/\iQ tx T b/\Q (.bl b) H):=by
 intro ζ s O H xs us Q I r h;refine z43 h λx T tx b zz ht ho q=>?_;clear h;subst zz;refine z22 r.two λu v zz rx rT=>?_;subst zz;obtain rfl:v=Value.type T:=rT;have fin1:EP X ζ O Q (.bool b) s:=⟨.bl b,H,I,rfl,q⟩;have fin2:EP X ζ O Q (.bool b) {s with toks:=s.toks+1}:=⟨.bl b,H,I.tok _,rfl,q⟩;cases x with
 |int i=>obtain⟨t,rfl⟩:=rx;have ht:tx="int":=ht;cases ho<;>first|exact D8 ht X9|exact IsiPair.int_int fin1|exact IsiPair.int_bool fin2|exact IsiPair.int_str fin2|exact IsiPair.int_list fin2|exact IsiPair.int_tuple fin2
 |bl i=>cases rx;have ht:tx="bool":=ht;cases ho<;>first|exact D8 ht X9|exact IsiPair.bool_int fin1|exact IsiPair.bool_bool fin1|exact IsiPair.bool_str fin2|exact IsiPair.bool_list fin2|exact IsiPair.bool_tuple fin2
 |str i=>obtain⟨t,rfl⟩:=rx;have ht:tx="str":=ht;cases ho<;>first|exact D8 ht X9|exact IsiPair.str_int fin2|exact IsiPair.str_bool fin2|exact IsiPair.str_str fin1|exact IsiPair.str_list fin2|exact IsiPair.str_tuple fin2
 |ref p=>
  cases rx;have ht:(tx="list"/\∃xs,SqL X.K H p xs)\/(tx="tuple"/\∃xs,SqT X.K H p xs):=ht;rcases ht with⟨ht,ys,hq⟩|⟨ht,ys,hq⟩
  . obtain⟨its,rv,⟨o,n,e,c,d,dt⟩,hz⟩:=I.list hq;cases ho<;>first|exact D8 ht X9|exact IsiPair.list_int e c fin2|exact IsiPair.list_bool e c fin2|exact IsiPair.list_str e c fin2|exact IsiPair.list_list e c fin1|exact IsiPair.list_tuple e c fin2
  . obtain⟨its,rv,⟨o,e,c,n,d⟩,hz⟩:=I.tuple hq;cases ho<;>first|exact D8 ht X9|exact IsiPair.tuple_int e c fin2|exact IsiPair.tuple_bool e c fin2|exact IsiPair.tuple_str e c fin2|exact IsiPair.tuple_list e c fin2|exact IsiPair.tuple_tuple e c fin1
 |_=>exact(show False from ht).elim
theorem ad0:∀{bs:br}{us:aq}{i:Nat}{u:Value},Vals (bs.map V.bl) us->us[i]?=some u->∃b,bs[i]?=some b/\u=.bool b
 |[],_,_,_,.nil,e=>by simp at e
 |b::bs,_,0,_,.cons r _,e=>by simp at e;subst e;exact⟨b,rfl,r⟩
 |b::bs,_,i+1,_,.cons _ t,e=>by obtain⟨c,h1,h2⟩:=ad0 (i:=i) t (by simpa using e);exact⟨c,by simpa using h1,h2⟩
def dr1(bs:br):((List.range bs.length).all λi=>(bs[i]?).getD true)=bs.all id:=by
 rw[N6,J6,J6];constructor
 . intro h b hb;obtain⟨i,hi,e⟩:=U3.mp hb;have q:=h i (G6.mpr hi);rw[A2 hi,e]at q;exact q
 . intro h i hi;have hi':=G6.mp hi;rw[A2 hi'];exact h _ (L8 hi')
def df1(bs:br):((List.range bs.length).any λi=>(bs[i]?).getD true)=bs.any id:=by
 rw[N6,O5,O5];constructor
 . rintro⟨i,hi,q⟩;have hi':=G6.mp hi;rw[A2 hi']at q;exact⟨_,L8 hi',q⟩
 . rintro⟨b,hb,q⟩;obtain⟨i,hi,e⟩:=U3.mp hb;refine⟨i,G6.mpr hi,?_⟩;rw[A2 hi,e];exact q
def aa5{s:B0}{h':Heap}{o:Obj}(hk:∀b x,b∉[s.heap.objs.size]->(s.heap.push o).get? b=some x->h'.get? b=some x):∀b x,s.heap.get? b=some x->h'.get? b=some x:=
 λb x e=>hk b x (λhm=>by rw[C3.mp hm]at e;exact N3 _ (D0 e)) (A7 _ e)
def dm3(hc:X.calm=true):CallR X (.builtin "all") (λxs H Q=>∃(p:Addr)(bs:br),xs=[.ref p]/\SqL X.K H p (bs.map V.bl)/\Q (.bl (bs.all id)) H):=by
 intro ζ s O H xs us Q I r h;refine z22 h λp bs zz hq q=>?_;clear h;subst zz;obtain⟨u,rfl,r1⟩:=r.one;obtain rfl:u=Value.ref p:=r1;refine z12 (I.list hq) λits rv pl hz=>?_;have hl:=pl.isList;have hlen:bs.length=its.length:=by have:=rv.length;rwa[B7]at this
 have hlt:p<s.heap.objs.size:=by refine z21 pl λ_ _ e _=>?_;exact D0 e
 refine call_all_walk (U2 hl ?_);refine⟨s.heap.objs.size,[s.heap.objs.size,p],[s.heap.objs.size],its.toArray.size,_,_,λi=>(bs[i]?).getD true,rfl,Walks.list (A:=X.A.in1) (I.ok.hd hc) _ p (F8 hlt) its.toArray,
  ⟨⟨_,D5 _ rfl,rfl,rfl⟩,hl.push _⟩,λi v s' Q' E' hP hQ=>?_,λh' tk hk=>?_⟩
 . obtain⟨b,e,rfl⟩:=ad0 rv (i:=i) (u:=v) (by simpa using hP);simp only[e,Option.getD_some]at hQ;exact K9 hQ
 . have e:((List.range its.toArray.size).all λi=>(bs[i]?).getD true)=bs.all id:=by rw[A8,<-hlen];exact dr1 bs
   rw[e];exact⟨.bl _,H,I.kept (aa5 hk),rfl,q⟩
def dg3(hc:X.calm=true):CallR X (.builtin "any") (λxs H Q=>∃(p:Addr)(bs:br),xs=[.ref p]/\SqL X.K H p (bs.map V.bl)/\Q (.bl (bs.any id)) H):=by
 intro ζ s O H xs us Q I r h;refine z22 h λp bs zz hq q=>?_;clear h;subst zz;obtain⟨u,rfl,r1⟩:=r.one;obtain rfl:u=Value.ref p:=r1;refine z12 (I.list hq) λits rv pl hz=>?_;have hl:=pl.isList;have hlen:bs.length=its.length:=by have:=rv.length;rwa[B7]at this
 have hlt:p<s.heap.objs.size:=by refine z21 pl λ_ _ e _=>?_;exact D0 e
 refine call_any_walk (U2 hl ?_);refine⟨s.heap.objs.size,[s.heap.objs.size,p],[s.heap.objs.size],its.toArray.size,_,_,λi=>(bs[i]?).getD true,rfl,Walks.list (A:=X.A.in1) (I.ok.hd hc) _ p (F8 hlt) its.toArray,
  ⟨⟨_,D5 _ rfl,rfl,rfl⟩,hl.push _⟩,λi v s' Q' E' hP hQ=>?_,λh' tk hk=>?_⟩
 . obtain⟨b,e,rfl⟩:=ad0 rv (i:=i) (u:=v) (by simpa using hP);simp only[e,Option.getD_some]at hQ;exact K9 hQ
 . have e:((List.range its.toArray.size).any λi=>(bs[i]?).getD true)=bs.any id:=by rw[A8,<-hlen];exact df1 bs
   rw[e];exact⟨.bl _,H,I.kept (aa5 hk),rfl,q⟩
end
structure dY (P:E2) (w:World) (K:A1) (mg:aa) (base:Heap) (k:Nat) (x:Str) (ps:am) (sp:Sp):Prop where
 ex:∃f fd,FnOk P w K mg base kS k f fd ps sp/\mg x=some (.ref f)/\PySem.W.keepIn K (.ref f)=true/\Binds K fd ps []
def cc7(sp:Sp)(t:TA):TE:=λO H Q=>t O H λvs H1=>sp vs H1 Q E0
section
variable{X:Cx}
def es8(d:dY X.prog X.w X.K X.mg X.base k x ps sp)(hr:Room k X.A)(ha:PA X (e::es) t)(hg:autoParam (Gl X x) Z8)
 (hdb:autoParam ((x==("__debug__":Str))=false) Z6)(he:autoParam (starEach (e::es) X.env=(false,eval e X.env)::starEach es X.env) Z8)(hpl:autoParam ((backTo pos (starEach es X.env)).any (·.1)=false) Z8):
 PE X (.Call (.Name x p) (e::es) [] pos) (cc7 sp t):=by
 refine z23 d.ex λf fd F hm hk hb=>?_;intro ζ s O H Q I h;have e1:(λvs H1=>sp (vs++[]) H1 Q E0)=λvs H1=>sp vs H1 Q E0:=by funext vs H1;rw[K0]
 refine ce4 F hr hg hm hk hb .nil ax9 ha hdb he hpl s O H Q I ?_;show t O H λvs H1=>sp (vs++[]) H1 Q E0;rw[e1];exact h
end
end L2
namespace Att
open PySem PySem.W PySem.Calls PyProof.Rows
theorem weight_mem:∀(ns:ah)(n:Int),n∈ns->WData.weight (.int n)<=WData.weightAll (ns.map WData.int)
 |m::ns,n,h=>by
  rw[B9];simp only[WData.weightAll];rcases B6.mp h with rfl|h
  . omega
  . have:=weight_mem ns n h;omega
def bits_of{ns:ah}(h:WData.layableAll [.list (ns.map WData.int)]=true):∀n∈ns,Builtin.Int.intBits n<=1048576:=by
 intro n hn;have h1:WData.layable (.list (ns.map WData.int))=true:=by have h2:([WData.list (ns.map WData.int)].all WData.layable)=true:=h;rw[W0,E4]at h2;exact h2.1
 unfold WData.layable at h1;rw[E4]at h1;have h3:=of_decide_eq_true h1.2;have h4:=weight_mem ns n hn;have h5:WData.weight (.int n)=Builtin.Int.intBits n:=by unfold WData.weight Builtin.Int.intBits;rfl
 have h6:WData.weight (.list (ns.map WData.int))=WData.weightAll (ns.map WData.int):=by
  conv=>lhs;unfold WData.weight
 rw[h6]at h3;rw[h5]at h4;have h7:(2:Nat)^20=1048576:=Y2
 omega
def attach_callB{l:OpenLaw}{n:Nat}{q:E2}{loose:am}{XP:(Str->Option Value)->Heap->Prop}{YP:World->Heap->Prop}{d:DefRec}
 (hn:l.most=some n)(hdf:d.params.defaults=[])
 (call:∀(w:World)(s₀ s₁:B0)(mg mb:aa)(fa:Addr)(o:Obj)(pm cd doc:Value)(a:Addr)(vs:aq)(ns:ah),
  Ground q loose [] XP w s₀ mg mb s₁.heap->YP w s₁.heap->
  s₁.heap.get? fa=some o->o.data=.func (docDef d.name d.params d.body d.scope pm cd doc)->s₁.heap.CodeRec cd d.name->mg d.name=some (.ref fa)->
  s₁.heap.get? a=some {cls:=.type "list",data:=.seq vs.toArray}->IntsAre vs ns->ns.length<=n->s₁.gens=#[]->(∀n∈ns,Builtin.Int.intBits n<=1048576)->
  codeAny (model l.prog w) callerA (.call (.ref fa) ⟨[.ref a],[]⟩) (λr s'=>r=.ok (.ret (.bool true))/\OldK s₁.heap s'.heap/\s'.os=s₁.os/\AllBare s'.gens) s₁):
 WalkO q loose XP YP l.row.toRowW d [] (λf vs=>PySem.call f vs):=by
 intro w s₀ s₁ mg mb G Y fa o pm cd doc dV kV ho hd hcd hD hmg hg args vals as hpre hlay hrd hwl hlo;obtain rfl:dV=.none:=Dflts.none hD hdf;obtain rfl:kV=.none:=Dflts.noKw hD;refine z34 (script_of hn hpre hwl) λa vs ns zz zy hobj hints hlen=>?_;subst zz zy;refine enter_call (R3 (call w s₀ s₁ mg mb fa o pm cd doc a vs ns G Y ho (fd_plain hd) hcd hmg hobj hints hlen hg (bits_of hlay)) λr s' hq=>?_);refine z03 hq λzz h2 h3 h4=>?_;clear hq;subst zz;exact⟨.inl ⟨.bool true,.bool true,[],rfl,λ_=>rfl,.bool true,post_true l _,λ_=>⟨List.Pairwise.nil,λ_ hm=>(nomatch hm)⟩⟩,h2,h3,h4⟩
end Att
namespace L2
def SqS(K:A1)(H:Hp)(a:Addr)(xs:a9):Prop:=
 Rd H a (.lst xs)\/
  ∃(o:Obj)(its:bx)(n:Nat),K.lookup a=some o/\o.cls=.type "list"/\o.dict=none/\o.slots=#[]/\o.data=.seq its n/\its.size<=sizeLine/\Vals xs its.toList
def SqS.sq{K:A1}{H:Hp}{a:Addr}{xs:a9}(h:SqS K H a xs):SqL K H a xs:=by
 rcases h with h|⟨o,its,n,h1,h2,h3,_,h5,h6,h7⟩
 . exact .inl h
 . exact .inr ⟨o,its,n,h1,h2,h3,h5,h6,h7⟩
def Inv.listS(I:Inv X ζ O H s)(h:SqS X.K H a xs):∃(its:aq)(n:Nat),Vals xs its/\s.heap.get? a=some {cls:=.type "list",data:=.seq its.toArray n}/\xs.length<=sizeLine:=by
 rcases h with h|⟨o,its,n,hk,hc,hd,hsl,hs,hz,r⟩
 . obtain⟨z,its,n,r,e⟩:=h.ok I.hok;exact⟨its,n,r,e,z⟩
 . have e:=I.kIn a o hk;obtain⟨cls,dict,data,slots⟩:=o;simp only at hc hd hsl hs;subst hc hd hsl hs;refine⟨its.toList,n,r,by simpa using e,?_⟩;have:=r.length;simp only[Array.length_toList]at this;omega
def bw7(K:A1):Sp:=λvs H Q _=>∃(a:Addr)(ns:ah),vs=[.ref a]/\SqS K H a (ns.map V.int)/\ns.length<=63/\(∀n∈ns,Builtin.Int.intBits n<=1048576)/\∀H',Q (.bl true) H'
def dw5{l:PySem.W.OpenLaw}{k:Nat}{q:E2}{loose:am}{XP:(Str->Option Value)->Heap->Prop}{YP:World->Heap->Prop}{d:DefRec}{K:Params->A1}{x:Str}
 (hn:l.most=some 63)(hdf:d.params.defaults=[])(hr:Room k callerA)
 (hY:∀(w:World)(h:Heap),YP w h->(K w.params).In h)
 (F:∀(w:World)(mg:aa)(fa:Addr)(h:Heap),(K w.params).In h->h.Ns mainGlobals mg->mg d.name=some (.ref fa)->
  ∃fd:FuncData,(∀(s:B0)(u:Value),BindsTo s fd ⟨[u],[]⟩ [(x,u)])/\
   ∀base:Heap,(K w.params).In base->base.Ns mainGlobals mg->FnOk l.prog w (K w.params) mg base kS k fa fd [x] (bw7 (K w.params))):
 PySem.W.WalkO q loose XP YP l.row.toRowW d [] (λf vs=>PySem.call f vs):=by
 refine Att.attach_callB hn hdf λw s₀ s₁ mg mb fa o pm cd doc a vs ns G Y ho hd hcd hmg hobj hints hlen hg hbits=>?_;have KX:=hY w _ Y;obtain⟨fd,hb,hF⟩:=F w mg fa _ KX G.T.g hmg;have hS':∀{H:Hp},SqL (K w.params) H a (ns.map V.int)->SqS (K w.params) H a (ns.map V.int):=λ{H} h=>by
  rcases h with h|⟨o,its,n,h1,h2,h3,h5,h6,h7⟩
  . exact .inl h
  . have e:=KX a o h1;rw[hobj]at e;cases e;exact .inr ⟨_,its,n,h1,h2,h3,rfl,h5,h6,h7⟩
 exact dq5 KX G.T.g G.T.b G.T.builtins G.T.nolimit hg hobj hints (J2 hlen Y2) hr hF hb (λH hO hS=>⟨a,ns,rfl,hS' hS,hlen,hbits,λ_=>rfl⟩) λH e s' h=>h
noncomputable abbrev oK(X:Cx)(scope:Scope)(cl:b7)(C:Addr)(s₀:B0)(H₀:Hp)(ex:ao):Cx:=
 {X with s₀:=s₀,H₀:=H₀,env:=compEnvC scope cl C X.env,outer:=X.stack,ex:=ex,fn:=λ_=>false,pn:=[],xe:=λ_ _=>False}
noncomputable def iG(cells:b7):List (Str×NameKind)->List (Str×Addr)->List (Str×Addr)
 |[],acc=>acc
 |(n,k)::r,acc=>if(k==.free)=true then iG cells r ((n,(cells.lookup n).getD 0)::acc)else iG cells r acc
theorem ad2:∀(names:bw)(acc:b7),(∀x∈names,x.2=.free->∃c,env.cells.lookup x.1=some c)->
 (forIn names acc λ(x:Str×NameKind)(cs:b7)=>(if(x.2==.free)=true then(do let c<-cellOf env x.1;pure (ForInStep.yield ((x.1,c)::cs)))else pure (ForInStep.yield cs):Sem (ForInStep (List (Str×Addr)))))=(pure (iG env.cells names acc):Sem (List (Str×Addr)))
 |[],acc,_=>rfl
 |(n,k)::r,acc,h=>by
  rw[X7];have hr:∀x∈r,x.2=.free->∃c,env.cells.lookup x.1=some c:=λx hx=>h x (A5 _ hx);by_cases hk:(k==NameKind.free)=true
  . obtain⟨c,hc⟩:=h (n,k) A9 (by simpa using hk);have e1:cellOf env n=pure c:=by unfold cellOf;rw[hc]
    simp only[hk,L9,e1,pure_bind];have e2:iG env.cells ((n,k)::r) acc=iG env.cells r ((n,c)::acc):=by
     conv=>lhs;unfold iG
     rw[C7 hk,hc];all_goals rfl
    rw[e2];exact ad2 r _ hr
  . simp only[hk,O2,pure_bind];have e2:iG env.cells ((n,k)::r) acc=iG env.cells r acc:=by
     conv=>lhs;unfold iG
     rw[D3 hk]
    rw[e2];exact ad2 r _ hr
def ap2 (h : ∀ x ∈ scope.names, x.2 = .free → ∃ c, env.cells.lookup x.1 = some c) : closureFor scope env = pure (iG env.cells scope.names []) := by
  have q := ad2 (env := env) scope.names [] h
  unfold closureFor
  have e : (forIn scope.names ([] : List (Str × Addr)) fun (x : Str × NameKind) (r : List (Str × Addr)) =>
      (match x with
      | (name, kind) => if (kind == NameKind.free) = true then (do let c ← cellOf env name; pure (ForInStep.yield ((name, c) :: r))) else pure (ForInStep.yield r) : Sem (ForInStep (List (Str × Addr))))) = pure (iG env.cells scope.names []) := q
  first
    | (show (do let r ← (forIn scope.names ([] : List (Str × Addr)) _); pure r) = _; erw [e]; rfl)
    | (simp only [bind_pure]; exact e)
    | exact e
theorem xS:∀(names:bw)(acc:b7),(∀x∈names,x.2=.free->∃c,cells.lookup x.1=some c)->(∀y c,acc.lookup y=some c->cells.lookup y=some c)->
 ∀y c,(iG cells names acc).lookup y=some c->cells.lookup y=some c
 |[],_,_,ha=>ha
 |(n,k)::r,acc,h,ha=>by
  have hr:∀x∈r,x.2=.free->∃c,cells.lookup x.1=some c:=λx hx=>h x (A5 _ hx);unfold iG;by_cases hk:(k==NameKind.free)=true
  . rw[C7 hk];obtain⟨c,hc⟩:=h (n,k) A9 (by simpa using hk);refine xS r _ hr λy d e=>?_;rw[G1]at e;cases q:y==n with
    |true=>
     rw[q]at e;have e':(cells.lookup n).getD 0=d:=E9 e;have yn:y=n:=by simpa using q
     subst yn;have hc':cells.lookup y=some c:=hc;rw[hc']at e'⊢;exact N4 some e'
    |false=>rw[q]at e;exact ha y d e
  . rw[D3 hk];exact xS r acc hr ha
theorem yO:∀(names:bw)(acc:b7)(y:Str),(∃c,acc.lookup y=some c)->∃c,(iG cells names acc).lookup y=some c
 |[],_,_,h=>h
 |(n,k)::r,acc,y,h=>by
  unfold iG;split
  . refine yO r _ y ?_;rw[G1];cases q:y==n with
    |true=>exact⟨_,rfl⟩
    |false=>exact h
  . exact yO r acc y h
theorem xF:∀(names:bw)(acc:b7)(y:Str),(y,NameKind.free)∈names->∃c,(iG cells names acc).lookup y=some c
 |(n,k)::r,acc,y,h=>by
  unfold iG;rcases B6.mp h with e|h
  . have e1:y=n:=N4 Prod.fst e;have e2:NameKind.free=k:=N4 Prod.snd e;subst e1;subst e2;rw[C7 (by rfl)];refine yO r _ y ?_;rw[G1,M4];exact⟨_,rfl⟩
  . split
    . exact xF r _ y h
    . exact xF r _ y h
theorem av0{env:Env}{x:Str}:∀(names:bw),
 (names.map λ(n,k)=>if(k==NameKind.free&&env.scope.kind==.function&&env.kindOf n==some .cell)then(n,NameKind.cell)else(n,k)).lookup x
  =(names.lookup x).map λk=>if(k==NameKind.free&&env.scope.kind==.function&&env.kindOf x==some .cell)=true then NameKind.cell else k
 |[]=>rfl
 |(n,k)::r=>by
  have ih:=av0 (env:=env) (x:=x) r;show List.lookup x ((if(k==NameKind.free&&env.scope.kind==.function&&env.kindOf n==some .cell)=true then(n,NameKind.cell)else(n,k))::_)=_;rw[G1 (a:=x) (as:=r)];cases hx:x==n with
  |true=>
   have e:x=n:=by simpa using hx
   subst e;by_cases hc:(k==NameKind.free&&env.scope.kind==.function&&env.kindOf x==some .cell)=true
   . rw[C7 hc,G1,M4];show some NameKind.cell=some (if _ then _ else _);rw[C7 hc]
   . rw[D3 hc,G1,M4];show some k=some (if _ then _ else _);rw[D3 hc]
  |false=>
   by_cases hc:(k==NameKind.free&&env.scope.kind==.function&&env.kindOf n==some .cell)=true
   . rw[C7 hc,G1,hx];exact ih
   . rw[D3 hc,G1,hx];exact ih
theorem am6:∀{names:bw},names.lookup x=some k->(x,k)∈names
 |(n,k')::r,h=>by
  rw[G1]at h;cases hx:x==n with
  |true=>
   rw[hx]at h;have e:x=n:=by simpa using hx
   subst e;cases h;exact A9
  |false=>rw[hx]at h;exact A5 _ (am6 h)
structure CScope (X:Cx) (ks:ax) (scope:Scope):Prop where
 kind:scope.kind=.function
 cell:∀y∈scope.names,y.2≠ .cell
 names:∀y∈scope.names,y.2=.local->scope.names.lookup y.1=some .local
 freeB:(scope.names.all λy=>!(y.2==NameKind.free)||(X.env.kindOf y.1==some NameKind.cell||X.env.kindOf y.1==some NameKind.free))=true
 slotsB:(X.N.zipIdx.all λp=>!(scope.names.lookup p.1==some NameKind.local)||ks.contains p.2)=true
theorem CScope.free(S:CScope X ks scope):∀y∈scope.names,y.2=.free->X.env.kindOf y.1=some .cell\/X.env.kindOf y.1=some .free:=λy hy hk=>by have h:=J6.mp S.freeB y hy;rw[hk]at h;simpa using h
def CScope.slots(S:CScope X ks scope):∀p∈X.N.zipIdx,scope.names.lookup p.1=some .local->p.2∈ks:=λp hp hk=>by have h:=J6.mp S.slotsB p hp;rw[hk]at h;simpa using h
noncomputable def clr:List Nat->St->St
 |[],O=>O
 |k::ks,O=>clr ks (O.set k none)
theorem tQ:∀(ks:ax)(O:St),(clr ks O).length=O.length
 |[],_=>rfl
 |k::ks,O=>by show(clr ks (O.set k none)).length=_;rw[tQ ks,N0]
theorem bd3:∀(ks:ax)(O:St){i:Nat}{v:V},(clr ks O)[i]?=some (some v)->O[i]?=some (some v)/\i∉ks
 |[],_,_,_,h=>⟨h,G9⟩
 |k::ks,O,i,v,h=>by
  obtain⟨h1,h2⟩:=bd3 ks (O.set k none) h;by_cases e:i=k
  . subst e;rw[List.getElem?_set_self']at h1;cases q:O[i]? with
    |_=>rw[q]at h1;cases h1
  . rw[G7 (N8 e)]at h1;exact⟨h1,λz=>(B6.mp z).elim e h2⟩
def PIf(Y:Cx)(ifs:bj)(t:TT):Prop:=
 ∀⦃ζ:ad⦄ (s:B0)(O:St)(H:Hp)(Q:b8),Inv Y ζ O H s->t O H Q->
  wpAny (model Y.prog Y.w) Y.A (forIn ifs true λc r=>if r=true then do let ok<-isTrue c Y.env (eval c Y.env);pure (ForInStep.yield ok)else pure (ForInStep.yield r)) (TP Y ζ O Q) Y.xe s
def er5:TT:=λ_ H Q=>Q true H
def dM:PIf Y [] er5:=λ_ _ _ H _ I h=>wpAny_tests_nil ⟨H,I,h⟩
def ce5(h:PT Y c t):PIf Y [c] t:=λζ s O H Q I q=>wpAny_tests_one (h s O H Q I q)
theorem cm9(I:Nat->B0->Prop)
 (turn:∀n s,I n s->wpAny (model prog w) A (pyNext it) (λr s₁=>match r with
  |none=>R (.ok .next) s₁
  |some v=>wpAny (model prog w) A (letOwnedTupleGo target it v) (λ_ s₁'=>wpAny (model prog w) A (assign target env v) (λ_ s₂=>
   wpAny (model prog w) A (forIn ifs true λc r=>if r=true then do let ok<-isTrue c env (eval c env);pure (ForInStep.yield ok)else pure (ForInStep.yield r)) (λok s₃=>
    if ok=true then wpAny (model prog w) A (eval elt env) (λx s₄=>
     wpAny (model prog w) A (call (.builtin "list.append") [acc,x]) (λ_ s₅=>∃m,m<n/\I m s₅) (λ_ _=>False) s₄) (λ_ _=>False) s₃
    else∃m,m<n/\I m s₃) (λ_ _=>False) s₂) (λ_ _=>False) s₁') (λ_ _=>False) s₁) (λ_ _=>False) s)
 (n:Nat)(h:I n s):
 codeAny (model prog w) A (.compLoop (.ListComp elt [⟨target,iter,ifs,0⟩] scope pos) 0 it acc env) R s:=by
 refine codeAny_loop rfl I (λn s hI=>?_) n h;show wpAny _ A ((compTurn (.ListComp elt [⟨target,iter,ifs,0⟩] scope pos) 0 it acc env).onRaise (λx=>do noteFrame x env;theTreesLotGoes x)) _ _ s;refine wpAny_noted ?_;rw[compTurn_list];refine A3 (X0 (A3 (J1 (turn n s hI) (λr s₁ h₁=>?_) λ_ _ h'=>h'.elim)));cases r with
 |none=>exact C5 h₁
 |some v=>
  refine A3 (J1 h₁ (λ_ s₁' h₁'=>?_) λ_ _ h'=>h'.elim);refine A3 (J1 h₁' (λ_ s₂ h₂=>A3 (J1 h₂ (λok s₃ h₃=>?_) λ_ _ h'=>h'.elim)) λ_ _ h'=>h'.elim);cases ok with
  |false=>exact C5 ⟨rfl,h₃⟩
  |true=>exact A3 (A3 (J1 h₃ (λx s₄ h₄=>A3 (J1 h₄ (λ_ s₅ h₅=>C5 (C5 ⟨rfl,h₅⟩)) λ_ _ h'=>h'.elim)) λ_ _ h'=>h'.elim))
def Inv.track(I:Inv X ζ O H s)(hn:H D=none)(hl:X.s₀.heap.objs.size<=D)(hL:D≠X.env.locals)
 (hc:∀x c,X.env.cells.lookup x=some c->c≠D)(hp:∀p∈X.pn++ζ,p.1≠D)(e:s.heap.get? D=some {cls:=.type "list",data:=.seq its.toArray n})(rv:Vals ys its)(hz:ys.length<=sizeLine):
 Inv X ζ O (upd H D (.lst ys)) s:=by
 have old:∀b o,X.s₀.heap.get? b=some o->b≠D:=λb o q z=>by subst z;exact D8 (E5 (D0 q) hl) (N3 _)
 have ne:∀b o,H b=some o->b≠D:=λb o q=>hU q hn;refine⟨I.ok,I.os,I.bare,⟨I.base.keep,I.base.slot,λb o q n' hx=>?_,I.base.there,λb xs q=>?_,λb o u q=>?_,λb ps q=>?_⟩,I.loc,I.cell,?_,λx c q=>?_,λp q=>?_,λb u q=>?_,I.len⟩
 . rw[cE (old b o q)];exact I.base.free b o q n' hx
 . have z:=I.base.tups b xs q;rw[cE (ne _ _ z)];exact z
 . have z:=I.base.frzs b o u q;rw[cE (ne _ _ z)];exact z
 . obtain⟨more,z⟩:=I.base.tbls b ps q;exact⟨more,by rw[cE (ne _ _ z)];exact z⟩
 . rw[cE (N8 hL)];exact I.free
 . rw[cE (hc x c q)];exact I.freeC x c q
 . obtain⟨h1,h2,h3⟩:=I.pin p q;exact⟨h1,by rw[cE (hp p q)];exact h2,h3⟩
 . by_cases hb:b=D
   . subst hb;rw[fR]at q;cases q;exact⟨hz,its,n,rv,e⟩
   . rw[cE hb]at q;exact(I.hok b u q).stay (λc v _ z=>z) (λc z=>by rw[cE (ne _ _ z)];exact z) λc xs z=>by rw[cE (ne _ _ z)];exact z
def Ext(ks:ax)(O σ2:St):Prop:=σ2.length=O.length/\∀(i:Nat)(v:V),(clr ks O)[i]?=some (some v)->σ2[i]?=some (some v)
def CGo(ks:ax)(g:TG)(tc:TT)(te:TE)(O:St)(F:Addr->Hp->Prop)(J:It)(H1:Hp):Prop:=
 ∃W:Nat->Nat->List V->Hp->Prop,(∃m,W 0 m [] H1)/\∀i m ys H,W i m ys H->
  (J.stop i H/\∀D,H D=none->F D (upd H D (.lst ys)))\/
  (J.go i H/\ys.length<sizeLine/\∃N:List V->Hp->Prop,(∀ys' H',N ys' H'->∃m',m'<m/\W (i+1) m' ys' H')/\∀x H',J.yld i H x H'->g x (clr ks O) H' λσ2 H2=>Ext ks O σ2/\tc σ2 H2 λb H3=>
   if b=true then te σ2 H3 λv H4=>N (ys++[v]) H4 else N ys H3)
def cn7(ks:ax)(wi:TI)(g:TG)(tc:TT)(te:TE):TE:=λO H Q=>wi O H (CGo ks g tc te O λD H'=>Q (.ref D) H')
def ab8(k:Nat)(ks:ax)(wi:TI)(g:TG)(tc:TT)(te:TE):TS:=λD O H=>wi O H (CGo ks g tc te O λa H'=>D.nx (O.set k (some (.ref a))) H')
section
variable{X:Cx}
def cc5{tg iter elt:Expr}{ifs:bj}{scope:Scope}{pos:Pos}{ks:ax}{g:TG}{tc:TT}{te:TE}{F:Addr->Hp->Prop}{RR:Value->Addr->Result->B0->Prop}{E:ag}
 {ζ:ad}{O:St}{s2:B0}{itv:Value}(S:CScope X ks scope)(hc:X.calm=true)
 (hg:∀cl C s₀ H₀ ex,PG (oK X scope cl C s₀ H₀ ex) tg g)(hi:∀cl C s₀ H₀ ex,PIf (oK X scope cl C s₀ H₀ ex) ifs tc)(he:∀cl C s₀ H₀ ex,PE (oK X scope cl C s₀ H₀ ex) elt te)
 (h:PIE X ζ O tg (CGo ks g tc te O F) itv s2)
 (hRR:∀D C s' H',Inv X ζ O H' s'->(∃m,s'.heap.Ns C m)->uU X ζ H' C->F D H'->RR (.ref D) C (.ok .next) s'):
 wpAny (model X.prog X.w) X.A (newList []) (λacc s₃=>wpAny (model X.prog X.w) X.A (newFunctionEnv scope X.env.globals (iG X.env.cells scope.names []) [] X.env.qual none .none (some X.env)) (λcenv s₄=>
  codeAny (model X.prog X.w) X.A (.compStart (.ListComp elt [⟨tg,iter,ifs,0⟩] scope pos) 0 itv acc {cenv with scope:=relabel scope X.env}) (RR acc cenv.locals) s₄) E s₃) E s2:=by
 obtain⟨it,fp,tn,J,H2,rfl,I2,T,st2,f2,W,⟨m0,w0⟩,turn⟩:=h
 refine O1 (wpAny_newFunctionEnv S.cell (by intro y hy;simp at hy) (λh₁ hns₁ hsb₁=>?_) S.kind)
 dsimp only at hns₁ hsb₁⊢
 have hD2:s2.heap.get? s2.heap.objs.size=none:=Heap.get?_none_of_le (D4 _)
 have nD:H2 s2.heap.objs.size=none:=I2.hok.fresh (D4 _)
 have I3:Inv X ζ O H2 {s2 with heap:=s2.heap.push {cls:=.type "list",dict:=none,data:=.seq ([]:List Value).toArray}}:=I2.kept (t':=s2.toks) λb o e=>A7 _ e
 have eD3:(s2.heap.push {cls:=.type "list",dict:=none,data:=.seq ([]:List Value).toArray}).get? s2.heap.objs.size=some {cls:=.type "list",dict:=none,data:=.seq ([]:List Value).toArray}:=D5 _ rfl
 have hsz3:(s2.heap.push {cls:=.type "list",dict:=none,data:=.seq ([]:List Value).toArray}).objs.size=s2.heap.objs.size+1:=N1 _ _
 have fD:=I2.fpOk (b:=s2.heap.objs.size) (D4 _) nD
 have fplt:∀b∈fp,b<s2.heap.objs.size:=λb hb=>by
  obtain⟨o,e,_⟩:=T.obj _ _ st2 b hb
  exact D0 e
 have hDfp:s2.heap.objs.size∉fp:=λz=>N3 _ (fplt _ z)
 generalize hs3:({s2 with heap:=s2.heap.push {cls:=.type "list",dict:=none,data:=.seq ([]:List Value).toArray}}:B0)=s3 at I3
 generalize hDD:s2.heap.objs.size=D at*
 have s3h:s3.heap=s2.heap.push {cls:=.type "list",dict:=none,data:=.seq ([]:List Value).toArray}:=by rw[<-hs3]
 rw[<-s3h]at hns₁ hsb₁ eD3 hsz3
 have fC:=I3.fpOk (H':=H2) (b:=s3.heap.objs.size) (D4 _) (I3.hok.fresh (D4 _))
 have old:∀b o,s3.heap.get? b=some o->h₁.get? b=some o:=λb o e=>hsb₁.extBut b o (F8 (D0 e)) (A7 _ e)
 generalize hCC:s3.heap.objs.size=C at*
 have hDltC:D<C:=by rw[hsz3];exact Q1 _
 have hDC:D≠C:=F8 hDltC
 have hclos:=ap2 (env:=X.env) (scope:=scope) λx hx hk=>I2.ok.has x.1 (S.free x hx hk)
 have csound:∀y c,(iG X.env.cells scope.names []).lookup y=some c->X.env.cells.lookup y=some c:=
  xS scope.names [] (λx hx hk=>I2.ok.has x.1 (S.free x hx hk)) λy c e=>by cases e
 generalize hcl:iG X.env.cells scope.names []=cl at*
 have kin:∀y,(compEnvC scope cl C X.env).kindOf y=(scope.names.lookup y).map λk=>if(k==NameKind.free&&X.env.scope.kind==.function&&X.env.kindOf y==some .cell)=true then NameKind.cell else k:=λy=>av0 scope.names
 have isFree:∀y,((compEnvC scope cl C X.env).kindOf y=some .cell\/(compEnvC scope cl C X.env).kindOf y=some .free)->(y,NameKind.free)∈scope.names:=λy hy=>by
  rw[kin y]at hy
  cases q:scope.names.lookup y with
  |none=>
   rw[q]at hy
   rcases hy with z|z<;>cases z
  |some k=>
   rw[q]at hy
   have hm:=am6 q
   cases k with
   |free=>exact hm
   |cell=>exact D8 rfl (S.cell _ hm)
   |_=>
    rcases hy with z|z
    . exact D8 (E9 z) Y1
    . exact D8 (E9 z) Y1
 have neFs:∀b,uU X ζ H2 b->b∉pT X.stack:=λb f z=>by
  rcases B6.mp (I2.stkSub b z)with e|e
  . exact f.2.1 e
  . exact f.2.2.1 e
 have exs:∀b∈D::fp,uU X ζ H2 b:=λb hb=>by
  rcases B6.mp hb with e|e
  . rw[e];exact fD
  . exact f2 b e
 have exlt:∀b∈D::fp,b<C:=λb hb=>by
  rcases B6.mp hb with e|e
  . rw[e];exact hDltC
  . exact Nat.lt_trans (fplt b e) hDltC
 have okY:(oK X scope cl C s3 H2 (D::fp)).Ok:=
  {
   mod:=I2.ok.mod,kind:=S.kind,glob:=I2.ok.glob,blt:=I2.ok.blt,above:=Nat.le_of_eq hCC
   inj:=λx y c h1 h2=>I2.ok.inj x y c (csound _ _ h1) (csound _ _ h2)
   has:=λy hy=>by
    have z:=xF (cells:=X.env.cells) scope.names [] y (isFree y hy)
    rw[hcl]at z
    exact z
   cab:=λ_ _ z=>by cases z
   hd:=I2.ok.hd,frames:=I2.ok.frames,stk:=.inl rfl
   exf:=λb hb=>⟨F8 (exlt b hb),λx c e z=>(exs b hb).2.2.2.2.1 x c (csound _ _ e) z⟩
   bs:=I3.bs
   bsz:=J2 I2.ok.bsz I3.sz
   noex:=λb o e hb=>by
    rcases(exs b hb).2.2.2.1 with z|z
    . exact I2.ok.noex b o e z
    . exact D8 (E5 (D0 e) (J2 I2.ok.bsz z)) (N3 _)
   exfs:=λb hb=>neFs b (exs b hb)
   funs:=I3.stack
   frf:=I3.stkFree}
 have outP:∀p∈X.pn++ζ,p.1≠C/\p.1∉pT X.stack/\p.1≠D:=λp hp=>by
  refine z04 (I2.pin p hp) λe n ne nf d=>?_
  have lt:p.1<D:=by rw[<-hDD];exact D0 e
  refine⟨F8 (Nat.lt_trans lt hDltC),λz=>?_,F8 lt⟩
  rcases B6.mp (I2.stkSub p.1 z)with q|q
  . exact ne q
  . exact nf q
 have I4:Inv (oK X scope cl C s3 H2 (D::fp)) (X.pn++ζ) (clr ks O) H2 {s3 with heap:=h₁,toks:=s3.toks+([]:List (Str×Value)).length}:=by
  refine⟨okY,rfl,I3.bare,Un.kept old,⟨_,hns₁,λi x v e1 e2 e3=>?_⟩,λx c e=>?_,?_,λx c e=>?_,λp hp=>?_,I3.hok.kept old,?_⟩
  . obtain⟨e2,nk⟩:=bd3 ks O e2
    have hv:(compEnvC scope cl C X.env).kindOf x=some .cell\/(compEnvC scope cl C X.env).kindOf x=some .free:=by
     rcases e3 with z|z|z
     . exfalso
       have z':(compEnvC scope cl C X.env).kindOf x=some .local:=z
       rw[kin x]at z'
       have hm:(x,i)∈X.N.zipIdx:=by
        rw[List.mem_zipIdx_iff_getElem?]
        exact e1
       refine nk (S.slots (x,i) hm ?_)
       show scope.names.lookup x=some .local
       cases q:scope.names.lookup x with
       |none=>rw[q]at z';cases z'
       |some k=>
        rw[q]at z'
        have z2:=E9 z'
        cases k with
        |«local»=>rfl
        |free=>
         exfalso
         dsimp only at z2
         split at z2<;>cases z2
        |_=>exact D8 z2 Y1
     . exact .inl z
     . exact .inr z
    have hf:=isFree x hv
    have hX:=S.free (x,.free) hf rfl
    obtain⟨m,hn,hl⟩:=I3.loc
    obtain⟨u,r,lk⟩:=hl i x v e1 e2 (by rcases hX with z|z;exact .inr (.inl z);exact .inr (.inr z))
    refine⟨u,r,.inr ⟨hv,?_⟩⟩
    have z:=xF (cells:=X.env.cells) scope.names [] x hf
    rw[hcl]at z
    obtain⟨c,hcx⟩:=z
    rcases lk with⟨kl,_⟩|⟨_,c',e',z'⟩
    . have hX':X.env.kindOf x=some .cell\/X.env.kindOf x=some .free:=hX
      rw[kl]at hX'
      rcases hX' with z|z<;>cases z
    . have q:=csound x c hcx
      rw[e']at q
      cases q
      obtain⟨o,ho,hd⟩:=z'
      exact⟨c,hcx,o,old _ _ ho,hd⟩
  . refine z21 (I3.cell x c (csound x c e)) λv o ho hd=>?_
    exact⟨v,o,old _ _ ho,hd⟩
  . exact I3.hok.fresh (Nat.le_of_eq hCC)
  . exact I3.freeC x c (csound x c e)
  . have hp':p∈X.pn++ζ:=hp
    refine z04 (I3.pin p hp') λe n ne nf d=>?_
    exact⟨old _ _ e,n,(outP p hp').1,(outP p hp').2.1,d⟩
  . rw[tQ]
    exact I3.len
 have fpY:∀{pl:ad}{H':Hp},(∀p∈pl,p.1∉fp)->(∀b∈fp,H' b=none)->∀b∈fp,uU (oK X scope cl C s3 H2 (D::fp)) ((X.pn++ζ)++pl) H' b:=λ{pl H'} hpl hn b hb=>by
  have f:=f2 b hb
  refine⟨hn b hb,F8 (exlt b (A5 _ hb)),neFs b f,.inl (A5 _ hb),λx c e z=>f.2.2.2.2.1 x c (csound x c e) z,λp hp=>?_⟩
  have hp':p∈(X.pn++ζ)++pl:=hp
  rcases A6.mp hp' with q|q
  . exact f.2.2.2.2.2 p q
  . exact λz=>hpl p q (by rw[z];exact hb)
 have start:∀s₅:B0,s₅={s3 with heap:=h₁,toks:=s3.toks+([]:List (Str×Value)).length}->
  codeAny (model X.prog X.w) X.A (.compLoop (.ListComp elt [⟨tg,iter,ifs,0⟩] scope pos) 0 (.ref it) (.ref D) (compEnvC scope cl C X.env)) (RR (.ref D) C) s₅:=by
  rintro s₅ rfl
  refine cm9 (λn s'=>∃i H' ys its nn,Inv (oK X scope cl C s3 H2 (D::fp)) (X.pn++ζ) (clr ks O) H' s'/\tn i s'.heap/\(∀b∈fp,H' b=none)/\H' D=none/\s'.heap.get? D=some {cls:=.type "list",data:=.seq its nn}/\Vals ys its.toList/\ys.length<=sizeLine/\W i n ys H') ?_ m0
   ⟨0,H2,[],#[],0,I4,T.keep _ _ _ st2 (λb hb o e=>old _ _ (by rw[s3h];exact A7 _ e)),λb hb=>(f2 b hb).1,nD,old _ _ eD3,.nil,R7 _,w0⟩
  rintro n s6 ⟨i,H6,ys,its,nn,I6,st6,fr6,nD6,eD6,rv6,hz6,w6⟩
  have I6':Inv (oK X scope cl C s3 H2 (D::fp)) ((X.pn++ζ)++[(D,{cls:=.type "list",data:=.seq its nn})]) (clr ks O) H6 s6:=I6.pins_of λp hp=>(A6.mp hp).elim (λz=>I6.pin p (B5 _ z)) λz=>by
   obtain rfl:=C3.mp z
   exact⟨eD6,nD6,hDC,neFs D fD,λv q=>by cases q⟩
  have plD:∀p∈[((D,{cls:=.type "list",data:=.seq its nn}):Addr×Obj)],p.1∉fp:=λp hp=>by
   obtain rfl:=C3.mp hp
   exact hDfp
  rcases turn i n ys H6 w6 with⟨stop,bP⟩|⟨go,hz,N,hN,step⟩
  . refine kP (T.done (oK X scope cl C s3 H2 (D::fp)) rfl rfl rfl hc i _ s6 (clr ks O) H6 _ I6' (fpY plD fr6) st6 stop) λr s7 ⟨hr,I7⟩=>?_
    subst hr
    have IX:Inv X ζ O H6 s7:=I3.call' (ch:=D::fp) I7.os I7.base I7.hok I7.bare λb hb=>⟨(exs b hb).2.2.2.1,(exs b hb).2.1,(exs b hb).2.2.2.2.1,(exs b hb).2.2.2.2.2⟩
    have eD7:=(I7.pin (D,{cls:=.type "list",data:=.seq its nn}) (B5 _ (B5 _ (C3.mpr rfl)))).1
    have rv7:Vals ys its.toList:=rv6
    have IT:Inv X ζ O (upd H6 D (.lst ys)) s7:=IX.track (its:=its.toList) (n:=nn) nD6 (by
     have:=I2.sz
     omega) fD.2.1 fD.2.2.2.2.1 fD.2.2.2.2.2 (by simpa using eD7) rv7 hz6
    obtain⟨m7,hn7,_⟩:=I7.loc
    refine hRR D C s7 _ IT ⟨m7,hn7⟩ ⟨?_,fC.2⟩ (bP D nD6)
    rw[cE (N8 hDC)]
    exact I7.free
  . refine kP (T.item (oK X scope cl C s3 H2 (D::fp)) rfl rfl rfl hc i _ s6 (clr ks O) H6 _ I6' (fpY plD fr6) st6 go) λr s7 ⟨u,hr,h7⟩=>?_
    subst hr
    refine kP h7 λ_ s8 ⟨x,H8,I8,r8,y8,st8,fr8⟩=>?_
    have I8':=I8.pinned (fpY plD fr8) (T.obj _ _ st8)
    refine thG (hg cl C s3 H2 (D::fp) s8 (clr ks O) H8 x u _ I8' r8 (step x H8 y8)) λ_ s9 σ9 H9 I9 qq=>?_
    obtain⟨hE,q9⟩:=qq
    refine thT (hi cl C s3 H2 (D::fp) s9 σ9 H9 _ I9 q9) λok s10 H10 I10 q10=>?_
    have memD:(D,({cls:=.type "list",data:=.seq its nn}:Obj))∈([]:List (Addr×Obj))++(((X.pn++ζ)++[(D,{cls:=.type "list",data:=.seq its nn})])++aa1 fp s8.heap):=B5 _ (C6 _ (B5 _ (C3.mpr rfl)))
    have keepT:∀{σ':St}{H':Hp}{s':B0},Inv (oK X scope cl C s3 H2 (D::fp)) (((X.pn++ζ)++[(D,{cls:=.type "list",data:=.seq its nn})])++aa1 fp s8.heap) σ' H' s'->tn (i+1) s'.heap/\(∀b∈fp,H' b=none):=λ{σ' H' s'} I'=>
     ⟨T.keep _ _ _ st8 λb hb o e=>(I'.pin (b,o) (B5 _ (B5 _ (xH hb e)))).1,λb hb=>by
      obtain⟨o,e,d⟩:=T.obj _ _ st8 b hb
      exact(I'.pin (b,o) (B5 _ (B5 _ (xH hb e)))).2.1⟩
    cases ok with
    |false=>
     obtain⟨m',hm,w10⟩:=hN ys H10 q10
     obtain⟨k1,k2⟩:=keepT I10
     obtain⟨p1,p2,_⟩:=I10.pin _ memD
     exact⟨m',hm,i+1,H10,ys,its,nn,I10.unpinned.unpinned.weak (by rw[tQ];exact hE.1.symm) hE.2,k1,k2,p2,p1,rv6,hz6,w10⟩
    |true=>
     refine jE (he cl C s3 H2 (D::fp) s10 σ9 H10 _ I10 q10) λvv s11 v H11 I11 r11 n11=>?_
     obtain⟨m',hm,w11⟩:=hN _ _ n11
     obtain⟨k1,k2⟩:=keepT I11
     obtain⟨p1,p2,_⟩:=I11.pin _ memD
     have hlen:ys.length=its.size:=by have:=rv6.length;simpa using this
     refine U8 PySem.F.slot_list_append ⟨_,p1,rfl⟩ PySem.F.entry_list_append (PySem.F.args_list_append_2 _ _) (PySem.list_append D its nn vv X8) ⟨p1,?_⟩
     have q:=PySem.IsL.update p1 λxs=>xs.push vv
     refine⟨m',hm,i+1,H11,ys++[v],its.push vv,_,(I11.unpinned.unpinned.weak (by rw[tQ];exact hE.1.symm) hE.2).turned (λb o hb e=>(U5 _ _ (N8 hb)).trans e) p2 hDC (.inl A9) (λx c e z=>fD.2.2.2.2.1 x c (csound x c e) z) (λp hp=>(outP p hp).2.2),?_,k2,p2,q,?_,?_,w11⟩
     . refine T.keep _ _ _ k1 λb hb o e=>(U5 _ _ ?_).trans e
       intro z
       exact hDfp (by rw[z];exact hb)
     . have:(its.push vv).toList=its.toList++[vv]:=Y1
       rw[this]
       exact rv6.append (.cons r11 .nil)
     . rw[G2,List.length_singleton]
       omega
 have hCC':(s2.heap.push {cls:=.type "list",dict:=none,data:=.seq ([]:List Value).toArray}).objs.size=C:=by rw[<-s3h];exact hCC
 rw[hCC']
 exact codeAny_compStart_list (start _ (by rw[<-hs3])) (T.self _ 0 _ _ _ (T.keep _ _ _ st2 (λb hb o e=>old _ _ (by rw[s3h];exact A7 _ e))) (start _ (by rw[<-hs3])))
def eb2(S:CScope X ks scope)(hc:X.calm=true)(hit:PI X tg iter wi)
 (hg:∀cl C s₀ H₀ ex,PG (oK X scope cl C s₀ H₀ ex) tg g)(hi:∀cl C s₀ H₀ ex,PIf (oK X scope cl C s₀ H₀ ex) ifs tc)(he:∀cl C s₀ H₀ ex,PE (oK X scope cl C s₀ H₀ ex) elt te)
 (hs:autoParam (∀x,foldedSetIterable iter X.env x=pure x) ZY):PE X (.ListComp elt [⟨tg,iter,ifs,0⟩] scope pos) (cn7 ks wi g tc te):=by
 intro ζ s O H Q I h;rw[eval_ListComp];refine wpAny_comprehension_free (use:=none) rfl hs (ap2 λx hx hk=>I.ok.has x.1 (S.free x hx hk)) S.kind S.names (kP (hit s O H _ I h) λv s1 h1=>kP h1 λitv s2 h2=>?_);refine cc5 (RR:=λacc C=>compPost (model X.prog X.w) X.A X.xe none (EP X ζ O Q) acc C) S hc hg hi he h2 ?_;rintro D C s' H' I' ⟨m,hn⟩ f q;exact⟨m,hn,λh'' sb=>⟨.ref D,H',I'.turned (t':=s'.toks) (λb o hb e=>(sb.2 b hb).trans e) f.1 f.2.1 f.2.2.2.1 f.2.2.2.2.1 f.2.2.2.2.2,rfl,q⟩⟩
def ch5(hN:X.N.Nodup)(hi':X.N[i]?=some y)(hy:Loc X.env.scope y)
 (S:CScope X ks scope)(hc:X.calm=true)(hit:PI X tg iter wi)
 (hg:∀cl C s₀ H₀ ex,PG (oK X scope cl C s₀ H₀ ex) tg g)(hi:∀cl C s₀ H₀ ex,PIf (oK X scope cl C s₀ H₀ ex) ifs tc)(he:∀cl C s₀ H₀ ex,PE (oK X scope cl C s₀ H₀ ex) elt te)
 (hsw:autoParam (swapsWith (.ListComp elt [⟨tg,iter,ifs,0⟩] scope pos) (some (.Name y py)) spos.line X.env=pure true) Z8)
 (hs:autoParam (∀x,foldedSetIterable iter X.env x=pure x) ZY)(hf:autoParam (X.fn y=true\/X.env.scope.names.lookup y=some .local) Z0):
 PS X (.Assign [.Name y py] (.ListComp elt [⟨tg,iter,ifs,0⟩] scope pos) spos) (ab8 i ks wi g tc te):=by
 intro ζ s O H D I h;rw[exec_Assign_Name_used _ _ _ _ hsw];refine A3 (X0 (A3 ?_));show wpAny _ X.A (do let _<-comprehension (.ListComp elt [⟨tg,iter,ifs,0⟩] scope pos) scope X.env _ (newList []) false (eval iter X.env) (some (assign (.Name y py) X.env))) _ _ s;refine A3 (J1 (wpAny_comprehension_free (use:=some (assign (.Name y py) X.env)) (Q:=λ_ s'=>SP X ζ D .next s') rfl hs (ap2 λx hx hk=>I.ok.has x.1 (S.free x hx hk)) S.kind S.names
  (kP (hit s O H _ I h) λv s1 h1=>kP h1 λitv s2 h2=>?_)) (λ_ s' hq=>C5 (C5 hq)) λ_ _ e=>e)
 refine cc5 (RR:=λacc C=>compPost (model X.prog X.w) X.A X.xe (some (assign (.Name y py) X.env)) (λ_ s'=>SP X ζ D .next s') acc C) S hc hg hi he h2 ?_;rintro L C s' H' I' ⟨m,hn⟩ f q;show wpAny _ _ (assign (.Name y py) X.env (.ref L)) _ _ s';refine wpAny_assign_Name (bh5 (v:=.ref L) I' hN hi' hy rfl (λs'' I'' hh=>?_) hf);obtain⟨a,sb,ha⟩:=hh;have hCa:C≠a:=by
  rcases ha with e|e
  . rw[e];exact f.2.1
  . exact λz=>f.2.2.2.2.1 y a e z.symm
 exact⟨m,hn.sameBut sb hCa,λh'' sb'=>⟨_,H',I''.turned (t':=s''.toks) (λb o hb e=>(sb'.2 b hb).trans e) f.1 f.2.1 f.2.2.2.1 f.2.2.2.2.1 f.2.2.2.2.2,q⟩⟩
def de2(hc:X.calm=true):CallR X (.builtin "max") (λxs H Q=>∃(p:Addr)(ns:ah),xs=[.ref p]/\SqL X.K H p (ns.map V.int)/\ns≠[]/\∀M,M∈ns->(∀a∈ns,a<=M)->Q (.int M) H):=by
 intro ζ s O H xs us Q I r h;refine z23 h λp ns zz hp hne q=>?_;clear h;subst zz;obtain⟨u,rfl,ru⟩:=r.one;obtain rfl:u=Value.ref p:=ru;refine z12 (I.list hp) λits rv pl _=>?_;have hi:IntsAre its ns:=xI rv;have hl:=pl.isList;obtain⟨xs,e⟩:=hi.allInts.items;have hns:ns=xs.toList.map (·.1):=by rw[<-hi.numsOf,<-nums_intItems,<-e]
 have hsz:0<xs.size:=by have h3:=U7.mpr hne;rw[hns,B7,G5]at h3;exact h3
 rw[e]at hl;refine max_intList (I.ok.hd hc) hl hsz λv h' tk hv hk=>?_;obtain⟨t,rfl⟩:=intItems_at hv;obtain⟨h1,h2⟩:=argBest_gt (numAt xs) (xs.size-1);refine⟨.int _,H,I.kept hk,⟨t,rfl⟩,q _ ?_ λa ha=>?_⟩
 . rw[hns,numAt_eq];exact getD_mem (by rw[B7,G5];omega)
 . rw[hns]at ha;obtain⟨j,hj,rfl⟩:=mem_getD ha;rw[B7,G5]at hj;rw[<-numAt_eq];exact h2 j X8
def cd9(hc:X.calm=true):CallR X (.builtin "min") (λxs H Q=>∃(p:Addr)(ns:ah),xs=[.ref p]/\SqL X.K H p (ns.map V.int)/\ns≠[]/\∀M,M∈ns->(∀a∈ns,M<=a)->Q (.int M) H):=by
 intro ζ s O H xs us Q I r h;refine z23 h λp ns zz hp hne q=>?_;clear h;subst zz;obtain⟨u,rfl,ru⟩:=r.one;obtain rfl:u=Value.ref p:=ru;refine z12 (I.list hp) λits rv pl _=>?_;have hi:IntsAre its ns:=xI rv;have hl:=pl.isList;obtain⟨xs,e⟩:=hi.allInts.items;have hns:ns=xs.toList.map (·.1):=by rw[<-hi.numsOf,<-nums_intItems,<-e]
 have hsz:0<xs.size:=by have h3:=U7.mpr hne;rw[hns,B7,G5]at h3;exact h3
 rw[e]at hl;refine min_intList (I.ok.hd hc) hl hsz λv h' tk hv hk=>?_;obtain⟨t,rfl⟩:=intItems_at hv;obtain⟨h1,h2⟩:=argBest_lt (numAt xs) (xs.size-1);refine⟨.int _,H,I.kept hk,⟨t,rfl⟩,q _ ?_ λa ha=>?_⟩
 . rw[hns,numAt_eq];exact getD_mem (by rw[B7,G5];omega)
 . rw[hns]at ha;obtain⟨j,hj,rfl⟩:=mem_getD ha;rw[B7,G5]at hj;rw[<-numAt_eq];exact h2 j X8
def bp8:CallR X (.builtin "sorted") (λxs H Q=>∃(p:Addr)(ns:ah),xs=[.ref p]/\SqL X.K H p (ns.map V.int)/\ns.length<64/\∀(l:Addr)(ms:ah),H l=none->ms.Perm ns->ms.Pairwise (· <= ·)->Q (.ref l) (upd H l (.lst (ms.map V.int)))):=by
 intro ζ s O H xs us Q I r h;refine z23 h λp ns zz hp h64 q=>?_;clear h;subst zz;obtain⟨u,rfl,ru⟩:=r.one;obtain rfl:u=Value.ref p:=ru;refine z12 (I.list hp) λits rv pl hz=>?_;have hi:IntsAre its ns:=xI rv;have hlen:=rv.length;rw[B7]at hlen;refine sorted_ints pl.isList hi X8 λout ns' a1 a2 a3=>?_;obtain⟨e,he⟩:=sortedAll_at s.heap its out;have hl':ns'.length=ns.length:=a2.length_eq;refine⟨.ref (s.heap.objs.size+1),_,I.laid (t':=s.toks) (λ_ _=>sortedAll_old) (Nat.le_succ _) ?_,rfl,q _ ns' (I.hok.fresh (Nat.le_succ _)) a2 a3⟩;refine⟨?_,out.toList,e,as3 a1,?_⟩
 . rw[B7]at hz⊢;omega
 . rw[he];try rfl
end
def Its(z:Str):It:=⟨λi _=>i<z.cps.size,λi H x H'=>H'=H/\∃c,z.cps[i]?=some c/\x=.str ⟨#[c]⟩,λi _=>z.cps.size<=i⟩
def df0(hQ:Q () s):wpAny M A (letOwnedTupleGo tg (.ref it) (.str x t)) Q E s:=by unfold letOwnedTupleGo;cases tg<;>exact C5 hQ
def cq7{P:E2}{w:World}{K:A1}{tg:Expr}(it:Addr)(z:Str)(t:Tok):an4 P w K tg (Its z) [it] it (λi h=>h.IsStrIter it "str_ascii_iterator" z t i) where
 mem:=Y1
 obj:=λi h st b hb=>by
  have e:b=it:=by simpa using hb
  subst e;refine z12 st λo e c d=>?_;exact⟨o,e,λv q=>by rw[d]at q;cases q⟩
 keep:=λi h h' st k=>let⟨o,e,r⟩:=st;⟨o,k it Y1 o e,r⟩
 item:=by intro X hP hw hK hc i ζ s O H E I hf st hg;subst hP hw hK;obtain⟨f0,f1,f2,f3,f4,f5⟩:=hf it Y1;have hg':i<z.cps.size:=hg;refine wpAny_pyNext_ascii_item st (c:=z.cps[i]) (by simp[hg']) λh' hit' hs'=>?_;have I1:Inv X ζ O H {s with heap:=h',toks:=s.toks+1}:=I.turned (λb o hb e=>hs'.extBut b o hb e) f0 f1 f3 f4 f5;exact⟨_,rfl,df0 ⟨.str ⟨#[z.cps[i]]⟩,H,I1,⟨_,rfl⟩,⟨rfl,_,by simp[hg'],rfl⟩,hit',λb hb=>(hf b hb).1⟩⟩
 done:=by intro X hP hw hK hc i ζ s O H E I hf st hg;subst hP hw hK;obtain⟨f0,f1,f2,f3,f4,f5⟩:=hf it Y1;have hg':z.cps.size<=i:=hg;exact wpAny_pyNext_ascii_end (I.ok.hd hc) st (by simp[hg']) λh' he'=>⟨rfl,I.turned (t':=s.toks) (λb o hb e=>he' b o hb e) f0 f1 f3 f4 f5⟩
 self:=λ_ _ _ _ _ st h=>wpAny_pyIter_striter_ascii st h
def dn0{P:E2}{w:World}{K:A1}{tg:Expr}(it:Addr)(z:Str)(t:Tok):an4 P w K tg (Its z) [it] it (λi h=>h.IsStrIter it "str_iterator" z t i) where
 mem:=Y1
 obj:=λi h st b hb=>by
  have e:b=it:=by simpa using hb
  subst e;refine z12 st λo e c d=>?_;exact⟨o,e,λv q=>by rw[d]at q;cases q⟩
 keep:=λi h h' st k=>let⟨o,e,r⟩:=st;⟨o,k it Y1 o e,r⟩
 item:=by intro X hP hw hK hc i ζ s O H E I hf st hg;subst hP hw hK;obtain⟨f0,f1,f2,f3,f4,f5⟩:=hf it Y1;have hg':i<z.cps.size:=hg;refine wpAny_pyNext_wide_item st (c:=z.cps[i]) (by simp[hg']) λh' hit' hs'=>?_;have I1:Inv X ζ O H {s with heap:=h',toks:=s.toks+1}:=I.turned (λb o hb e=>hs'.extBut b o hb e) f0 f1 f3 f4 f5;exact⟨_,rfl,df0 ⟨.str ⟨#[z.cps[i]]⟩,H,I1,⟨_,rfl⟩,⟨rfl,_,by simp[hg'],rfl⟩,hit',λb hb=>(hf b hb).1⟩⟩
 done:=by intro X hP hw hK hc i ζ s O H E I hf st hg;subst hP hw hK;obtain⟨f0,f1,f2,f3,f4,f5⟩:=hf it Y1;have hg':z.cps.size<=i:=hg;exact wpAny_pyNext_wide_end (I.ok.hd hc) st (by simp[hg']) λh' he'=>⟨rfl,I.turned (t':=s.toks) (λb o hb e=>he' b o hb e) f0 f1 f3 f4 f5⟩
 self:=λ_ _ _ _ _ st h=>wpAny_pyIter_striter_wide st h
section
variable{X:Cx}
def eg7:V->Option Int->Option Int->Hp->VK->Prop:=λx lo hi H Q=>∃z,x=.str z/\z.length<=sizeLine/\Q (.str (Txt.slice z lo hi)) H
theorem ev4:SlR X eg7:=by
 intro ζ s O H x v vl vu lo hi sl Q I rx hs pl pu h;refine z12 h λz zz hz q=>?_;clear h;subst zz;obtain⟨t,rfl⟩:=rx;refine⟨"str",_,F.slot_str_getitem.lookup,typeIs_str s z t,?_⟩;refine z12 hs λo e c d=>?_;have go:∀(l u:Option (Int×Tok)),vl=partValue l->vu=partValue u->lo=l.map (·.1)->hi=u.map (·.1)->wpAny (model X.prog X.w) X.A (getItem (.str z t) (.ref sl)) (EP X ζ O Q) X.xe s:=by
  rintro l u rfl rfl rfl rfl;refine wpAny_getItem_str_slice (l:=l) (u:=u) (st:=none) ⟨o,e,c,d⟩ rfl ?_;unfold sliceMade;unfold Txt.slice at q;have e1:((((none:Option (Int×Tok)).map (·.1)).getD 1==1&&(slicePicked z l u none).length==z.length)=true)=(((1:Int)==1&&(Builtin.Str.strSliceIndices (l.map (·.1)) (u.map (·.1)) 1 z.length).length==z.length)=true):=rfl;split
  . rename_i hh;rw[C7 (e1▸hh)]at q;exact⟨.str z,H,I,⟨t,rfl⟩,q⟩
  . rename_i hh;rw[D3 (e1▸hh)]at q;refine⟨J2 (J2 (List.length_filterMap_le _ _) (sliceIndices_le _ _ _)) hz,.str _,H,I.tok _,⟨_,rfl⟩,q⟩
 cases pl with
 |none=>
  cases pu with
  |none=>exact go none none rfl rfl rfl rfl
  |int j u=>exact go none (some (j,u)) rfl rfl rfl rfl
 |int i t'=>
  cases pu with
  |none=>exact go (some (i,t')) none rfl rfl rfl rfl
  |int j u=>exact go (some (i,t')) (some (j,u)) rfl rfl rfl rfl
theorem bl4:∀{ys:am}{us:aq},Vals (ys.map V.str) us->StrsAre us ys
 |[],_,.nil=>.nil
 |y::ys,_,.cons r t=>by obtain⟨k,rfl⟩:=r;exact .cons _ _ (bl4 t)
def ca6(K:A1):V->List V->Hp->VK->Prop:=λx vs H Q=>∃(z:Str)(p:Addr)(ys:am),x=.str z/\vs=[.ref p]/\SqL K H p (ys.map V.str)/\(ys.map (·.length)).sum+ys.length*z.length<=16777216/\Q (.str (Txt.join z ys)) H
def ez0:MtR X "str.join" (ca6 X.K):=by intro ζ s O H x xs v us Q I rx rv h;refine z34 h λz p ys zz zy hp hz q=>?_;clear h;subst zz zy;obtain⟨t,rfl⟩:=rx;obtain⟨u,rfl,ru⟩:=rv.one;obtain rfl:u=Value.ref p:=ru;refine z12 (I.list hp) λits r pl _=>?_;exact join_list pl.isList (by simpa using bl4 r) hz λt' k=>⟨.str _,H,I.tok _,⟨_,rfl⟩,q⟩
def fa4:R2:=λx y H Q=>∃i j,x=.str i/\y=.str j/\i.length+j.length<=sizeLine/\Q (.str (i++j)) H
def em5(K:A1):List V->Hp->VK->Prop:=λxs H Q=>∃x n,xs=[x]/\eo5 K x H n/\Q (.int n) H
def eb6:List V->Hp->VK->Prop:=λxs H Q=>∃i,xs=[.int i]/\Q (.int (if i<0 then -i else i)) H
def ct4:List V->Hp->VK->Prop:=λxs H Q=>∃i j,xs=[.int i,.int j]/\zV i j/\∀p,H p=none->Q (.ref p) (upd H p (.tup [.int (i/j),.int (i%j)]))
def ff5(K:A1):List V->Hp->VK->Prop:=λxs H Q=>∃x T tx b,xs=[x,.ty T]/\TyN K H x tx/\iQ tx T b/\Q (.bl b) H
def er8(K:A1):List V->Hp->VK->Prop:=λxs H Q=>∃(p:Addr)(bs:br),xs=[.ref p]/\SqL K H p (bs.map V.bl)/\Q (.bl (bs.all id)) H
def fa0(K:A1):List V->Hp->VK->Prop:=λxs H Q=>∃(p:Addr)(bs:br),xs=[.ref p]/\SqL K H p (bs.map V.bl)/\Q (.bl (bs.any id)) H
def fa3:List V->Hp->VK->Prop:=λxs H Q=>∃i j,xs=[.int i,.int j]/\Q (.int (if j>i then j else i)) H
def fe1:List V->Hp->VK->Prop:=λxs H Q=>∃i j,xs=[.int i,.int j]/\Q (.int (if j<i then j else i)) H
def fx0(K:A1):List V->Hp->VK->Prop:=λxs H Q=>∃(p:Addr)(ns:ah),xs=[.ref p]/\SqL K H p (ns.map V.int)/\ns≠[]/\∀M,M∈ns->(∀a∈ns,a<=M)->Q (.int M) H
def fn2(K:A1):List V->Hp->VK->Prop:=λxs H Q=>∃(p:Addr)(ns:ah),xs=[.ref p]/\SqL K H p (ns.map V.int)/\ns≠[]/\∀M,M∈ns->(∀a∈ns,M<=a)->Q (.int M) H
def ds7(K:A1):List V->Hp->VK->Prop:=λxs H Q=>fa3 xs H Q\/fx0 K xs H Q
def dp4(K:A1):List V->Hp->VK->Prop:=λxs H Q=>fe1 xs H Q\/fn2 K xs H Q
def de1(hc:autoParam (X.calm=true) Z8):CallR X (.builtin "max") (ds7 X.K):=(dq0 hc).or (de2 hc)
def cq8(hc:autoParam (X.calm=true) Z8):CallR X (.builtin "min") (dp4 X.K):=(cs8 hc).or (cd9 hc)
def sX(hm:X.mg x=none)(hv:bootBuiltins x=some (.type ty))(hg:autoParam (Gl X x) Z8)(hn:autoParam (x≠"__name__") Z6)(hd:autoParam ((x==("__debug__":Str))=false) Z6):PE X (.Name x pos) (tC (.ty ty)):=
 ex1 (v:=.ty ty) hg hm hv rfl hn hd
def mJ(mg:aa)(x:Str)(v:V):Prop:=∃u,mg x=some u/\RelV v u
def fQ(h:mJ X.mg x v)(hg:autoParam (Gl X x) Z8)(hd:autoParam ((x==("__debug__":Str))=false) Z6):PE X (.Name x pos) (tC v):=by obtain⟨u,hm,r⟩:=h;exact ey2 hg hm r hd
end
def cW:bootBuiltins "len"=some (.builtin "len"):=PySem.boot_len
def cl1:bootBuiltins "abs"=some (.builtin "abs"):=X9
def cx9:bootBuiltins "divmod"=some (.builtin "divmod"):=X9
def eI:bootBuiltins "isinstance"=some (.builtin "isinstance"):=X9
def qH:bootBuiltins "all"=some (.builtin "all"):=X9
def ew7:bootBuiltins "any"=some (.builtin "any"):=X9
def ao4:bootBuiltins "max"=some (.builtin "max"):=X9
def sI:bootBuiltins "min"=some (.builtin "min"):=X9
def ed7:bootBuiltins "sum"=some (.builtin "sum"):=X9
def dm0:bootBuiltins "sorted"=some (.builtin "sorted"):=X9
def dc1:bootBuiltins "int"=some (.type "int"):=X9
def cq4:bootBuiltins "bool"=some (.type "bool"):=X9
def ew6:bootBuiltins "str"=some (.type "str"):=X9
def iR:bootBuiltins "list"=some (.type "list"):=X9
def dr4:bootBuiltins "tuple"=some (.type "tuple"):=X9
section
variable{t u:TS}{D:zZ}{O:St}{H:Hp}{te ta tb tc:TE}{g:TG}{i:Nat}{v:V}{Q:VK}{c:TT}{K:A1}{r r':R2}
end
structure dR (K:A1) (mg:aa) (x:Str) (st:Stmt):Prop where
 ex:∃f fd,Fun K x x st f fd/\mg x=some (.ref f)
def ex9{K:A1}{h:Heap}{mg:aa}(X:K.In h)(G:h.Ns mainGlobals mg){x:Str}{st:Stmt}{f:Addr}{oc:Value}{od an:bb}{osl:bp}{kV doc pm cdv ct:Value}
 (a:PySem.W.nsIn K mainGlobals x=some (some (.ref f)))(l:K.lookup f=some ⟨oc,od,.func (PySem.W.fnOf x x (jB st) (cP st) (aL st) .none kV doc pm an cdv ct),osl⟩)
 (c:PySem.W.codeIn K cdv x=true)(k:PySem.W.keepIn K (.ref f)=true):dR K mg x st:=⟨f,_,ab5 l c k,Q7 X G a⟩
def eh7{K:A1}{h:Heap}{mg:aa}(X:K.In h)(G:h.Ns mainGlobals mg){x:Str}{v:V}{u:Value}(a:PySem.W.nsIn K mainGlobals x=some (some u))(r:RelV v u):mJ mg x v:=⟨u,Q7 X G a,r⟩
section
variable{P:E2}{w:World}{K:A1}{mg:aa}{base:Heap}
end
def cj7(h:Builtin.Int.intBits a+Builtin.Int.intBits b<=134217728):IntMulOk a b:=by
 have e:(2:Nat)^27=134217728:=Y2
 have h:Builtin.Int.intTooBig (Builtin.Int.intBits a+Builtin.Int.intBits b)=false:=by unfold Builtin.Int.intTooBig bitsLine;exact D6 X8
 unfold IntMulOk;rw[h];simp
def eg0(h1:-(2^64)<b)(h2:b<2^64):IntMulOk a b:=IntMulOk.of_right (intBits_le_64 h1 h2)
def es0(h1:-(2^64)<a)(h2:a<2^64):IntMulOk a b:=IntMulOk.of_left (intBits_le_64 h1 h2)
def SI(k:Bool)(h:Heap)(it l:Addr)(i:Nat):Prop:=∃o,h.get? it=some o/\o.cls=.type (cond k "tuple_iterator" "list_iterator")/\o.data=.fields #[.ref l,.int i 0]
def SQ(k:Bool)(h:Heap)(l:Addr)(us:bx):Prop:=∃o,h.get? l=some o/\o.cls=.type (cond k "tuple" "list")/\∃n,o.data=.seq us n
def SI.at(x:SI k h it l i)(e:∀o,h.get? it=some o->h'.get? it=some o):SI k h' it l i:=by obtain⟨o,ho,r⟩:=x;exact⟨o,e o ho,r⟩
def SQ.at(x:SQ k h l us)(e:∀o,h.get? l=some o->h'.get? l=some o):SQ k h' l us:=by obtain⟨o,ho,r⟩:=x;exact⟨o,e o ho,r⟩
section
variable{prog:E2}{w:World}{A:G0}{E:ag}{s:B0}
theorem bn4(hit:SI k s.heap it l i)(hl:SQ k s.heap l us)(hx:us[i]?=some x)
 (hQ:∀h',SI k h' it l (i+1)->Heap.SameBut it s.heap h'->Q x {s with heap:=h'}):wpAny (model prog w) A (Builtin.SmallTypes.nextOf (.ref it)) Q E s:=by
 cases k with
 |false=>exact wpAny_nextOf_list_item hit hl hx hQ
 |true=>
  refine z12 hit λo ho hc hd=>?_;obtain⟨ol,hol,_,nl,hdl⟩:=hl;have hT:s.TypeIs (.ref it) "tuple_iterator":=⟨o,ho,hc⟩;unfold Builtin.SmallTypes.nextOf;refine A3 (U0 (name:=Str.ofString "__next__") hT Q8 (X5 Q8 hT F.entry_tuple_iterator_next ?_ (F.args_tuple_iterator_next_1 _)))
  (show wpAny _ _ (field (.ref it) 0>>=_) _ _ s);refine A3 (N5 ho hd (x:=.ref l) rfl ?_)
  (show wpAny _ _ (if(Value.ref l==Value.none)=true then _ else _) _ _ s);rw[D3 (show¬((Value.ref l==Value.none)=true) from D9)]
  (show wpAny _ _ (field (.ref it) 1>>=_) _ _ s);refine A3 (N5 ho hd (x:=.int i 0) rfl ?_)
  (show wpAny _ _ (seqItems? (.ref l)>>=_) _ _ s);refine A3 (U1 hol hdl ?_)
  simp only[Int.toNat_natCast,hx];refine A3 (wpAny_setField ho hd Y1 (C5 ⟨x,rfl,C5 (hQ _ ?_ (Heap.SameBut.update ..))⟩));refine⟨_,Heap.get?_update_self _ ho (Obj.isFreed_of_fields (Obj.data_mapFields hd _)),(Obj.cls_mapFields ..).trans hc,?_⟩;rw[Obj.data_mapFields hd];simp[rawInt]
theorem cl0(hh:A.handled=none)(hit:SI k s.heap it l i)(hl:SQ k s.heap l us)(hx:us[i]?=none)
 (hE:∀h' e,Heap.ExtBut it s.heap h'->(∃o,h'.get? e=some o/\o.cls=.type "StopIteration")->E (.ref e) {s with heap:=h'}):wpAny (model prog w) A (Builtin.SmallTypes.nextOf (.ref it)) Q E s:=by
 cases k with
 |false=>exact wpAny_nextOf_list_end hh hit hl hx hE
 |true=>
  refine z12 hit λo ho hc hd=>?_;obtain⟨ol,hol,_,nl,hdl⟩:=hl;have hT:s.TypeIs (.ref it) "tuple_iterator":=⟨o,ho,hc⟩;unfold Builtin.SmallTypes.nextOf;refine A3 (U0 (name:=Str.ofString "__next__") hT Q8 (X5 Q8 hT F.entry_tuple_iterator_next ?_ (F.args_tuple_iterator_next_1 _)))
  (show wpAny _ _ (field (.ref it) 0>>=_) _ _ s);refine A3 (N5 ho hd (x:=.ref l) rfl ?_)
  (show wpAny _ _ (if(Value.ref l==Value.none)=true then _ else _) _ _ s);rw[D3 (show¬((Value.ref l==Value.none)=true) from D9)]
  (show wpAny _ _ (field (.ref it) 1>>=_) _ _ s);refine A3 (N5 ho hd (x:=.int i 0) rfl ?_)
  (show wpAny _ _ (seqItems? (.ref l)>>=_) _ _ s);refine A3 (U1 hol hdl ?_)
  simp only[Int.toNat_natCast,hx];refine A3 (wpAny_rule (A3 (wpAny_setField ho hd Y1 ?_)))
  (show wpAny _ _ (newExc (.type "StopIteration") []>>=_) _ _ _);refine A3 ?_;simp only[newExc,newTuple]
  refine A3 (O1 ?_ (by size_fits));refine A3 (m:=firstArgMember _ _) (wpAny_of_eq (a:=Value.none) (by first|rfl|(simp only[firstArgMember];rfl)) ?_);refine O1 ?_ (by size_fits);simp only[raiseNew];refine A3 (wpAny_handled ?_);first|rw[show A.in1.handled=none from hh]|rw[hh]
  refine A3 (C5 (wpAny_throw ?_));exact hE _ _ (((Heap.SameBut.update ..).extBut.push _).push _) ⟨_,D5 _ rfl,rfl⟩
theorem cc0(hl:SQ k s.heap l us)
 (hQ:Q (.ref s.heap.objs.size) {s with heap:=s.heap.push {cls:=.type (cond k "tuple_iterator" "list_iterator"),data:=.fields #[.ref l,.int 0 0]}}):wpAny (model prog w) A (pyIter (.ref l)) Q E s:=by
 cases k with
 |false=>exact U2 hl hQ
 |true=>exact wpAny_pyIter_tuple hl hQ
theorem co0{k1 k2:Bool}{z TI TO i1 i2 l1 l2:Addr}{i:Nat}{us vs:bx}{a b:Value}{Q:Option Value->B0->Prop}(hh:A.handled=none)(D:ZipApart z TI TO i1 i2 l1 l2)
 (hz:IsZip s.heap z TI TO .none)(hTI:IsPair s.heap TI (.ref i1) (.ref i2))(hTO:IsPair s.heap TO a b)(n1:SI k1 s.heap i1 l1 i)(n2:SI k2 s.heap i2 l2 i)(q1:SQ k1 s.heap l1 us)(q2:SQ k2 s.heap l2 vs)
 (hI:∀x y,us[i]?=some x->vs[i]?=some y->∀h',IsZip h' z TI TO (rawInt s.heap.objs.size)->IsPair h' TO x y->SI k1 h' i1 l1 (i+1)->SI k2 h' i2 l2 (i+1)->IsPair h' s.heap.objs.size x y->
  (∀c o,c≠z->c≠TO->c≠i1->c≠i2->s.heap.get? c=some o->h'.get? c=some o)->Q (some (.ref s.heap.objs.size)) {s with heap:=h'})
 (hE:us[i]?=none\/vs[i]?=none->∀h',(∀c o,c≠z->c≠TO->c≠i1->c≠i2->s.heap.get? c=some o->h'.get? c=some o)->Q none {s with heap:=h'}):
 wpAny (model prog w) A (pyNext (.ref z)) Q E s:=by
 have hT:s.TypeIs (.ref z) "zip":=⟨_,hz,rfl⟩;unfold pyNext;have bP:(us[i]?=none\/vs[i]?=none)->∀h' e,(∀c o,c≠z->c≠TO->c≠i1->c≠i2->s.heap.get? c=some o->h'.get? c=some o)->(∃o,h'.get? e=some o/\o.cls=.type "StopIteration")->
  wpAny (model prog w) A (do if(<-isInstance (.ref e) (.type "StopIteration"))=true then pure none else throw (.ref e)) Q E {s with heap:=h'}:=λhend h' e hk ⟨o,ho,hc⟩=>
  A3 (wpAny_isInstance (T:="StopIteration") (b:=true) ⟨o,ho,hc⟩ isSubtype_stop (C5 (hE hend _ hk)))
 refine A3 (wpAny_attempt (U0 (name:=Str.ofString "__next__") hT F.slot_zip_next (X5 F.slot_zip_next hT F.entry_zip_next ?_ (F.args_zip_next_1 _))))
 (show wpAny _ _ (field (.ref z) 2>>=_) _ _ _);refine A3 (N5 hz rfl (x:=.bool false) rfl ?_)
 (show wpAny _ _ (field (.ref z) 3>>=_) _ _ _);refine A3 (N5 hz rfl (x:=.ref TI) rfl ?_)
 refine A3 (U1 hTI rfl ?_);(show wpAny _ _ (Builtin.SmallTypes.ownedTupleIsFree (.ref z)>>=_) _ _ _)
 refine A3 ?_;unfold Builtin.SmallTypes.ownedTupleIsFree;refine A3 (N5 hz rfl (x:=.none) rfl (C5 ?_));simp only[L9];refine A3 (wpAny_rule ?_);refine A3 (N5 hz rfl (x:=.ref TO) rfl ?_);refine A3 (S8 hz Y1 λh₁ hz₁ g1=>?_);replace hz₁:IsZip h₁ z TI TO .ellipsis:=hz₁;refine A3 ?_;simp only[List.zipIdx_cons,List.zipIdx_nil,X7,List.forIn_nil];refine A3 (A3 (wpAny_onRaise ?_));(show wpAny _ _ (Builtin.SmallTypes.nextOf (.ref i1)>>=_) _ _ _)
 have p1:SI k1 h₁ i1 l1 i:=n1.at λo e=>g1.extBut _ _ D.i1z e;have p2:SQ k1 h₁ l1 us:=q1.at λo e=>g1.extBut _ _ D.l1z e;cases hx:us[i]? with
 |none=>
  refine A3 (cl0 hh p1 p2 hx λh₂ e g2 he=>?_);obtain⟨oe,hoe,hce⟩:=he;have z2:IsZip h₂ z TI TO .ellipsis:=g2 _ _ D.i1z.symm hz₁;have hez:e≠z:=λq=>by subst q;rw[z2]at hoe;cases hoe;simp at hce
  refine S8 z2 Y1 λh₃ _ g3=>?_;exact bP (.inl hx) h₃ e (λc o c1 _ c3 _ q=>g3.extBut _ _ c1 (g2 _ _ c3 (g1.extBut _ _ c1 q))) ⟨oe,g3.extBut _ _ hez hoe,hce⟩
 |some x=>
  refine A3 (bn4 p1 p2 hx λh₂ n1' g2=>C5 ?_);have t2:IsPair h₂ TO a b:=g2.extBut _ _ D.TOi1 (g1.extBut _ _ D.TOz hTO);refine A3 (U1 t2 rfl ?_);refine A3 (wpAny_updateSeq_pair t2 λh₃ t3 g3=>?_);refine A3 (wpAny_letGo (C5 ?_));refine A3 (A3 (wpAny_onRaise ?_));(show wpAny _ _ (Builtin.SmallTypes.nextOf (.ref i2)>>=_) _ _ _)
  cases hy:vs[i]? with
  |none=>
   refine A3 (cl0 hh (n2.at λo e=>g3.extBut _ _ D.TOi2.symm (g2.extBut _ _ D.i12.symm (g1.extBut _ _ D.i2z e))) (q2.at λo e=>g3.extBut _ _ D.l2TO (g2.extBut _ _ D.l2i1 (g1.extBut _ _ D.l2z e))) hy λh₄ e g4 he=>?_);obtain⟨oe,hoe,hce⟩:=he;have z4:IsZip h₄ z TI TO .ellipsis:=g4 _ _ D.i2z.symm (g3.extBut _ _ D.TOz.symm (g2.extBut _ _ D.i1z.symm hz₁));have hez:e≠z:=λq=>by subst q;rw[z4]at hoe;cases hoe;simp at hce
   refine S8 z4 Y1 λh₅ _ g5=>?_;exact bP (.inr hy) h₅ e (λc o c1 c2 c3 c4 q=>g5.extBut _ _ c1 (g4 _ _ c4 (g3.extBut _ _ c2 (g2.extBut _ _ c3 (g1.extBut _ _ c1 q))))) ⟨oe,g5.extBut _ _ hez hoe,hce⟩
  |some y=>
   replace t3:IsPair h₃ TO x b:=t3;refine A3 (bn4 (n2.at λo e=>g3.extBut _ _ D.TOi2.symm (g2.extBut _ _ D.i12.symm (g1.extBut _ _ D.i2z e))) (q2.at λo e=>g3.extBut _ _ D.l2TO (g2.extBut _ _ D.l2i1 (g1.extBut _ _ D.l2z e))) hy λh₄ n2' g4=>C5 ?_);have t4:IsPair h₄ TO x b:=g4.extBut _ _ D.TOi2 t3;refine A3 (U1 t4 rfl ?_);refine A3 (wpAny_updateSeq_pair t4 λh₅ t5 g5=>?_);replace t5:IsPair h₅ TO x y:=t5;refine A3 (wpAny_letGo (C5 (C5 ?_)));refine A3 (U1 t5 rfl ?_);refine A3 (wpAny_newTuple ?_);have hsz:h₅.objs.size=s.heap.objs.size:=by rw[g5.1,g4.1,g3.1,g2.1,g1.1]
   have z5:IsZip h₅ z TI TO .ellipsis:=g5.extBut _ _ D.TOz.symm (g4.extBut _ _ D.i2z.symm (g3.extBut _ _ D.TOz.symm (g2.extBut _ _ D.i1z.symm hz₁)));have m1:SI k1 h₅ i1 l1 (i+1):=n1'.at λo e=>g5.extBut _ _ D.TOi1.symm (g4.extBut _ _ D.i12 (g3.extBut _ _ D.TOi1.symm e));have m2:SI k2 h₅ i2 l2 (i+1):=n2'.at λo e=>g5.extBut _ _ D.TOi2.symm e;have zlt:z<h₅.objs.size:=D0 z5
   (show wpAny _ _ (Builtin.SmallTypes.ownedTupleHandOut (.ref z) (.ref h₅.objs.size)>>=_) _ _ _);refine A3 ?_;unfold Builtin.SmallTypes.ownedTupleHandOut
   have z6:IsZip (h₅.push {cls:=.type "tuple",data:=.seq #[x,y]}) z TI TO .ellipsis:=A7 _ z5;refine A3 (S8 z6 Y1 λh₇ z7 g7=>?_);replace z7:IsZip h₇ z TI TO (rawInt h₅.objs.size):=z7;refine S8 z7 Y1 λh₈ z8 g8=>?_;replace z8:IsZip h₈ z TI TO (rawInt h₅.objs.size):=z8;have up:∀c o,c≠z->h₅.get? c=some o->h₈.get? c=some o:=λc o c1 e=>g8.extBut _ _ c1 (g7.extBut _ _ c1 (A7 _ e));have t8:IsPair h₈ h₅.objs.size x y:=g8.extBut _ _ (U9 zlt) (g7.extBut _ _ (U9 zlt) (D5 _ rfl));rw[hsz]at z8 t8;refine C5 ⟨_,rfl,?_⟩
   (show wpAny _ _ _ _ _ _);refine C5 ?_
   show Q (some (.ref h₅.objs.size)) _;rw[hsz];refine hI _ _ hx hy h₈ z8 (up _ _ D.TOz t5) (m1.at λo e=>up _ o D.i1z e) (m2.at λo e=>up _ o D.i2z e) t8 λc o c1 c2 c3 c4 e=>up c o c1 ?_;exact g5.extBut _ _ c2 (g4.extBut _ _ c4 (g3.extBut _ _ c2 (g2.extBut _ _ c3 (g1.extBut _ _ c1 e))))
end
noncomputable abbrev itO(k:Bool)(l:Addr):Obj:={cls:=.type (cond k "tuple_iterator" "list_iterator"),data:=.fields #[.ref l,.int 0 0]}
abbrev zA(k1:Bool)(h:Heap)(l1:Addr):Heap:=h.push (itO k1 l1)
abbrev zB(k1 k2:Bool)(h:Heap)(l1 l2:Addr):Heap:=(zA k1 h l1).push (itO k2 l2)
abbrev zC(k1 k2:Bool)(h:Heap)(l1 l2:Addr):Heap:=(zB k1 k2 h l1 l2).push {cls:=.type "tuple",data:=.seq #[.ref h.objs.size,.ref (zA k1 h l1).objs.size]}
abbrev zD(k1 k2:Bool)(h:Heap)(l1 l2:Addr):Heap:=(zC k1 k2 h l1 l2).push {cls:=.type "tuple",data:=.seq #[.none,.none]}
abbrev zE(k1 k2:Bool)(h:Heap)(l1 l2:Addr):Heap:=(zD k1 k2 h l1 l2).push {cls:=.type "zip",data:=.fields #[.none,.bool false,.bool false,.ref (zB k1 k2 h l1 l2).objs.size,.ref (zC k1 k2 h l1 l2).objs.size]}
def eu1(k1 k2:Bool)(l1 l2:Addr)(us vs:bx):
 Meets (Builtin.«zip.__new__» ⟨[.type "zip",.ref l1,.ref l2],[]⟩) (λ_ R s=>SQ k1 s.heap l1 us/\SQ k2 s.heap l2 vs/\R (.ok (.ret (.ref (zD k1 k2 s.heap l1 l2).objs.size))) {s with heap:=zE k1 k2 s.heap l1 l2}):=
 .of_wp λprog w A R s h=>by
  obtain⟨hp,g,d,tk,os⟩:=s;obtain⟨hl1,hl2,h⟩:=h;have hsub:=sub_zip;have a1:SQ k1 (Shared.heap ⟨hp,g,d,tk,os⟩) l1 us:=hl1;have a2:SQ k2 (Shared.heap ⟨hp.push (itO k1 l1),g,d,tk,os⟩) l2 vs:=SQ.at hl2 λo e=>A7 _ e
  wp_walk using cc0 a1,cc0 a2
  exact⟨_,rfl,h⟩
section
variable{prog:E2}{w:World}{A:G0}{E:ag}{s:B0}
def dm4(hl1:SQ k1 s.heap l1 us)(hl2:SQ k2 s.heap l2 vs)
 (h:∀h',IsZip h' (s.heap.objs.size+4) (s.heap.objs.size+2) (s.heap.objs.size+3) .none->IsPair h' (s.heap.objs.size+2) (.ref s.heap.objs.size) (.ref (s.heap.objs.size+1))->IsPair h' (s.heap.objs.size+3) .none .none->
  SI k1 h' s.heap.objs.size l1 0->SI k2 h' (s.heap.objs.size+1) l2 0->(∀c o,s.heap.get? c=some o->h'.get? c=some o)->Q (.ref (s.heap.objs.size+4)) {s with heap:=h'}):
 wpAny (model prog w) A (call (.type "zip") [.ref l1,.ref l2]) Q E s:=by
 refine callType_new F.called_zip Y2 (F.typeCall_zip_2 _ _) (F.newCall_zip_2 _ _) (λobj=>F.args_object_init_3 obj _ _) F.entry_zip_new (eu1 k1 k2 l1 l2 us vs) ⟨hl1,hl2,?_⟩;have z1:(zA k1 s.heap l1).objs.size=s.heap.objs.size+1:=N1 ..
 have z2:(zB k1 k2 s.heap l1 l2).objs.size=s.heap.objs.size+2:=(N1 ..).trans (by rw[z1]);have z3:(zC k1 k2 s.heap l1 l2).objs.size=s.heap.objs.size+3:=(N1 ..).trans (by rw[z2]);have z4:(zD k1 k2 s.heap l1 l2).objs.size=s.heap.objs.size+4:=(N1 ..).trans (by rw[z3]);have u1:∀c o,(zA k1 s.heap l1).get? c=some o->(zE k1 k2 s.heap l1 l2).get? c=some o:=λc o e=>A7 _ (A7 _ (A7 _ (A7 _ e)));have u2:∀c o,(zB k1 k2 s.heap l1 l2).get? c=some o->(zE k1 k2 s.heap l1 l2).get? c=some o:=λc o e=>A7 _ (A7 _ (A7 _ e));have g5:(zE k1 k2 s.heap l1 l2).get? (zD k1 k2 s.heap l1 l2).objs.size=some _:=D5 _ rfl;have g4:(zE k1 k2 s.heap l1 l2).get? (zC k1 k2 s.heap l1 l2).objs.size=some _:=A7 _ (D5 _ rfl);have g3:(zE k1 k2 s.heap l1 l2).get? (zB k1 k2 s.heap l1 l2).objs.size=some _:=A7 _ (A7 _ (D5 _ rfl));have g2:(zE k1 k2 s.heap l1 l2).get? (zA k1 s.heap l1).objs.size=some _:=u2 _ _ (D5 _ rfl);have g1:(zE k1 k2 s.heap l1 l2).get? s.heap.objs.size=some _:=u1 _ _ (D5 _ rfl);show _/\_;rw[z2,z3,z4]at g5;rw[z1,z2]at g3;rw[z3]at g4;rw[z1]at g2;rw[z4];exact⟨⟨_,g5,rfl⟩,h _ g5 g3 g4 ⟨_,g1,rfl,rfl⟩ ⟨_,g2,rfl,rfl⟩ λc o x=>u1 c o (A7 _ x)⟩
end
def SqK(k:Bool)(K:A1)(H:Hp)(l:Addr)(xs:a9):Prop:=cond k (SqT K H l xs) (SqL K H l xs)
section
variable{X:Cx}{ζ:ad}{O:St}{H:Hp}{s:B0}{l:Addr}{xs ys:a9}
theorem Inv.row(I:Inv X ζ O H s)(h:SqK k X.K H l xs):∃its:List Value,Vals xs its/\SQ k s.heap l its.toArray/\xs.length<=sizeLine:=by
 cases k with
 |false=>refine z12 (I.list h) λits r p z=>?_;exact⟨its,r,p.isList,z⟩
 |true=>refine z12 (I.tuple h) λits r p z=>?_;exact⟨its,r,p,z⟩
theorem Inv.row_inj(I:Inv X ζ O H s)(h:SqK k X.K H l xs)(h':SqK k X.K H l ys):xs=ys:=by
 cases k with
 |false=>exact I.list_inj h h'
 |true=>exact I.tuple_inj h h'
def Inv.turnedL{t':Nat}{fp:ao}{h':Heap}(I:Inv X ζ O H s)(k:∀b o,b∉fp->s.heap.get? b=some o->h'.get? b=some o)(hf:∀b∈fp,uU X ζ H b):Inv X ζ O H {s with heap:=h',toks:=t'}:=by
 have nit:∀b u,H b=some u->b∉fp:=λb u e z=>by rw[(hf b z).1]at e;cases e
 refine I.step (g':=s.gens) (d':=s.drawn) (ch:=fp) (λb hb=>?_) (λb o _ _ hc e _=>k b o hc e) (λb o _ _ hc e _=>⟨o.slots,k b o hc e⟩) (λ_ _ _ _ n=>n)
  (λb o hc e=>⟨o,k b o hc e⟩) (λ_ _ e=>e) (λ_ _ _ e=>e) (λb ps e=>⟨#[],by rw[e];simp⟩) (λm hm=>?_) (λb u e=>?_) I.bare
 . refine z05 (hf b hb) λ_ f1 _ f3 f4 f5=>?_;exact⟨f3,f1,f4,f5⟩
 . refine z31 hm λo es ep ho r=>?_;exact⟨o,es,ep,k _ o (λz=>(hf _ z).2.1 rfl) ho,r⟩
 . refine(I.hok b u e).stay (λc v hc q=>k c v ?_ q) (λ_ q=>q) λ_ _ q=>q;rcases hc with z|z
   . rw[z];exact nit b u e
   . exact nit c _ z
def Inv.paired{h':Heap}{t':Nat}{fp:ao}{x y:V}{u v:Value}(I:Inv X ζ O H s)(rx:RelV x u)(ry:RelV y v)(hf:∀b∈fp,uU X ζ H b)(hl:∀b∈fp,b<s.heap.objs.size)
 (hp:h'.get? s.heap.objs.size=some {cls:=.type "tuple",data:=.seq #[u,v]})(k:∀b o,b∉fp->s.heap.get? b=some o->h'.get? b=some o):
 Inv X ζ O (upd H s.heap.objs.size (.tup [x,y])) {s with heap:=h',toks:=t'}/\∀b∈fp,upd H s.heap.objs.size (.tup [x,y]) b=none:=by
 have I0:Inv X ζ O (upd H s.heap.objs.size (.tup [x,y])) {s with heap:=s.heap.push {cls:=.type "tuple",data:=.seq #[u,v]},toks:=t'}:=
  I.laid (λ_ _ q=>A7 _ q) (D4 _) ⟨(show(2:Nat)<=sizeLine by decide),[u,v],.cons rx (.cons ry .nil),⟨_,D5 _ rfl,rfl,_,rfl⟩⟩
 have hn:∀b∈fp,upd H s.heap.objs.size (.tup [x,y]) b=none:=λb hb=>by rw[cE (F8 (hl b hb))];exact(hf b hb).1
 refine⟨I0.turnedL (fp:=fp) (h':=h') (t':=t') (λb o hb e=>?_) λb hb=>⟨hn b hb,(hf b hb).2⟩,hn⟩;rcases Heap.get?_push_cases e with⟨rfl,rfl⟩|e
 . exact hp
 . exact k b o hb e
end
def Itz(K:A1)(k1 k2:Bool)(l1 l2:Addr):It:=
 ⟨λi H=>∃xs ys x y,SqK k1 K H l1 xs/\SqK k2 K H l2 ys/\xs[i]?=some x/\ys[i]?=some y,
  λi H v H'=>∃p,H p=none/\v=.ref p/\∀xs ys,SqK k1 K H l1 xs->SqK k2 K H l2 ys->∃x y,xs[i]?=some x/\ys[i]?=some y/\H'=upd H p (.tup [x,y]),
  λi H=>∃xs ys,SqK k1 K H l1 xs/\SqK k2 K H l2 ys/\(xs.length<=i\/ys.length<=i)⟩
def Ite(K:A1)(l:Addr):It:=
 ⟨λi H=>∃xs x,SqL K H l xs/\xs[i]?=some x,λi H v H'=>∃p,H p=none/\v=.ref p/\∀xs,SqL K H l xs->∃x,xs[i]?=some x/\H'=upd H p (.tup [.int i,x]),λi H=>∃xs,SqL K H l xs/\xs.length<=i⟩
def df6{P:E2}{w:World}{K:A1}{es:bj}{n:Nat}{pos:Pos}{k1 k2:Bool}{z TI TO i1 i2 l1 l2:Addr}(D:ZipApart z TI TO i1 i2 l1 l2):
 an4 P w K (.Tuple es n pos) (Itz K k1 k2 l1 l2) [z,TI,TO,i1,i2] z (λi h=>IsZip h z TI TO .none/\IsPair h TI (.ref i1) (.ref i2)/\(∃a b,IsPair h TO a b)/\SI k1 h i1 l1 i/\SI k2 h i2 l2 i) where
 mem:=Y1
 obj:=λi h st b hb=>by
  obtain⟨hz,hTI,⟨a,c,hTO⟩,n1,n2⟩:=st;simp only[B6,G9,O8]at hb;rcases hb with rfl|rfl|rfl|rfl|rfl
  . exact⟨_,hz,λv e=>nomatch e⟩
  . exact⟨_,hTI,λv e=>nomatch e⟩
  . exact⟨_,hTO,λv e=>nomatch e⟩
  . refine z12 n1 λo e _ d=>?_;exact⟨o,e,λv q=>by rw[d]at q;cases q⟩
  . refine z12 n2 λo e _ d=>?_;exact⟨o,e,λv q=>by rw[d]at q;cases q⟩
 keep:=λi h h' st k=>by obtain⟨hz,hTI,⟨a,c,hTO⟩,n1,n2⟩:=st;exact⟨k z Y1 _ hz,k TI Y1 _ hTI,⟨a,c,k TO Y1 _ hTO⟩,n1.at λo e=>k i1 Y1 o e,n2.at λo e=>k i2 Y1 o e⟩
 item:=by
  intro X hP hw hK hc i ζ s O H E I hf st hg;subst hP hw hK;obtain⟨hz,hTI,⟨a,b,hTO⟩,n1,n2⟩:=st;refine z43 hg λxs ys x y hq1 hq2 hx hy=>?_;refine z12 (I.row hq1) λits r1 p1 _=>?_;refine z12 (I.row hq2) λjts r2 p2 _=>?_;obtain⟨u,hu,ru⟩:=r1.get hx;obtain⟨v,hv,rv⟩:=r2.get hy;have hu:its.toArray[i]?=some u:=by simpa using hu
  have hv:jts.toArray[i]?=some v:=by simpa using hv
  refine co0 (I.ok.hd hc) D hz hTI hTO n1 n2 p1 p2 (λx y ex ey h' a1 a2 a3 a4 a5 kk=>?_) (λq=>?_)
  rotate_left
  . exfalso;rcases q with q|q
    . rw[hu]at q;cases q
    . rw[hv]at q;cases q
  rw[hu]at ex;rw[hv]at ey;cases ex;cases ey;refine⟨_,rfl,wpAny_letOwnedTupleGo_zip a1 λh2 b1 gg=>?_⟩;have lts:∀b∈[z,TI,TO,i1,i2],b<s.heap.objs.size:=λb hb=>by
   simp only[B6,G9,O8]at hb;rcases hb with rfl|rfl|rfl|rfl|rfl
   . exact D0 hz
   . exact D0 hTI
   . exact D0 hTO
   . obtain⟨o,e,_⟩:=n1;exact D0 e
   . obtain⟨o,e,_⟩:=n2;exact D0 e
  have zne:s.heap.objs.size≠z:=U9 (lts z Y1);obtain⟨I1,hn⟩:=I.paired (t':=s.toks) ru rv hf lts (gg.extBut _ _ zne a5) (λc o hc e=>gg.extBut _ _ (λq=>hc (by simp[q])) (kk c o (λq=>hc (by simp[q])) (λq=>hc (by simp[q])) (λq=>hc (by simp[q])) (λq=>hc (by simp[q])) e));refine⟨.ref s.heap.objs.size,_,I1,rfl,⟨_,I.fresh,rfl,λxs' ys' q1 q2=>⟨x,y,by rw[I.row_inj q1 hq1];exact hx,by rw[I.row_inj q2 hq2];exact hy,rfl⟩⟩,⟨b1,?_,⟨u,v,?_⟩,?_,?_⟩,hn⟩
  . exact gg.extBut _ _ D.TIz (kk _ _ D.TIz D.TITO D.TIi1 D.TIi2 hTI)
  . exact gg.extBut _ _ D.TOz a2
  . exact a3.at λo e=>gg.extBut _ _ D.i1z e
  . exact a4.at λo e=>gg.extBut _ _ D.i2z e
 done:=by
  intro X hP hw hK hc i ζ s O H E I hf st hg;subst hP hw hK;obtain⟨hz,hTI,⟨a,b,hTO⟩,n1,n2⟩:=st;refine z22 hg λxs ys hq1 hq2 hx=>?_;refine z12 (I.row hq1) λits r1 p1 _=>?_;refine z12 (I.row hq2) λjts r2 p2 _=>?_;have e1:=r1.length;have e2:=r2.length;refine co0 (I.ok.hd hc) D hz hTI hTO n1 n2 p1 p2 (λx y ex ey=>?_) (λ_ h' kk=>?_)
  . exfalso;rcases hx with q|q
    . rw[List.getElem?_toArray,O9 X8]at ex;cases ex
    . rw[List.getElem?_toArray,O9 X8]at ey;cases ey
  exact⟨rfl,I.turnedL (t':=s.toks) (λc o hc e=>kk c o (λq=>hc (by simp[q])) (λq=>hc (by simp[q])) (λq=>hc (by simp[q])) (λq=>hc (by simp[q])) e) hf⟩
 self:=λ_ _ _ _ _ st h=>wpAny_pyIter_zip st.1 h
def db1{P:E2}{w:World}{K:A1}{es:bj}{n:Nat}{pos:Pos}{e it l:Addr}(ne:e≠it):
 an4 P w K (.Tuple es n pos) (Ite K l) [e,it] e (λi h=>(∃old,IsEnum h e it (i:Nat) old)/\h.IsListIter it l i) where
 mem:=Y1
 obj:=λi h st b hb=>by
  obtain⟨⟨old,he⟩,n1⟩:=st;simp only[B6,G9,O8]at hb;rcases hb with rfl|rfl
  . exact⟨_,he,λv q=>nomatch q⟩
  . refine z12 n1 λo e _ d=>?_;exact⟨o,e,λv q=>by rw[d]at q;cases q⟩
 keep:=λi h h' st k=>by obtain⟨⟨old,he⟩,n1⟩:=st;exact⟨⟨old,k e Y1 _ he⟩,n1.at λo q=>k it Y1 o q⟩
 item:=by
  intro X hP hw hK hc i ζ s O H E I hf st hg;subst hP hw hK;obtain⟨⟨old,he⟩,n1⟩:=st;refine z21 hg λxs x hq hx=>?_;refine z12 (I.list hq) λits r1 p1 _=>?_;obtain⟨u,hu,ru⟩:=r1.get hx;refine wpAny_pyNext_enum_item he n1 p1.isList (x:=u) (by simpa using hu) ne λh' a1 a2 a3 a4 kk=>⟨_,rfl,wpAny_letOwnedTupleGo_enum a1 λh2 b1 gg=>?_⟩;have lts:∀b∈[e,it],b<s.heap.objs.size:=λb hb=>by
   simp only[B6,G9,O8]at hb;rcases hb with rfl|rfl
   . exact D0 he
   . obtain⟨o,e,_⟩:=n1;exact D0 e
  have zne:s.heap.objs.size≠e:=U9 (lts e Y1);obtain⟨I1,hn⟩:=I.paired (t':=s.toks+1) (x:=.int (i:Nat)) (u:=.int (i:Nat) s.toks) ⟨_,rfl⟩ ru hf lts (gg.extBut _ _ zne a3) (λc o hc q=>gg.extBut _ _ (λz=>hc (by simp[z])) (kk c o (λz=>hc (by simp[z])) (λz=>hc (by simp[z])) q));exact⟨.ref s.heap.objs.size,_,I1,rfl,⟨_,I.fresh,rfl,λxs' q1=>⟨x,by rw[I.list_inj q1 hq];exact hx,rfl⟩⟩,⟨⟨u,b1⟩,a2.at λo q=>gg.extBut _ _ (N8 ne) q⟩,hn⟩
 done:=by intro X hP hw hK hc i ζ s O H E I hf st hg;subst hP hw hK;obtain⟨⟨old,he⟩,n1⟩:=st;obtain⟨xs,hq,hx⟩:=hg;refine z12 (I.list hq) λits r1 p1 _=>?_;have e1:=r1.length;obtain⟨f0,f1,f2,f3,f4,f5⟩:=hf it Y1;exact wpAny_pyNext_enum_end (I.ok.hd hc) he n1 p1.isList (by simp;omega) λh' eb=>⟨rfl,I.turned (t':=s.toks) (λb o hb q=>eb b o hb q) f0 f1 f3 f4 f5⟩
 self:=λ_ _ _ _ _ st h=>by obtain⟨⟨old,he⟩,_⟩:=st;exact wpAny_pyIter_enum he h
def dr6:bootBuiltins "zip"=some (.type "zip"):=X9
def ca9:bootBuiltins "enumerate"=some (.type "enumerate"):=X9
section
variable{X:Cx}
def dj3(K:A1)(ta:TA):TI:=λO H R=>ta O H λvs H1=>∃k1 k2 l1 l2,vs=[.ref l1,.ref l2]/\(∃xs,SqK k1 K H1 l1 xs)/\(∃ys,SqK k2 K H1 l2 ys)/\R (Itz K k1 k2 l1 l2) H1
def ce6(K:A1)(ta:TA):TI:=λO H R=>ta O H λvs H1=>∃l,vs=[.ref l]/\(∃xs,SqL K H1 l xs)/\R (Ite K l) H1
theorem eo9{es:bj}{n:Nat}{tpos:Pos}{a b:Expr}{ta:TA}{p pos:Pos}(hg:Gl X "zip")(hm:X.mg "zip"=none)(ha:PA X [a,b] ta)(hs:autoParam (starEach [a,b] X.env=[(false,eval a X.env),(false,eval b X.env)]) Z8)(hs2:autoParam (starEach [b] X.env=[(false,eval b X.env)]) Z8):
 PI X (.Tuple es n tpos) (.Call (.Name "zip" p) [a,b] [] pos) (dj3 X.K ta):=by
 intro ζ s O H R I h;refine Call_ (oM I hg hm dr6 (J9 (wP (ha ζ s O H _ I h) λus s1 vs H1 I1 r1 q1=>?_) (by rw[hs,hs2]) (by rw[hs2];rfl)));obtain⟨k1,k2,l1,l2,e,⟨xs,hq1⟩,⟨ys,hq2⟩,q⟩:=q1;subst e;cases r1 with
 |cons r rr=>
  cases rr with
  |cons r' rr=>
   cases rr;cases r;cases r';refine z12 (I1.row hq1) λits r1 p1 _=>?_;refine z12 (I1.row hq2) λjts r2 p2 _=>?_;refine dm4 p1 p2 λh' a1 a2 a3 a4 a5 kk=>wpAny_pyIter_zip a1 ?_;have c1:l1<s1.heap.objs.size:=by obtain⟨_,z,_⟩:=p1;exact D0 z
   have c2:l2<s1.heap.objs.size:=by obtain⟨_,z,_⟩:=p2;exact D0 z
   refine⟨_,_,_,_,H1,rfl,I1.kept (t':=s1.toks) kk,df6 (zipApart_new c1 c2),⟨a1,a2,⟨_,_,a3⟩,a4,a5⟩,λc hc=>?_,q⟩;have le:s1.heap.objs.size<=c:=by simp only[B6,G9,O8]at hc;rcases hc with rfl|rfl|rfl|rfl|rfl<;>omega
   exact I1.fpOk le (I1.hok.fresh le)
theorem en1{es:bj}{n:Nat}{tpos:Pos}{a:Expr}{ta:TA}{p pos:Pos}(hg:Gl X "enumerate")(hm:X.mg "enumerate"=none)(ha:PA X [a] ta)(hs:autoParam (starEach [a] X.env=[(false,eval a X.env)]) Z8):
 PI X (.Tuple es n tpos) (.Call (.Name "enumerate" p) [a] [] pos) (ce6 X.K ta):=by
 intro ζ s O H R I h;refine Call_ (oM I hg hm ca9 (J9 (wP (ha ζ s O H _ I h) λus s1 vs H1 I1 r1 q1=>?_) hs rfl));obtain⟨l,e,⟨xs,hq1⟩,q⟩:=q1;subst e;cases r1 with
 |cons r rr=>
  cases rr;cases r;refine z12 (I1.list hq1) λits r1 p1 _=>?_;refine call_enumerate_list p1.isList λh' a1 a2 a3 kk=>wpAny_pyIter_enum a1 ?_;refine⟨_,_,_,_,H1,rfl,I1.kept (t':=s1.toks) kk,db1 (e:=s1.heap.objs.size+1) (it:=s1.heap.objs.size) (Nat.succ_ne_self _),⟨⟨_,a1⟩,a2⟩,λc hc=>?_,q⟩;have le:s1.heap.objs.size<=c:=by simp only[B6,G9,O8]at hc;rcases hc with rfl|rfl<;>omega
  exact I1.fpOk le (I1.hok.fresh le)
end
noncomputable def vI(O:am)(x:Str):List Str:=if O.any (· ==x)=true then O else O++[x]
def mQ(val:Nat->Str)(i:Nat):List Str:=((List.range i).map val).foldl vI []
def al3(val:Nat->Str)(i:Nat):mQ val (i+1)=vI (mQ val i) (val i):=by unfold mQ;rw[Q9,F7,List.foldl_append];rfl
theorem bb8(val:Nat->Str):∀i,(mQ val i).length<=i
 |0=>D4 _
 |i+1=>by
  rw[al3];unfold vI;have ih:=bb8 val i;split
  . omega
  . simp;omega
def dk2(O:am)(v k:Str):(vI O v).any (· ==k)=(O.any (· ==k)||decide (k=v)):=by
 unfold vI;by_cases h:O.any (· ==v)=true
 . rw[C7 h];by_cases e:k=v
   . subst e;rw[h];simp
   . simp[e]
 . rw[D3 h,List.any_append];by_cases e:k=v
   . subst e;simp
   . have hb:(v==k)=false:=by simpa using(λh':v=k=>e h'.symm)
     simp[hb,e]
def da2(O:am)(v:Str):(vI O v).length=if O.any (· ==v)then O.length else O.length+1:=by unfold vI;split<;>simp
section
variable{prog:E2}{w:World}{A:G0}{R:Result->B0->Prop}{I:Addr}{fp wr:ao}{G:Array GenState->Array GenState->Prop}{n:Nat}{P:Nat->Value->Prop}{St:Nat->B0->Prop}
theorem dw4(W:WalksS prog w A.in1 I fp wr G n P St)(S:Addr)(hS:S∉fp)(val:Nat->Str)(hval:∀i v,P i v->∃t,v=.str (val i) t)(hb:n+1<scanBound):
 ∀(k i:Nat)(s:B0),n-i=k->i<=n->St i s->s.heap.SetOf (strKind prog w) S (λx=>(mQ val i).any (· ==x)) (mQ val i).length->
  (∀s',Moved (S::wr) G s s'->s'.heap.SetOf (strKind prog w) S (λx=>(mQ val n).any (· ==x)) (mQ val n).length->R (.ok (.ret .none)) s')->
  codeAny (model prog w) A (.builtin "set.update.loop" ⟨[.ref S,.ref I],[]⟩) R s:=by
 have hw:S∉wr:=λh=>hS (W.sub _ h);have sub:∀b∈wr,b∈S::wr:=λb hb=>A5 _ hb;intro k;induction k with
 |zero=>
  intro i s hk hi st hs hR;obtain rfl:i=n:=X8
  refine codeAny_builtin PyProof.Rows.F.entry_set_update_loop ?_;rw[Around.under_plainId Q5 _]
  (show wpAny _ A.in1 (pyNext (.ref I)>>=_) _ _ s);refine A3 (W.done s _ _ st λs' hm=>?_)
  (show wpAny _ A.in1 (ret Value.none) _ _ s');refine C5 (hR s' (hm.mono sub) ?_)
  refine z41 hs λo es ep t ho r=>?_;exact⟨o,es,ep,t,hm.heap S _ hw ho,r⟩
 |succ k ih=>
  intro i s hk hi st hs hR;have lt:i<n:=X8
  refine codeAny_builtin PyProof.Rows.F.entry_set_update_loop ?_;rw[Around.under_plainId Q5 _]
  (show wpAny _ A.in1 (pyNext (.ref I)>>=_) _ _ s);refine A3 (W.item i s _ _ lt st λv s' hP st' hm=>?_)
  obtain⟨t,rfl⟩:=hval i v hP;have hs':s'.heap.SetOf (strKind prog w) S (λx=>(mQ val i).any (· ==x)) (mQ val i).length:=by refine z41 hs λo es ep tb ho r=>?_;exact⟨o,es,ep,tb,hm.heap S _ hw ho,r⟩
  (show wpAny _ A.in1 (holding [Value.str (val i) t] (setAdd S (.str (val i) t))>>=_) _ _ s');refine A3 (Q0 ?_);unfold setAdd
  refine Q0 ?_;refine A3 ((strKind prog w).pyHash (k:=val i) (strKind_is _ _ _ _) ?_);have room:(mQ val i).length+1<scanBound:=by have:=bb8 val i;omega
  refine wpAny_setAddHashed_of (knd:=strKind prog w) (s:={s' with toks:=s'.toks+1}) (strKind_is _ _ _ _) rfl hs' room λh' hsb hS2=>?_;have hi':h'.SetOf (strKind prog w) S (λx=>(mQ val (i+1)).any (· ==x)) (mQ val (i+1)).length:=SetOf_congr hS2 (λx=>by rw[al3,dk2]) (by rw[al3,da2]);refine C5 ⟨plainId_quiet Q5 _,ih (i+1) _ X8 lt (W.frame _ s' _ _ st' (Nat.le_succ _) λb hb o e=>?_) hi' λs'' hm'' hS''=>?_⟩
  . exact(hsb.2 b (λh:b=S=>hS (by rw[<-h];exact hb))).trans e
  . refine hR s'' (Moved.trans W.gtrans ((hm.mono sub).then_heap (Nat.le_succ _) λb o hb e=>?_) hm'') hS'';exact(hsb.2 b (λh:b=S=>hb (by rw[h];exact A9))).trans e
end
section
variable{prog:E2}{w:World}{A:G0}{E:ag}{s:B0}
noncomputable abbrev mY(led:Bool):Obj:={cls:=.type "set",dict:=none,data:=.set #[] 0 (.fresh 0 0 led)}
set_option maxHeartbeats 3200000 in
theorem by5(hh:A.handled=none)(hl:s.heap.IsList l us)(hv:∀(i:Nat) v,us[i]?=some v->∃t,v=.str (val i) t)(hb:us.size+1<scanBound)
 (h:∀(h':Heap)(tk:Nat),h'.SetOf (strKind prog w) s.heap.objs.size (λx=>(mQ val us.size).any (· ==x)) (mQ val us.size).length->(∀b o,b<s.heap.objs.size->s.heap.get? b=some o->h'.get? b=some o)->Q (.ref s.heap.objs.size) {s with heap:=h',toks:=tk}):
 wpAny (model prog w) A (call (.type "set") [.ref l]) Q E s:=by
 obtain⟨c,tl,hmro⟩:=M5.mro;have hmade:=M5.made;have hsub:=M5.sub;refine wpAny_call (codeAny_of_tree ?_);(show wpAny _ _ (callAny (.type "set") _) _ _ _)
 refine C5 ⟨Code.quiet_builtin _ X9,codeAny_builtin PySem.F.entry_type_call ?_⟩;rw[Around.under_plain (weight_type_call_type "set" [.ref l] []) rfl];have h1:=M5.notType;have h2:=M5.canCreate;have hct:=PySem.F.typeCall_set_1 (.ref l)
 (repeat(any_goals(first|assumption|wp_step)))
 refine R3 (code_set_new_1 (.ref l) (E:=E) (Q₁:=λobj s₁=>∃led:Bool,obj=.ref s.heap.objs.size/\s₁={s with heap:=s.heap.push (mY led)}) λled=>⟨led,rfl,rfl⟩) λr s₁ hr=>?_;cases r with
 |error e=>exact hr
 |ok fl=>
  cases fl with
  |ret obj=>
   obtain⟨led,rfl,rfl⟩:=hr;have hS:(s.heap.push (mY led)).get? s.heap.objs.size=some (mY led):=D5 _ rfl;have hT:Shared.TypeIs {s with heap:=s.heap.push (mY led)} (.ref s.heap.objs.size) "set":=⟨_,hS,rfl⟩;have hli:=M5.init.lookup;have hbi:=M5.init.bind (.ref s.heap.objs.size)
   (repeat(any_goals(first|assumption|wp_step)))
   refine R3 (codeAny_call_builtin (R:=wants (λr s₂=>r=.none/\∃h' tk,s₂={s with heap:=h',toks:=tk}/\h'.SetOf (strKind prog w) s.heap.objs.size (λx=>(mQ val us.size).any (· ==x)) (mQ val us.size).length/\
    (∀b o,b<s.heap.objs.size->s.heap.get? b=some o->h'.get? b=some o)) E) M5.init.plain PySem.F.entry_set_init (check_set_init_1 hT ?_)) λr₂ s₂ hr₂=>?_
   . obtain⟨ol,hol,hcl,nl,hdl⟩:=hl;obtain⟨ocls,odict,odata,oslots⟩:=ol;simp only at hcl hdl;subst hcl;subst hdl;have hol':(s.heap.push (mY led)).get? l=some {cls:=.type "list",dict:=odict,data:=.seq us nl,slots:=oslots}:=A7 _ hol;have hsls:=PySem.F.sub_list_set;have hslf:=PySem.F.sub_list_frozenset;have hne:(Value.type "list"==Value.type "dict")=false:=Y2
     have hl1:(s.heap.push (mY led)).IsList l us:=⟨_,hol',rfl,nl,rfl⟩;unfold Builtin.«set.__init__» noKeywords Builtin.Frozenset.updateFrom;generalize hPI:pyIter=PI;wp_walk;subst hPI
     refine U2 hl1 ?_;refine A3 (wpAny_runValue ?_);have hlS:l<s.heap.objs.size:=D0 hol;have hh3:A.in1.in1.in1.handled=none:=by simp[hh]
     have hneI:l≠(s.heap.push (mY led)).objs.size:=by rw[N1];exact F8 (Nat.lt_succ_of_lt hlS)
     have hSf:s.heap.objs.size∉[(s.heap.push (mY led)).objs.size,l]:=by rw[N1];simp only[B6,G9,O8,not_or];exact⟨F8 (Q1 _),U9 hlS⟩
     refine dw4 ((Walks.list hh3 _ l hneI us).toS) s.heap.objs.size hSf val hv hb (us.size-0) 0 _ X8 (R7 _) ⟨⟨_,D5 _ rfl,rfl,rfl⟩,(hl1.push _)⟩ ?hS0 ?hR;case hS0=>exact SetOf_congr ((setObjOf_fresh (knd:=strKind prog w) led).setOf (A7 _ hS) (by unfold scanBound;omega)) Ao8 rfl
     case hR=>
      intro s' hm hS';obtain⟨h',g',d',tk',os'⟩:=s';obtain rfl:g'=s.gens:=hm.gens;obtain rfl:d'=s.drawn:=hm.drawn;obtain rfl:os'=s.os:=hm.os
      (show wpAny _ _ _ _ _ _);refine C5 ?_;(show wpAny _ _ (ret Value.none) _ _ _)
      refine C5 ⟨rfl,h',tk',rfl,hS',λb o hb e=>?_⟩;have hb2:b≠(s.heap.push (mY led)).objs.size:=by rw[N1];exact F8 (Nat.lt_succ_of_lt hb)
      exact hm.heap b o (by simp only[B6,G9,O8,not_or];exact⟨F8 hb,hb2⟩) (A7 _ (A7 _ e))
   . cases r₂ with
     |error e=>exact hr₂
     |ok fl₂=>
      cases fl₂ with
      |ret r=>
       obtain⟨rfl,h',tk,rfl,hS',hk'⟩:=hr₂
       (repeat(any_goals(first|assumption|wp_step)))
       exact h _ _ hS' hk'
      |_=>exact hr₂
  |_=>exact hr
end
noncomputable def dkA(h:Heap)(a:Addr):Option (Option Addr):=(h.objs[a]?).map (·.dict)
def KD(h h':Heap):Prop:=∀a d,dkA h a=some d->dkA h' a=some d
def KD.refl(h:Heap):KD h h:=λ_ _ e=>e
def KD.trans(x:KD a b)(y:KD b c):KD a c:=λp d e=>y p d (x p d e)
theorem KD.at(k:KD h h')(e:h.get? a=some o)(e':h'.get? a=some o'):o'.dict=o.dict:=by
 have h1:dkA h a=some o.dict:=by unfold dkA;rw[(Heap.get?_some_iff.mp e).1];rfl
 have h2:dkA h' a=some o'.dict:=by unfold dkA;rw[(Heap.get?_some_iff.mp e').1];rfl
 rw[k a _ h1]at h2;exact(E9 h2).symm
theorem KD.push(h:Heap)(o:Obj):KD h (h.push o):=λa d e=>by
 unfold dkA at*;show((h.objs.push o)[a]?).map _=_;have lt:a<h.objs.size:=by
  cases q:h.objs[a]? with
  |none=>rw[q]at e;cases e
  |some x=>exact(V3.mp q).1
 rw[Array.getElem?_push_lt lt,<-e,Array.getElem?_eq_getElem lt]
def KD.upd(h:Heap)(b:Addr)(hf:∀o,(f o).dict=o.dict):KD h (h.update b f):=λa d e=>by
 unfold dkA at*;show((h.objs.modify b f)[a]?).map _=_;rw[Array.getElem?_modify];by_cases q:b=a
 . subst q;rw[C7 rfl];cases z:h.objs[b]? with
   |none=>rw[z]at e;cases e
   |some x=>rw[z]at e;rw[<-e];exact N4 some (hf x)
 . rw[D3 q];exact e
def Dk{α:Type}:Sem α->Prop
 |.pure _=>True
 |.raise _=>True
 |.unsupported _=>True
 |.finish _=>True
 |.register _ _=>True
 |.rule _ k=>Dk (k ())
 |.at _ k=>Dk (k ())
 |.load _ _ k=>∀o,Dk (k o)
 |.update _ _ f k=>(∀o,(f o).dict=o.dict)/\Dk (k ())
 |.loadIfAlive _ k=>∀o,Dk (k o)
 |.point _ k=>Dk (k ())
 |.alloc _ k=>∀a,Dk (k a)
 |.fresh k=>∀a,Dk (k a)
 |.ask k=>∀a,Dk (k a)
 |.handled _ k=>∀a,Dk (k a)
 |.stack k=>∀a,Dk (k a)
 |.thread k=>∀a,Dk (k a)
 |_=>False
theorem fo3{Γ:PySem.Ctx}:∀(t:Sem α)(p:Pos)(s:B0),Dk t->KD h0 s.heap->Sem.wp M Γ t Q E p s->
 Sem.wp M Γ t (λa p' s'=>Q a p' s'/\KD h0 s'.heap) (λe p' s'=>E e p' s'/\KD h0 s'.heap) p s:=by
 intro t;induction t with
 |pure a=>intro p s _ k h;simp only[Sem.wp]at h⊢;exact⟨h,k⟩
 |raise e=>intro p s _ k h;simp only[Sem.wp]at h⊢;exact⟨h,k⟩
 |unsupported w=>intro p s _ k h;simp only[Sem.wp]at h
 |finish e=>intro p s _ k h;simp only[Sem.wp]at h
 |register e=>intro p s _ k h;simp only[Sem.wp]at h
 |rule _ k ih=>intro p s d k h;simp only[Sem.wp]at h⊢;exact ih () p s d k h
 |«at» _ k ih=>intro p s d k h;simp only[Sem.wp]at h⊢;exact ih () _ s d k h
 |load a _ k ih=>intro p s d k h;simp only[Sem.wp]at h⊢;obtain⟨o,e,h⟩:=h;exact⟨o,e,ih o p s (d o) k h⟩
 |update a _ f k ih=>intro p s d k h;simp only[Sem.wp]at h⊢;exact⟨h.1,ih () p _ d.2 (k.trans (KD.upd _ _ d.1)) h.2⟩
 |loadIfAlive a k ih=>intro p s d k h;simp only[Sem.wp]at h⊢;exact ih _ p s (d _) k h
 |point _ k ih=>intro p s d k h;simp only[Sem.wp]at h⊢;exact ih () p s d k h
 |alloc o k ih=>intro p s d k h;simp only[Sem.wp]at h⊢;exact ih _ p _ (d _) (k.trans (KD.push _ _)) h
 |fresh k ih=>intro p s d k h;simp only[Sem.wp]at h⊢;exact ih _ p _ (d _) k h
 |ask k ih=>intro p s d k h;simp only[Sem.wp]at h⊢;exact ih _ p _ (d _) k h
 |handled _ k ih=>intro p s d k h;simp only[Sem.wp]at h⊢;exact ih _ p _ (d _) k h
 |stack k ih=>intro p s d k h;simp only[Sem.wp]at h⊢;exact ih _ p _ (d _) k h
 |thread k ih=>intro p s d k h;simp only[Sem.wp]at h⊢;exact ih _ p _ (d _) k h
 |_=>intro p s d;exact d.elim
def ae5(d:Dk t)(h:wpAny M A t Q E s):
 wpAny M A t (λa s'=>Q a s'/\KD s.heap s'.heap) E s:=λΓ p hΓ=>Sem.wp_mono M Γ t (λ_ _ _ z=>z) (λ_ _ _ z=>z.1) p s (fo3 t p s d (KD.refl _) (h Γ p hΓ))
theorem uW(hm:Dk m)(hf:∀a,Dk (f a)):Dk (m>>=f):=by
 show Dk (m.bind f);induction m with
 |pure a=>exact hf a
 |raise e=>trivial
 |unsupported w=>trivial
 |finish e=>trivial
 |register e=>trivial
 |rule _ k ih=>exact ih () hm
 |«at» _ k ih=>exact ih () hm
 |load a _ k ih=>exact λo=>ih o (hm o)
 |update a _ g k ih=>exact⟨hm.1,ih () hm.2⟩
 |loadIfAlive a k ih=>exact λo=>ih o (hm o)
 |point _ k ih=>exact ih () hm
 |alloc o k ih=>exact λo=>ih o (hm o)
 |fresh k ih=>exact λo=>ih o (hm o)
 |ask k ih=>exact λo=>ih o (hm o)
 |handled _ k ih=>exact λo=>ih o (hm o)
 |stack k ih=>exact λo=>ih o (hm o)
 |thread k ih=>exact λo=>ih o (hm o)
 |_=>exact hm.elim
def ah0(a:α):Dk (pure a:Sem α):=trivial
def aq8(w:String):Dk (unsupported w:Sem α):=trivial
def at5(a:Addr):Dk (load a):=λ_=>trivial
def aq7(v:Value)(i:Nat):Dk (field v i):=by
 unfold field fieldsOf
 repeat' first|exact ah0 _|exact aq8 _|exact at5 _|exact do7 _ _|refine uW ?_ λ_=>?_|split
def de6(f:Array Value->Array Value)(o:Obj):(Obj.mapFields f o).dict=o.dict:=by obtain⟨c,d,dt,sl⟩:=o;cases dt<;>rfl
def dw0(v:Value)(i:Nat)(x:Value):Dk (setField v i x):=by
 unfold setField updateField
 repeat' first|exact ah0 _|exact aq8 _|exact at5 _|exact do7 _ _|exact⟨de6 _,trivial⟩|refine uW ?_ λ_=>?_|split
def ay3(e:Value)(f:bb):Dk (setFlight e f):=by
 unfold setFlight
 repeat' first|exact ah0 _|exact aq7 _ _|exact dw0 _ _ _|refine uW ?_ λ_=>?_|split
def cx0:Dk underTheClaimsCaller:=by unfold underTheClaimsCaller;exact uW (λ_=>trivial) λ_=>trivial
theorem cn0:∀l:List Env,Dk (readyFrames l)
 |[]=>trivial
 |env::outer=>by
  have ih:=cn0 outer;unfold readyFrames behindIsImport keptBack
  repeat' first|exact ih|exact ah0 _|exact aq8 _|exact at5 _|exact aq7 _ _|exact cx0|exact⟨λ_=>rfl,trivial⟩|refine uW ?_ λ_=>?_|split
def cx4(e:Value)(env:Env):Dk (noteFrame e env):=by
 unfold noteFrame EntryCells.newEntry newFields newObj newObjAsIs PySem.frameOf frameObject frameEnvs entryPlaceOf
 repeat' first|exact ah0 _|exact aq8 _|exact at5 _|exact aq7 _ _|exact dw0 _ _ _|exact cn0 _|exact cx0|exact(λ_=>trivial)|exact trivial|refine uW ?_ λ_=>?_|split
def aa9(env:Env)(e:Value):Dk (leaving env e):=uW (cx4 e env) λ_=>ay3 e none
structure Fly (P:E2) (w:World) (outer:bg) (H:Hp) (s:B0) (C:Addr) (dx:bb) (H':Hp) (ea:Addr) (s':B0):Prop where
 os:s'.os=s.os
 bare:AllBare s'.gens
 un:Un (pT outer) [] H H' s.heap s'.heap
 hok:HOk P w H' s'.heap
 free:H' ea=none
 dict:∃o,s'.heap.get? ea=some o/\o.dict=dx
 air:∃a0 B,Heap.FlyingW B outer ea (.ref C) a0 s'.heap/\(∀b o,s.heap.get? b=some o->b∉pT outer->∃o',B.get? b=some o')/\∀b u,H' b=some u->∃o,B.get? b=some o
def CX1(P:E2)(w:World):xQ:=λouter H s E e s'=>∃ea C dx H',e=.ref ea/\Fly P w outer H s C dx H' ea s'/\E (.ref C) dx H'
section
variable{X:Cx}{ζ:ad}{O:St}{H H':Hp}{s s2:B0}{B h3:Heap}{ea C:Addr}{a0:Value}{dx:bb}
theorem ObjOk.there(x:ObjOk P w H h a o):∃u,h.get? a=some u:=by
 cases o with
 |lst xs=>obtain⟨_,_,_,_,e⟩:=x;exact⟨_,e⟩
 |tup xs=>obtain⟨_,_,_,ob,e,_⟩:=x;exact⟨_,e⟩
 |set S n=>refine z41 x λo _ _ _ e _=>?_;exact⟨_,e⟩
 |ins C dx fs=>refine z04 x λ_ _ _ e _=>?_;exact⟨_,e⟩
 |own y=>exact x
 |xd fs=>obtain⟨_,⟨_,_,_,e,_⟩,_⟩:=x;exact⟨_,e⟩
 |rng lo hi=>obtain⟨_,_,_,e⟩:=x;exact⟨_,e⟩
 |frz ob u=>obtain⟨e,_⟩:=x;exact⟨_,e⟩
 |tbl ps=>exact⟨_,(show h.get? a=some _ from x)⟩
 |met f y=>exact⟨_,(show h.get? a=some _ from x)⟩
 |ext φ=>obtain⟨_,e,_⟩:=x;exact e
 |_=>obtain⟨_,_,_,_,o,_,_,e,_⟩:=x;exact⟨_,e⟩
def HOk.based(x:HOk P w H h)(hB:B.StaysIn h)(hB':B.StaysIn h')(c:∀b u,H b=some u->∃o,B.get? b=some o):HOk P w H h':=λa o e=>
 (x a o e).stay (λb u hb q=>by
  obtain⟨ob,eb⟩:∃ob,B.get? b=some ob:=by
   rcases hb with rfl|hb
   . exact c b o e
   . exact c b _ hb
  have:=hB b ob eb;rw[q]at this;cases this;exact hB' b _ eb) (λ_ q=>q) (λ_ _ q=>q)
def Inv.ne_loc(I:Inv X ζ O H s)(e:X.s₀.heap.get? b=some o):b≠X.env.locals:=λz=>by have h1:=D0 e;have h2:=I.ok.above;rw[z]at h1;exact D8 (E5 h1 h2) (N3 _)
def dh1(I:Inv X ζ O H' s2)(hex:X.ex=[])(hB2:B.StaysIn s2.heap)(hfl:Heap.FlyingW B X.outer ea (.ref C) a0 h3)(hup:s2.heap.UpToSlots h3)(hea:H' ea=none)(hdx:∃o,h3.get? ea=some o/\o.dict=dx)
 (c1:∀b o,X.s₀.heap.get? b=some o->b∉X.fs->∃o',B.get? b=some o')(c2:∀b u,H' b=some u->∃o,B.get? b=some o):Fly X.prog X.w X.outer X.H₀ X.s₀ C dx H' ea {s2 with heap:=h3}:=by
 have nx:∀b:Addr,b∉X.ex:=λb=>by rw[hex];simp
 have slot:∀b o,X.s₀.heap.get? b=some o->X.H₀ b=none->b∈X.fs->∃sl,h3.get? b=some {o with slots:=sl}:=λb o e n hb=>by obtain⟨sl,e1⟩:=I.base.slot b o e n hb (nx b);obtain⟨_,o',ho',hnf⟩:=I.ok.funs.mem hb;rw[e]at ho';cases ho';obtain⟨sl',e2⟩:=hup b _ e1 hnf;exact⟨sl',e2⟩
 refine⟨I.os,I.bare,⟨λb o e n hb _=>?_,λb o e n hb _=>slot b o e n hb,λb o e n _=>I.base.free b o e n (nx b),λb o e _=>?_,I.base.tups,I.base.frzs,I.base.tbls⟩,HOk.based I.hok hB2 hfl.1 c2,hea,hdx,a0,B,hfl,c1,c2⟩
 . obtain⟨o',eb⟩:=c1 b o e hb;have e1:=I.base.keep b o e n hb (nx b);have:=hB2 b o' eb;rw[e1]at this;cases this;exact hfl.1 b _ eb
 . by_cases hb:b∈X.fs
   . obtain⟨_,o',ho',_⟩:=hfl.2.2.1.mem hb;exact⟨o',ho'⟩
   . obtain⟨o',eb⟩:=c1 b o e hb;exact⟨o',hfl.1 b _ eb⟩
def cn9(I:Inv X ζ O H1 s1)(hA:A.frames=some (X.env::X.outer))(hex:X.ex=[])(hst:X.stack=X.env::X.outer)(hfr:X.env.frame=some X.env.locals)
 (F:Fly X.prog X.w X.stack H1 s1 C dx H' ea s2):wpAny M A (leaving X.env (.ref ea)) (λ_ s3=>Fly X.prog X.w X.outer X.H₀ X.s₀ C dx H' ea s3) E s2:=by
 refine z22 F.air λa0 B hfl c1 c2=>?_;obtain⟨oe,he,hd⟩:=F.dict;have I2:Inv X ζ O H' s2:=I.call' (ch:=[]) F.os F.un F.hok F.bare (λb z=>D8 z Y1);rw[hst]at hfl;refine J1 (ae5 (aa9 _ _) (wpAny_leaves_onW (Q:=λ_ s3=>Heap.FlyingW B X.outer ea (.ref C) a0 s3.heap/\s2.heap.UpToSlots s3.heap/\s3={s2 with heap:=s3.heap}) hA hfr hfl λh' x1 x2=>⟨x1,x2,rfl⟩)) (λ_ s3 ⟨⟨x1,x2,x3⟩,kd⟩=>?_) λ_ _ z=>z;rw[x3];refine dh1 I2 hex hfl.1 x1 x2 F.free ?_ (λb o e hb=>?_) c2
 . obtain⟨o3,h3,_⟩:=x1.there;exact⟨o3,h3,(kd.at he h3).trans hd⟩
 obtain⟨o',e1⟩:=I.base.there b o e (by rw[hex];simp);refine c1 b o' e1 λhm=>?_;rcases B6.mp (I.stkSub b hm)with z|z
 . exact I.ne_loc e z
 . exact hb z
def cv6(h:Heap)(e C:Addr)(dx:bb):Prop:=∃oe vs a0,h.get? e=some oe/\oe.cls=.ref C/\oe.dict=dx/\oe.data=.fields vs/\vs[1]?=some Value.none/\vs[0]?=some a0
def dp2(I:Inv X ζ O H' s2)(hA:A.frames=some (X.env::X.outer))(hex:X.ex=[])(hst:X.stack=X.env::X.outer)(hfr:X.env.frame=some X.env.locals)
 (hea:H' ea=none)(h0:X.s₀.heap.get? ea=none)(hx:cv6 s2.heap ea C dx):wpAny M A (leaving X.env (.ref ea)) (λ_ s3=>Fly X.prog X.w X.outer X.H₀ X.s₀ C dx H' ea s3) E s2:=by
 refine z35 hx λoe vs a0 he hc hd hda h1 hv0=>?_;let B:=PySem.W.hideAll s2.heap (ea::pT X.stack);have hBh:B.StaysIn s2.heap:=λb o q=>PySem.W.of_hideAll _ q;have hB:∀b o,s2.heap.get? b=some o->b∉ea::pT X.stack->B.get? b=some o:=λb o q n=>PySem.W.hideAll_get _ q n;have hBe:B.get? ea=none:=PySem.W.hideAll_none _ A9;have hfun:s2.heap.FunFrames B (X.env::X.outer):=by have:=PySem.W.funFrames_hide (as:=ea::pT X.stack) I.stack (λenv he b hb=>A5 _ (List.mem_filterMap.mpr ⟨env,he,hb⟩));rw[<-hst];exact this
 refine J1 (ae5 (aa9 _ _) (wpAny_leaving_firstW (Q:=λ_ s3=>Heap.FlyingW B X.outer ea (.ref C) a0 s3.heap/\s2.heap.UpToSlots s3.heap/\s3={s2 with heap:=s3.heap}) hA hfun hfr he hBh hBe hda h1 hv0 λh' ⟨k1,k2,k3,k4⟩=>⟨⟨k1,hBe,k2.2.2,hc▸k3⟩,k4,rfl⟩)) (λ_ s3 ⟨⟨x1,x2,x3⟩,kd⟩=>?_) λ_ _ z=>z;rw[x3];refine dh1 I hex hBh x1 x2 hea ?_ (λb o e hb=>?_) (λb u q=>?_)
 . obtain⟨o3,h3,_⟩:=x1.there;exact⟨o3,h3,(kd.at he h3).trans hd⟩
 . obtain⟨o',e1⟩:=I.base.there b o e (by rw[hex];simp);refine⟨o',hB b o' e1 λhm=>?_⟩;rcases B6.mp hm with z|hm
   . rw[z,h0]at e;cases e
   rcases B6.mp (I.stkSub b hm)with z|z
   . exact I.ne_loc e z
   . exact hb z
 . obtain⟨o,e⟩:=(I.hok b u q).there;refine⟨o,hB b o e λhm=>?_⟩;rcases B6.mp hm with z|hm
   . rw[z,hea]at q;cases q
   rw[I.stkFree b hm]at q;cases q
structure XeOk (X:Cx) (E:XK):Prop where
 new:∀(ζ:ad)(O:St)(H:Hp)(s:B0)(ea C:Addr)(dx:bb),Inv X ζ O H s->H ea=none->X.s₀.heap.get? ea=none->cv6 s.heap ea C dx->E (.ref C) dx H->X.xe (.ref ea) s
 fly:∀(ζ:ad)(O:St)(H H':Hp)(s s':B0)(ea C:Addr)(dx:bb),Inv X ζ O H s->Fly X.prog X.w X.stack H s C dx H' ea s'->E (.ref C) dx H'->X.xe (.ref ea) s'
def XeOk.passes(x:XeOk X E):wC (CX1 X.prog X.w) X E:=λζ O H s e s' I h=>by refine z42 h λea C dx H' zz F q=>?_;clear h;subst zz;exact x.fly ζ O H H' s s' ea C dx I F q
def xe_of{P:E2}{w:World}{K:A1}{mg:aa}{base:Heap}{N:am}{qual:Str}{scope:Scope}{f:Addr}{cd:Value}{A:G0}{outer:bg}{s0:B0}{H0:Hp}{E:XK}:
 XeOk (kQ (CX1 P w) P w K mg base N qual scope f cd A outer s0 H0 E) E where
 new:=λζ O H s ea C dx I h1 h2 h3 q=>J1 (dp2 (E:=λ_ _=>False) I I.ok.frames rfl rfl rfl h1 h2 h3) (λ_ s3 F=>⟨ea,C,dx,H,rfl,F,q⟩) λ_ _ z=>z.elim
 fly:=λζ O H H' s s' ea C dx I F q=>J1 (cn9 (E:=λ_ _=>False) I I.ok.frames rfl rfl rfl F) (λ_ s3 F=>⟨ea,C,dx,H',rfl,F,q⟩) λ_ _ z=>z.elim
def Inv.trackE(I1:Inv X ζ O H1 s1)(n1:s1.heap.get? a=none)(hex:X.ex=[])(I:Inv X ζ O H s)(ha:H a=none)(new:ObjOk X.prog X.w (upd H a o) s.heap a o):Inv X ζ O (upd H a o) s:=by
 have ne:∀b u,s1.heap.get? b=some u->b≠a:=λb u e z=>by rw[z,n1]at e;cases e
 have nh:∀b u,H b=some u->b≠a:=λb u e=>hU e ha;have n0:∀b u,X.s₀.heap.get? b=some u->b≠a:=λb u e=>by obtain⟨o',e1⟩:=I1.base.there b u e (by rw[hex];simp);exact ne b o' e1
 refine⟨I.ok,I.os,I.bare,⟨I.base.keep,I.base.slot,λb u e n x=>by rw[cE (n0 b u e)];exact I.base.free b u e n x,I.base.there,λb xs e=>by have q:=I.base.tups b xs e;rw[cE (nh _ _ q)];exact q,
  λb ob u e=>by have q:=I.base.frzs b ob u e;rw[cE (nh _ _ q)];exact q,λb ps e=>by obtain⟨m,q⟩:=I.base.tbls b ps e;exact⟨m,by rw[cE (nh _ _ q)];exact q⟩⟩,I.loc,I.cell,?_,λx c e=>?_,λp hp=>?_,λb u e=>?_,I.len⟩
 . obtain⟨m,⟨ol,_,_,e,_⟩,_⟩:=I1.loc;rw[cE (ne _ _ e)];exact I.free
 . refine z21 (I1.cell x c e) λv oc e1 _=>?_;rw[cE (ne _ _ e1)];exact I.freeC x c e
 . obtain⟨e1,_⟩:=I1.pin p hp;obtain⟨q1,q2,q3⟩:=I.pin p hp;exact⟨q1,by rw[cE (ne _ _ e1)];exact q2,q3⟩
 . by_cases hb:b=a
   . subst hb;rw[fR]at e;cases e;exact new
   . rw[cE hb]at e;exact(I.hok b u e).stay (λ_ _ _ q=>q) (λc q=>by rw[cE (nh _ _ q)];exact q) λc xs q=>by rw[cE (nh _ _ q)];exact q
end
open PySem PySem.Spec PyProof.Rows PySem.W
abbrev veB:List Value:=[.type "ValueError",.type "Exception",.type "BaseException",.type "object"]
noncomputable def six:List (Option Value)->Option Value
 |[_,_,_,_,x,_]=>x
 |_=>none
theorem en7{l:List (Option Value)}{v:Value}(h:six l=some v):∃a b c d e,l=[a,b,c,d,some v,e]:=by
 match l,h with
 |[a,b,c,d,x,e],h=>exact⟨a,b,c,d,e,by rw[show x=some v from h]⟩
def dh5(K:A1)(C:Addr)(o:Obj)(cd:ClassData):Bool:=o.cls==.type "type"&&(cd.mro.head?==some (.ref C)&&(six o.slots.toList==some (.builtin "ValueError.__new__")&&(!cd.hasDel&&(cd.hasDict&&tailIn K veB cd.mro.tail))))
def ax5(K:A1)(C:Addr):Bool:=((K.lookup C).bind λo=>(clsIn K C).map (dh5 K C o)).getD false
def ey0{K:A1}{C:Addr}{o:Obj}{cd:ClassData}(h:K.lookup C=some o)(e:clsIn K C=some cd):o.data=.cls cd:=by unfold clsIn at e;rw[h]at e;obtain⟨a,b,d,sl⟩:=o;cases d<;>first|(cases e;rfl)|cases e
noncomputable def br9:List Value->Bool
 |.ref _::r=>br9 r
 |l=>l==veB
section
variable{prog:E2}{w:World}{A:G0}{E:ag}{h:Heap}{g:Array GenState}{d:Drawn}{t:Nat}{os:OsState}{K:A1}{C:Addr}
theorem dt0(X:K.In h)(q:ax5 K C=true):∃nm qn N bs bm hdct sn sub ab col dd k0 k1 k2 k3 k5,h.get? C=some (excClassObj nm qn C N bs bm hdct sn sub ab col dd k0 k1 k2 k3 k5 "ValueError.__new__")/\OwnTail h veB bm/\hdct=true/\∃cd,clsIn K C=some cd/\cd.mro=.ref C::bm/\cd.hasDict=true/\cd.ns=N:=by
 unfold ax5 at q;cases ho:K.lookup C with
 |none=>rw[ho]at q;cases q
 |some o=>
  cases hcd:clsIn K C with
  |none=>rw[ho,hcd]at q;cases q
  |some cd=>
   rw[ho,hcd]at q;have q:dh5 K C o cd=true:=q;have hd:=ey0 ho hcd;unfold dh5 at q;simp only[E4,O6,X6]at q;obtain⟨hc,hm,hs,hdel,hdc,ht⟩:=q;obtain⟨k0,k1,k2,k3,k5,h6⟩:=en7 hs;clear hs;obtain⟨c,dd,dt,sl⟩:=o;obtain⟨nm,bs,mro,ns,qn,hd',sn,sub,ab,col,del⟩:=cd;dsimp only at hc hd hm h6 hdel hdc ht;subst hc hd hdel hdc;cases mro with
   |nil=>cases hm
   |cons m bm=>cases hm;obtain⟨l⟩:=sl;subst h6;exact⟨nm,qn,ns,bs,bm,true,sn,sub,ab,col,dd,k0,k1,k2,k3,k5,X _ _ ho,tail_of_in X ht,rfl,_,rfl,rfl,rfl,rfl⟩
end
end L2
namespace L2
open PySem PySem.Spec PyProof.Rows PySem.W
structure ErrG (K:A1) (C:Addr):Prop where
 cls:ax5 K C=true
 refs:∃cd,clsIn K C=some cd/\br9 cd.mro=true/\cd.mro.contains (.type "object")=true/\cd.mro.contains (.type "BaseException")=true
 ga:findIn K (.ref C) "__getattribute__"=some (some (.builtin "BaseException.__getattribute__"))
 gt:findIn K (.ref C) "__getattr__"=some none
 ca:findIn K (.ref C) "__class__"=some (some (.builtin "object.__class__"))
 hn:specialIn K (.builtin "object.__class__") "__get__"=some (some (.builtin "getset_descriptor.__get__"))
 htk:takesIn K (.builtin "object.__class__")=some true
 hm:mroIn K C (.type "object")=some true
structure ErrF (K:A1) (C:Addr) (f:Str):Prop extends ErrG K C where
 sa:findIn K (.ref C) "__setattr__"=some (some (.builtin "object.__setattr__"))
 no:findIn K (.ref C) f=some none
section
variable{prog:E2}{w:World}{A:G0}{E:ag}{s:B0}{K:A1}{C x:Addr}{f:Str}{ox:Obj}{v:Value}
def ei3{od:Option Obj}{name:Str}{tk:Tok}{fill expr:Bool}{Q:ag}(X:K.In s.heap)(G:ErrG K C)(J:InstAt s.heap x ox C od)
 (bP:∀R:Result->B0->Prop,R (.ok (.ret v)) s->wpAny (model prog w) A.in1 (Builtin.«object.__getattribute__» ⟨[.ref x,.str name tk],[]⟩) (λbP s'=>match bP with|.done f=>R (.ok f) s'|.again c'=>c'.quiet=true/\codeAny (model prog w) A c' R s') (λe s'=>R (.error e) s') s)
 (hh:handedIn v=true)(h:Q v s):wpAny (model prog w) A (getAttrBy (.ref x) (.str name tk) fill expr) Q E s:=by
 refine z13 G.refs λcd hcd hr ho hb=>?_;have ne:cd.mro.isEmpty=false:=by cases q:cd.mro with|nil=>rw[q]at hr;cases hr|cons _ _=>rfl
 have L0:=J.type (M:=model prog w);have L1:=looks_findIn (M:=model prog w) X G.ga;have L2:=looks_findIn (M:=model prog w) X G.gt;have sub:Looks (model prog w) s.heap (isInstance (.ref x) (.type "BaseException")) true:=J.type.andThen (looks_mroIn X (by unfold mroIn;rw[hcd,Option.bind_some,D3 (by rw[ne];decide),hb]));have hga:bindSpecial (.builtin "BaseException.__getattribute__") (.ref x)=pure (.builtin "BaseException.__getattribute__",[.ref x]):=PySem.F.excAttr_ValueError.ga.bind _;have hx0:(expr&&onTheHeap (Value.builtin "BaseException.__getattribute__"))=false:=by cases expr<;>rfl
 unfold getAttrBy;refine Q0 (A3 (L0.here (A3 (L1.here ?_))));dsimp only;rw[D3 (by rw[E4];rintro⟨_,q⟩;exact D8 q X9)];unfold getAttrByItsOwn;refine A3 (show wpAny _ _ (typeLookup (.ref C) "__getattr__") _ _ _ from L2.here ?_);unfold callGetattribute boundAndCalled;rw[hx0];have bP:codeAny (model prog w) A (.call (.builtin "BaseException.__getattribute__") ⟨[.ref x,.str name tk],[]⟩) (λr s'=>r=.ok (.ret v)/\s'=s) s:=
  codeAny_call_builtin PySem.F.excAttr_ValueError.ga.plain PySem.F.entry_bexc_ga (@check_slot (model prog w) _ _ s "BaseException.__getattribute__" "BaseException" "__getattribute__" (.ref x) [.str name tk] [] _ X9 X9 sub (PySem.F.args_bexc_ga _ _) (bP (λr s'=>r=.ok (.ret v)/\s'=s) ⟨rfl,rfl⟩))
 obtain⟨h0,g,d,t,os⟩:=s;repeat(any_goals(first|assumption|wp_step))
 refine R3 bP λr s' ⟨e1,e2⟩=>?_;subst e1 e2;dsimp only;repeat(any_goals(first|assumption|wp_step))
 show wpAny _ _ (handedOut v) _ _ _;rw[handedOut_of hh];exact C5 h
def fa5{od:Option Obj}{Q:Option Value->B0->Prop}(X:K.In s.heap)(G:ErrG K C)(J:InstAt s.heap x ox C od)(h:Q (some (.ref C)) {s with toks:=s.toks+1}):wpAny (model prog w) A (getAttr? (.ref x) "__class__") Q E s:=by
 obtain⟨cd,hcd,-⟩:=G.refs;have hf:findObj K C od "__class__"=some (.bind (.builtin "getset_descriptor.__get__") (.builtin "object.__class__")):=by unfold findObj;rw[hcd,Option.bind_some,G.ca,Option.bind_some];simp[G.hn,G.htk]
 unfold getAttr? getAttrBy?;refine A3 (wpAny_mkText (A3 (wpAny_attempt (ei3 (s:={s with toks:=s.toks+1}) (v:=.ref C) X G J (λR hR=>?_) rfl (C5 h)))));unfold Builtin.«object.__getattribute__»;refine A3 (C5 (A3 (C5 (A3 (Looks.here (s:={s with toks:=s.toks+1}) J.type (A3 (Looks.here (s:={s with toks:=s.toks+1}) (looks_find X J hf) ?_)))))));show wpAny _ _ (holding [.builtin "object.__class__"] (call (.builtin "getset_descriptor.__get__") [.builtin "object.__class__",.ref x,.ref C])>>=ret) _ _ _;exact A3 (Q0 (wpAny_call (class_get (s:={s with toks:=s.toks+1}) X J G.hm (C5 hR))))
def cd1:ErrG K C->KitX K (.ref x) (.ref C) (λh=>∃ox od,InstAt h x ox C od):=λG=>{
 ty:=λ_ _ _ ⟨_,_,I⟩=>I.type
 it:=λ_ _ X _=>by
  obtain⟨cdD,hcD,_⟩:=G.refs
  unfold clsIn at hcD
  split at hcD
  . rename_i c' d' cd' sl' ho
    intro A' Q' E' s' k q
    unfold isType loadHead
    exact A3 (wpAny_loadPart (k _ _ (X _ _ ho)) (C5 q))
  . cases hcD
 ne:=λh tp dd its n sl X htp=>by
  obtain⟨cdD,hcD,_⟩:=G.refs
  refine Bool.eq_false_iff.mpr λq=>?_
  have e:C=tp:=Value.ref.inj (O6.mp q)
  subst e
  unfold clsIn at hcD
  split at hcD
  . rename_i c' d' cd' sl' ho
    have z:=(X _ _ ho).symm.trans htp
    cases z
  . cases hcD
 ca:=λX ⟨_,_,I⟩ k=>fa5 X G I k}
end
def dy7(h:Heap)(e C:Addr)(dx:bb):Prop:=∃oe vs,h.get? e=some oe/\oe.cls=.ref C/\oe.dict=dx/\oe.data=.fields vs
abbrev uE(e C:Addr)(dx:bb):HO:=.ext λh=>dy7 h e C dx
def ez3{P:E2}{w:World}{H:Hp}{h:Heap}{e C:Addr}{dx:bb}(x:dy7 h e C dx):ObjOk P w H h e (uE e C dx):=by refine z23 (id x) λoe vs h1 h2 h3 h4=>?_;exact⟨x,⟨oe,h1⟩,λa b ⟨o,v,q1,q⟩ k=>⟨o,v,k _ q1,q⟩⟩
section
variable{X:Cx}{C:Addr}{f:Str}
end
end L2
namespace L2
open PySem PySem.Spec PyProof.Rows PySem.W
section
variable{M:Model}{A:G0}{E:ag}{s:B0}{env:Env}{C:Addr}{K:A1}
def cj8(hh:A.handled=none)(hK:ax5 K C=true)
 (h:wpAny M A x (λv s₁=>∃e dx,v=.ref e/\K.In s₁.heap/\cv6 s₁.heap e C dx/\E (.ref e) s₁) E s):wpAny M A (raiseStmt env (some x) none) Q E s:=by
 unfold raiseStmt;refine A3 (J1 h (λv s₁ h₁=>?_) λ_ _ x=>x);obtain⟨e,dx,rfl,hI,⟨oe,vs,a0,he,hc,hd,hda,h1,h0⟩,hE⟩:=h₁;obtain⟨hp,g,d,tk,os⟩:=s₁;obtain⟨nm,qn,N,bs,bm,hdct,sn,sub,ab,col,dd,k0,k1,k2,k3,k5,hC,T,-⟩:=dt0 hI hK;have hcB:(Value.ref C::bm).contains (.type "BaseException")=true:=by rw[V2,T.hasType PySem.F.excBase_ValueError.hasBase,Bool.or_true]
 repeat(first|with_reducible refine N5 he hda h1 ?_|(with_reducible refine wpAny_loadPart_at he ?_;rw[hc])|with_reducible refine wpAny_loadPart_at hC ?_|(with_reducible refine wpAny_isSubtype_exc hC ?_;rw[hcB])|wp_step)
 exact wpAny_raiseNew_none hh hE
end
def bu0(K:A1)(C:Addr):Bool:=ax5 K C&&((clsIn K C).map λcd=>nsOkIn K cd.ns&&nsIn K cd.ns "__init__"==some none).getD false
structure cm6 (K:A1) (mg:aa) (x:Str) (C:Addr):Prop where
 g:ErrG K C
 glob:mg x=some (.ref C)
 kp:keepIn K (.ref C)=true
 exc:bu0 K C=true
def ew2{K:A1}{h:Heap}{C:Addr}(X:K.In h)(q:bu0 K C=true):∃bm N nm qn bs hdct sn sub ab col dd k0 k1 k2 k3 k5 mN,h.get? C=some (excClassObj nm qn C N bs bm hdct sn sub ab col dd k0 k1 k2 k3 k5 "ValueError.__new__")/\h.Ns N mN/\mN "__init__"=none/\OwnTail h veB bm:=by unfold bu0 at q;rw[E4]at q;obtain⟨q,r⟩:=q;obtain⟨nm,qn,N,bs,bm,hdct,sn,sub,ab,col,dd,k0,k1,k2,k3,k5,hC,T,-,cd,e,-,-,rfl⟩:=dt0 X q;rw[e]at r;have r:(nsOkIn K cd.ns&&nsIn K cd.ns "__init__"==some none)=true:=r;rw[E4]at r;exact⟨bm,_,nm,qn,bs,hdct,sn,sub,ab,col,dd,k0,k1,k2,k3,k5,_,hC,.of_isNs (isNs_of_in X r.1),nsMap_none_of_in X r.1 (O6.mp r.2),T⟩
section
variable{X:Cx}{ζ:ad}{O:St}{H:Hp}{s:B0}{C:Addr}{f x:Str}{v:V}{u:Value}{Q:ag}{E:ag}
theorem ds5(I:Inv X ζ O H s)(R:cm6 X.K X.mg x C)
 (h:∀s' e,s.heap.get? e=none->H e=none->cv6 s'.heap e C none->Inv X ζ O H s'->Q (.ref e) s'):wpAny (model X.prog X.w) X.A (call (.ref C) []) Q E s:=by
 obtain⟨bm,N,nm,qn,bs,hdct,sn,sub,ab,col,dd,k0,k1,k2,k3,k5,mN,hC,hN,hni,T⟩:=ew2 I.kIn R.exc;obtain⟨hh,gg,d,t,os⟩:=s;refine wpAny_call_exc_subT PySem.F.excBase_ValueError T hC hN hni (λh' e m=>?_) Y2;obtain⟨t1,h1,h2,h3⟩:=m.there;refine h _ e m.new ?_ ⟨_,_,_,h1,rfl,rfl,rfl,rfl,rfl⟩ (I.kept (s:=⟨hh,gg,d,t,os⟩) (t':=t) m.keeps);cases q:H e with
 |none=>rfl
 |some o=>obtain⟨ob,z⟩:=(I.hok e o q).there;exact D8 m.new (by rw[show hh.get? e=some ob from z];exact λz=>nomatch z)
end
section
variable{X:Cx}{C:Addr}{f x:Str}{np cpos pos:Pos}{e₀:Expr}{ta:TA}{E:XK}
def cu4(C:Addr)(E:XK):TS:=λ_ _ H=>E (.ref C) none H
theorem ep3(I:Inv X ζ O H s)(hex:X.ex=[])(h:s.heap.get? e=none):X.s₀.heap.get? e=none:=by
 cases q:X.s₀.heap.get? e with
 |none=>rfl
 |some o=>obtain⟨o',z⟩:=I.base.there e o q (by rw[hex];simp);rw[h]at z;cases z
def cp9(R:cm6 X.K X.mg x C)(xe:XeOk X E)(hex:autoParam (X.ex=[]) Z8)(hc:autoParam (X.calm=true) Z8)(hg:autoParam (Gl X x) Z8)(hdb:autoParam ((x==("__debug__":Str))=false) Z6):PS X (.Raise (some (.Call (.Name x np) [] [] cpos)) none pos) (cu4 C E):=by intro ζ s O H D I h;rw[arm_exec_Raise];refine A3 (X0 (cj8 (I.ok.hd hc) R.g.cls (A3 (J1 ?_ (λv s₃ h₃=>A3 (X0 (C5 h₃))) λ_ _ x=>x))));refine K6 (sF I hg R.glob ?_ hdb);exact PySem.W.callWith_K0 I.kIn R.kp (ds5 I R λs' e h1 h2 h3 I'=>⟨e,none,rfl,I'.kIn,h3,xe.new ζ O H s' e C none I' h2 (ep3 I hex h1) h3 h⟩)
end
end L2
namespace L2
open PySem PySem.Spec PyProof.Rows PySem.W
def af8(H:Hp)(dx:bb)(fs:c5):Prop:=(dx=none/\fs=[])\/∃d,dx=some d/\H d=some (.xd fs)
noncomputable def ax4:V->Value
 |.ref a=>.ref a
 |.ty n=>.type n
 |_=>.none
structure IsE (K:A1) (C:Addr) (D:V) (b:Bool):Prop where
 g:ErrG K C
 kit:kitOne K (.ref C) (ax4 D)=some b
structure IsN (K:A1) (D:V):Prop where
 rel:RelV D (ax4 D)
 kit:kitOne K (.type "NoneType") (ax4 D)=some false
def dy9(tab:List (Addr×Bool))(D:V):List V->Hp->VK->Prop:=λxs H Q=>∃v,xs=[v,D]/\((v=.non/\Q (.bl false) H)\/∃e C dx fs b,v=.ref e/\H e=some (uE e C dx)/\af8 H dx fs/\(C,b)∈tab/\Q (.bl b) H)
section
variable{X:Cx}{ζ:ad}{O:St}{H:Hp}{s:B0}
def bn9(I:Inv X ζ O H s)(he:H e=some (uE e C dx))(hd:af8 H dx fs):∃ox od,InstAt s.heap e ox C od:=by
 obtain⟨⟨oe,vs,h1,h2,h3,h4⟩,-⟩:=I.hok e _ he;rcases hd with⟨rfl,-⟩|⟨d,rfl,hd⟩
 . exact⟨oe,none,h1,h2,by unfold notCls;rw[h4],by rw[h3];trivial⟩
 . obtain⟨ob,e2⟩:=(I.hok d _ hd).there;exact⟨oe,some ob,h1,h2,by unfold notCls;rw[h4],by rw[h3];exact e2⟩
def bk4(N:IsN X.K D)(hT:∀q∈tab,IsE X.K q.1 D q.2):CallR X (.builtin "isinstance") (dy9 tab D):=by
 intro ζ s O H xs us Q I r h;obtain⟨v,rfl,h⟩:=h;refine z22 r.two λu c zz rx rD=>?_;subst zz;obtain rfl:c=ax4 D:=by have:=N.rel;cases D<;>first|exact rD.trans this.symm|(obtain⟨_,z⟩:=this;cases z)|(cases this)
 rcases h with⟨rfl,q⟩|⟨e,C,dx,fs,b,rfl,he,hd,hq,q⟩
 . cases(show u=Value.none from rx);exact kia_one kitx_none I.kIn True.intro N.kit (λz=>nomatch z) λtk=>⟨.bl false,H,I.tok _,rfl,q⟩
 . cases(show u=Value.ref e from rx);have o:=hT _ hq;exact kia_one (cd1 o.g) I.kIn (bn9 I he hd) o.kit (λz=>nomatch z) λtk=>⟨.bl b,H,I.tok _,rfl,q⟩
end
end L2
namespace L2
open PySem PySem.Spec PyProof.Rows PySem.W
section
variable{X:Cx}{ζ:ad}{O:St}{H H':Hp}{s s':B0}{B h':Heap}{ea C:Addr}{dx:bb}{a0:Value}
def Inv.land(I:Inv X ζ O H s)(hex:X.ex=[])(F:Fly X.prog X.w X.stack H s C dx H' ea s')(c1:∀b o,s.heap.get? b=some o->b∉pT X.stack->∃o',B.get? b=some o')(c2:∀b u,H' b=some u->∃o,B.get? b=some o)
 (hB:B.StaysIn s'.heap)(hB':B.StaysIn h')(hup:s'.heap.UpToSlots h'):Inv X ζ O H' {s' with heap:=h'}:=by
 have fr:∀b o,s'.heap.get? b=some o->b∈pT X.stack->∃sl,h'.get? b=some {o with slots:=sl}:=λb o e hb=>by obtain⟨_,o1,e1,n1⟩:=I.stack.mem hb;obtain⟨sl1,e2⟩:=F.un.slot b o1 e1 (I.stkFree b hb) hb Y1;rw[e]at e2;cases e2;exact hup b _ e n1
 refine I.call' (s':={s' with heap:=h'}) (ch:=[]) F.os ⟨λb o e n hb _=>?_,λb o e n hb _=>?_,F.un.free,λb o e _=>?_,F.un.tups,F.un.frzs,F.un.tbls⟩ (HOk.based F.hok hB hB' c2) F.bare (λb z=>D8 z Y1)
 . obtain⟨o',eb⟩:=c1 b o e hb;have e1:=F.un.keep b o e n hb Y1;have:=hB b o' eb;rw[e1]at this;cases this;exact hB' b _ eb
 . obtain⟨sl,e1⟩:=F.un.slot b o e n hb Y1;obtain⟨sl2,e2⟩:=fr b _ e1 hb;exact⟨sl2,e2⟩
 . by_cases hb:b∈pT X.stack
   . obtain⟨o1,e1⟩:=F.un.there b o e Y1;obtain⟨sl,e2⟩:=fr b o1 e1 hb;exact⟨_,e2⟩
   . obtain⟨o',eb⟩:=c1 b o e hb;exact⟨o',hB' b _ eb⟩
theorem Fly.fresh(I:Inv X ζ O H s)(F:Fly X.prog X.w X.stack H s C dx H' ea s'):s.heap.get? ea=none:=by
 refine z22 F.air λa0 B hfl c1 c2=>?_;cases q:s.heap.get? ea with
 |none=>rfl
 |some o=>
  by_cases hb:ea∈pT X.stack
  . obtain⟨_,o1,e1,n1⟩:=I.stack.mem hb;obtain⟨sl,e2⟩:=F.un.slot ea o1 e1 (I.stkFree ea hb) hb Y1;refine z23 hfl.first λoe ws hoe _ hoed _=>?_;rw[e2]at hoe;cases hoe;exact D8 hoed (n1 ws)
  . obtain⟨o',eb⟩:=c1 ea o q hb;rw[hfl.2.1]at eb;cases eb
noncomputable abbrev Cx.inS(X:Cx)(v:Value):Cx:={X with A:=X.A.mark (some v),calm:=false}
theorem Inv.inS(I:Inv X ζ O H s)(v:Value):Inv (X.inS v) ζ O H s:=
 ⟨⟨I.ok.mod,I.ok.kind,I.ok.glob,I.ok.blt,I.ok.above,I.ok.inj,I.ok.has,I.ok.cab,(λz=>nomatch z),I.ok.frames,I.ok.stk,I.ok.exf,I.ok.bs,I.ok.bsz,I.ok.noex,I.ok.exfs,I.ok.funs,I.ok.frf⟩,I.os,I.bare,I.base,I.loc,I.cell,I.free,I.freeC,I.pin,I.hok,I.len⟩
def Inv.offS(ok:X.Ok)(I:Inv (X.inS v) ζ O H s):Inv X ζ O H s:=⟨ok,I.os,I.bare,I.base,I.loc,I.cell,I.free,I.freeC,I.pin,I.hok,I.len⟩
def cq9(I:Inv X ζ O H s)(hN:X.N.Nodup)(hk:X.N[k]?=some n)(hl:X.env.scope.names.lookup n=some .local)
 (h:∀s',Inv X ζ (O.set k none) H s'->Q () s'):wpAny M A (do bindName X.env n .none;unbindBehindTheSuite X.env n pos) Q E s:=by
 obtain⟨m,hn,hl'⟩:=id I.loc;have hcls:(X.env.scope.kind==.class||(X.env.scope.kind==.module&&X.env.locals !=X.env.globals))=false:=by rw[I.ok.kind];rfl
 refine wpAny_nameGoes_keeps hl hn hcls λh' v hn' hs=>h _ ?_;refine z31 (id hn) λoL _ _ hoL _=>?_;have hok:HOk X.prog X.w H h':=λb ob e=>(I.hok b ob e).stay (λc w' hc q=>(hs.2 c (by
  rintro rfl;rcases hc with hc|hc
  . rw[<-hc,I.free]at e;cases e
  . rw[I.free]at hc;cases hc)).trans q) (λ_ q=>q) λ_ _ q=>q
 refine⟨I.ok,I.os,I.bare,⟨λb o e n hb hx=>?_,λb o e n hb hx=>?_,I.base.free,λb o e hx=>?_,I.base.tups,I.base.frzs,I.base.tbls⟩,⟨_,hn',λj y v' e1 e2 e3=>?_⟩,λy c e=>?_,I.free,I.freeC,λp hp=>?_,hok,by simpa using I.len⟩
 . exact(hs.2 b (I.ne_loc e)).trans (I.base.keep b o e n hb hx)
 . obtain⟨sl,e1⟩:=I.base.slot b o e n hb hx;exact⟨sl,(hs.2 b (I.ne_loc e)).trans e1⟩
 . obtain⟨o',e1⟩:=I.base.there b o e hx;exact⟨o',(hs.2 b (I.ne_loc e)).trans e1⟩
 . by_cases hj:j=k
   . subst hj;rw[List.getElem?_set]at e2;split at e2
     . split at e2<;>cases e2
     . rename_i z;exact D8 rfl z
   . rw[G7 (N8 hj)]at e2;obtain⟨u',r',q⟩:=hl' j y v' e1 e2 e3;refine⟨u',r',?_⟩;rcases q with⟨kk,e⟩|⟨kk,c,e,z⟩
     . refine .inl ⟨kk,?_⟩;have:y≠n:=λe=>hj (ah7 hN e1 (e▸hk));simp[this,e]
     . exact .inr ⟨kk,c,e,z.sameBut hs (I.cne y c e)⟩
 . obtain⟨w',z⟩:=I.cell y c e;exact⟨w',z.sameBut hs (I.cne y c e)⟩
 . refine z04 (I.pin p hp) λe n ne nf d=>?_;exact⟨(hs.2 p.1 ne).trans e,n,ne,nf,d⟩
def cz5{M:Model}{A:G0}{E:ag}{K:A1}{e CE:Addr}{oe:Obj}{Q:Bool->B0->Prop}(X:K.In s.heap)(he:s.heap.get? e=some oe)(hc:oe.cls=.ref C)(hE:mroIn K C (.ref CE)=some true)(hB:mroIn K CE (.type "BaseException")=some true)
 (hT:typeIn K (.ref CE)=some (.type "type"))(hq:Q true s):wpAny M A (excMatches (.ref e) (.ref CE)) Q E s:=by
 have L1:Looks M s.heap (typeOf (.ref e)) (.ref C):=hc▸(Looks.ld he).andThen .now;have L2:=looks_mroIn (M:=M) X hE;have L3:=looks_mroIn (M:=M) X hB;have L4:=looks_typeIn (M:=M) X hT;have L5:Looks M s.heap (isType (.ref CE)) true:=by
  obtain⟨cd,h1,h2⟩:=M9.mp hB;unfold clsIn at h1;split at h1
  . rename_i ho;intro A' Q' E' s' k q;unfold isType loadHead;exact A3 (wpAny_loadPart (k _ _ (X _ _ ho)) (C5 q))
  . cases h1
 have L6:Looks M s.heap (isInstance (.ref CE) (.type "tuple")) false:=L4.andThen (Looks.of_pure tc_notTuple);unfold excMatches isExcClass;refine A3 (L6.here (A3 (C5 ?_)));simp only[X7,List.forIn_nil];refine A3 (A3 (A3 (A3 (L5.here ?_))));refine L3.here (C5 (C5 (A3 (L1.here (A3 (A3 (A3 (L2.here (C5 (C5 (C5 hq)))))))))))
structure cj5 (K:A1) (mg:aa) (x:Str) (CE:Addr):Prop where
 glob:mg x=some (.ref CE)
 base:mroIn K CE (.type "BaseException")=some true
 ty:typeIn K (.ref CE)=some (.type "type")
def dS(D:zZ)(k:Nat):zZ:={nx:=λσ' H'=>D.nx (σ'.set k none) H',rt:=λ_ _=>False}
theorem em6{D:zZ}{ts:TS}{x n:Str}{k:Nat}{CE:Addr}{b₀:Stmt}{suite:da}{np hp:Pos}(I:Inv X ζ O H s)(hex:X.ex=[])(hst:X.stack=X.env::X.outer)(hfr:X.env.frame=some X.env.locals)(hN:X.N.Nodup)(hk:X.N[k]?=some n)(hl:X.env.scope.names.lookup n=some .local)(hg:Gl X x)(hdb:(x==("__debug__":Str))=false)
 (nox:∀e s,X.xe e s->False)(C0:cj5 X.K X.mg x CE)(hs:∀v,PSs (X.inS v) (b₀::suite) ts)(F:Fly X.prog X.w X.stack H s C dx H' ea s')(hm:mroIn X.K C (.ref CE)=some true)
 (h:ts (dS D k) (O.set k (some (.ref ea))) (upd H' ea (uE ea C dx))):
 wpAny (model X.prog X.w) X.A (noteFrame (.ref ea) X.env) (λ_ s₂=>wpAny (model X.prog X.w) X.A (setFlight (.ref ea) none) (λ_ s₃=>wpAny (model X.prog X.w) X.A (handleBy (.ref ea) X.env [.ExceptHandler (some (.Name x np)) (some n) (b₀::suite) hp]) (SP X ζ D) X.xe s₃) X.xe s₂) X.xe s':=by
 refine z22 F.air λa0 B hfl c1 c2=>?_;obtain⟨oe,he,hd⟩:=F.dict;have new:=F.fresh I;have hA:X.A.frames=some (X.env::X.outer):=by rw[<-hst];exact I.ok.frames
 have hB1:=hfl.1;rw[hst]at hfl;refine J1 (ae5 (cx4 _ _) (wpAny_looks_onW (Q:=λ_ s3=>Heap.HeldW B (X.env::X.outer) ea (.ref C) a0 X.env.locals s3.heap/\s'.heap.UpToSlots s3.heap/\s3={s' with heap:=s3.heap}) hA hfr hfl λh' x1 x2=>⟨x1,x2,rfl⟩)) (λ_ s4 ⟨⟨x1,x2,x3⟩,kd⟩=>?_) λ_ _ z=>z;refine J1 (ae5 (ay3 _ _) (wpAny_landsW (Q:=λ_ s5=>Heap.FlyingW B (X.env::X.outer) ea (.ref C) a0 s5.heap/\s4.heap.UpToSlots s5.heap/\s5={s4 with heap:=s5.heap}) x1 λh' y1 y2=>⟨y1,y2,rfl⟩)) (λ_ s5 ⟨⟨y1,y2,y3⟩,kd'⟩=>?_) λ_ _ z=>z;have up5:=x2.trans y2;have kd5:=kd.trans kd';have e5:s5={s' with heap:=s5.heap}:=by rw[y3,x3]
 have I5:Inv X ζ O H' s5:=by rw[e5];exact I.land hex F c1 c2 hB1 y1.1 up5
 obtain⟨o5,ho5,hc5⟩:=y1.there;refine wpAny_handleBy_cons (codeAny_handlers_test (sF (X:=X.inS (.ref ea)) (I5.inS _) hg C0.glob ?_ hdb)) (by intro q;cases q);refine cz5 I5.kIn ho5 hc5 hm C0.base C0.ty (codeAny_handlers_suite_as ?_);refine J1 (ae5 (ay3 _ _) (lands_againW (Q:=λ_ s6=>Heap.FlyingW B (X.env::X.outer) ea (.ref C) a0 s6.heap/\s5.heap.UpToSlots s6.heap/\s6={s5 with heap:=s6.heap}) y1 λh' z1 z2=>⟨z1,z2,rfl⟩)) (λ_ s6 ⟨⟨z1,z2,z3⟩,kd6⟩=>?_) λ_ _ z=>z;have e6:s6={s' with heap:=s6.heap}:=by rw[z3,e5]
 have I6:Inv X ζ O H' s6:=by rw[e6];exact I.land hex F c1 c2 hB1 z1.1 (up5.trans z2)
 refine z23 z1.first λo6 vs6 ho6 hc6 hd6 _=>?_;have E6:dy7 s6.heap ea C dx:=⟨o6,vs6,ho6,hc6,((kd5.trans kd6).at he ho6).trans hd,hd6⟩;have I7:Inv X ζ O (upd H' ea (uE ea C dx)) s6:=Inv.trackE I new hex I6 F.free (ez3 E6);refine aw7 (X:=X.inS (.ref ea)) (v:=.ref ea) (I7.inS _) hN hk (.inl hl) rfl (λs8 I8=>?_) (.inr hl);refine J1 (hs (.ref ea) s8 _ _ (dS D k) I8 h) (λf s9 q=>?_) λe s9 z=>(nox e s9 z).elim;cases f with
 |next=>refine z21 q λσ' H9 I9 q=>?_;exact cq9 (Inv.offS I.ok I9) hN hk hl λs10 I10=>⟨_,_,I10,q⟩
 |ret u=>refine z32 q λv σ' H9 I9 r q=>?_;exact q.elim
 |_=>refine z21 q λσ' H9 I9 q=>?_;exact q.elim
end
end L2
namespace L2
open PySem PySem.Spec PyProof.Rows PySem.W
structure ad8 (P:E2) (w:World) (K:A1) (mg:aa) (base:Heap) (k:Nat) (x:Str) (ps:am) (sp:Sp):Prop where
 ex:∃f fd,FnOk P w K mg base (CX1 P w) k f fd ps sp/\mg x=some (.ref f)/\keepIn K (.ref f)=true/\Binds K fd ps []
def fx2:wC (CX1 X.prog X.w) X E0:=λ_ _ _ _ _ _ _ ⟨_,_,_,_,_,_,h⟩=>h.elim
def Fun.okX{P:E2}{w:World}{K:A1}{mg:aa}{base:Heap}{x qual:Str}{st:Stmt}{f:Addr}{fd:FuncData}{N ps:am}{k:Nat}{sp:Sp}(F:Fun K x qual st f fd)(S:aV N ps (aL st))(len:∀vs H Q E,sp vs H Q E->vs.length=ps.length)
 (hbody:∀(cdv:Value)(A:G0)(outer:bg)(s:B0)(H:Hp)(vs:a9)(Q:VK)(E:XK),Room k (A.deeper (envOfC qual (aL st) s.heap.objs.size f cdv))->sp vs H Q E->
  ∃t,PSs (kQ (CX1 P w) P w K mg base N qual (aL st) f cdv A outer s H E) (cP st) t/\t {nx:=λ_ H'=>Q .non H',rt:=Q} (start N vs) H):FnOk P w K mg base (CX1 P w) (k+1) f fd ps sp:=by
 obtain⟨oc,od,kV,doc,pm,an,cdv,ct,osl,rfl,lk,hcd⟩:=F.ex;exact dn8 lk hcd S len λA outer s H vs Q E hr hsp=>hbody cdv A outer s H vs Q E hr hsp
section
variable{X:Cx}{k:Nat}{f:Addr}{fd:FuncData}{ps:am}{sp:Sp}{x:Str}{p pos:Pos}{e:Expr}{es:bj}{t:TA}{E:XK}{C:Addr}
def by7(sp:Sp)(E:XK)(t:TA):TE:=λO H Q=>t O H λvs H1=>sp vs H1 Q E
def bj2(d:ad8 X.prog X.w X.K X.mg X.base k x ps sp)(xe:wC (CX1 X.prog X.w) X E)(hr:Room k X.A)(ha:PA X (e::es) t)(hg:autoParam (Gl X x) Z8)
 (hdb:autoParam ((x==("__debug__":Str))=false) Z6)(he:autoParam (starEach (e::es) X.env=(false,eval e X.env)::starEach es X.env) Z8)(hpl:autoParam ((backTo pos (starEach es X.env)).any (·.1)=false) Z8):PE X (.Call (.Name x p) (e::es) [] pos) (by7 sp E t):=by
 refine z23 d.ex λf fd F hm hk hb=>?_;intro ζ s O H Q I h;have e1:(λvs H1=>sp (vs++[]) H1 Q E)=λvs H1=>sp vs H1 Q E:=by funext vs H1;rw[K0]
 refine ce4 F hr hg hm hk hb .nil xe ha hdb he hpl s O H Q I ?_;show t O H λvs H1=>sp (vs++[]) H1 Q E;rw[e1];exact h
theorem ft0(d:ad8 X.prog X.w X.K X.mg X.base k x ps sp)(hr:Room k X.A)(ha:PA X (e::es) t)(nox:∀e s,X.xe e s->False)(hg:Gl X x)(hdb:(x==("__debug__":Str))=false)(he:starEach (e::es) X.env=(false,eval e X.env)::starEach es X.env)(hpl:(backTo pos (starEach es X.env)).any (·.1)=false)
 (I:Inv X ζ O H s)(h:by7 sp E t O H Q):wpAny (model X.prog X.w) X.A (eval (.Call (.Name x p) (e::es) [] pos) X.env) (EP X ζ O Q) (λe' s'=>∃H1 s1,Inv X ζ O H1 s1/\CX1 X.prog X.w X.stack H1 s1 E e' s') s:=by
 refine z23 d.ex λf fd F hm hk hb=>?_;refine K6 (sF I hg hm ?_ hdb);refine R4 (h₀:=X.base) I.ok.mod.kin hk (J1 (ha ζ s O H _ I h) (λus s1 ⟨vs,H1,I1,r,q⟩=>⟨I1.kIn,?_⟩) λe' s' z=>(nox e' s' z).elim) he hpl;have hl:us.length=ps.length:=by rw[<-r.length];exact F.len _ _ _ _ q
 refine wpAny_call (R3 (F.run X.A X.stack s1 H1 ⟨us,[]⟩ us vs Q E hr I1.env0 (by have:=hb s1 us I1.kIn (by rw[K0];exact hl);rwa[K0]at this) r q) λr s' hq=>?_);cases r with
 |error e=>exact⟨H1,s1,I1,hq⟩
 |ok fl=>
  cases fl with
  |ret u=>exact I1.after hq
  |_=>exact False.elim hq
def eh5(sp:Sp)(K:A1)(CE:Addr)(k:Nat)(ta:TA)(ts:TS)(g:V->St->St):TS:=λD O H=>ta O H λvs H1=>sp vs H1 (λv H2=>D.nx (g v O) H2)
 λc dx H2=>∃C,c=.ref C/\mroIn K C (.ref CE)=some true/\∀ea,H2 ea=none->ts (dS D k) (O.set k (some (.ref ea))) (upd H2 ea (uE ea C dx))
def ep0{CE:Addr}{ts:TS}{z n:Str}{j:Nat}{b₀:Stmt}{suite:da}{np hp p1 p2:Pos}{q:am}{c:Scope}(S:aV X.N q c)(d:ad8 X.prog X.w X.K X.mg X.base k x ps sp)(C0:cj5 X.K X.mg z CE){m:Nat}(hr:Room m X.A)(ha:PA X (e::es) t)(hs:∀v,PSs (X.inS v) (b₀::suite) ts)(hj:autoParam (X.N[j]?=some n) Z8)(hl:autoParam (X.env.scope.names.lookup n=some .local) Z8)
 (hkm:autoParam (k<=m) Z6)(hx0:autoParam (X.xe=λ_ _=>False) Z8)(hex:autoParam (X.ex=[]) Z8)(hst:autoParam (X.stack=X.env::X.outer) Z8)(hfr:autoParam (X.env.frame=some X.env.locals) Z8)(hg:autoParam (Gl X x) Z8)(hz:autoParam (Gl X z) Z8)(hdb:autoParam ((x==("__debug__":Str))=false) Z6)(hdz:autoParam ((z==("__debug__":Str))=false) Z6)
 (he:autoParam (starEach (e::es) X.env=(false,eval e X.env)::starEach es X.env) Z8)(hpl:autoParam ((backTo pos (starEach es X.env)).any (·.1)=false) Z8)(hsw:autoParam (swapsWith (.Call (.Name x p) (e::es) [] pos) none p1.line X.env=pure false) Z8):
 PS X (.Try [.Expr (.Call (.Name x p) (e::es) [] pos) p1] [.ExceptHandler (some (.Name z np)) (some n) (b₀::suite) hp] [] [] p2) (eh5 sp X.K CE j t ts λ_ O=>O):=by
 intro ζ s O H D I h;have nox:∀e s,X.xe e s->False:=λe s z=>by rw[hx0]at z;exact z
 refine wpAny_Try_except (wpAny_execs_cons (wpAny_Expr_any (J1 (ft0 d (hr.mono hkm) ha nox hg hdb he hpl I h) (λu s1 ⟨v,H1,I1,r1,q1⟩=>S7 ?_) λe' s' ⟨H1,s1,I1,ea,C,dx,H',ee,F,C',ec,hm,hq⟩=>?_) I.quiet hsw))
 . exact S7 ⟨O,H1,I1,q1⟩
 . subst ee;cases ec;exact em6 I1 hex hst hfr S.nd hj hl hz hdz nox C0 hs F hm (hq ea F.free)
end
end L2
namespace L2
end L2
namespace TL
open L2
inductive T where
 |non|bl (b:Bool)|int (i:Int)|str (x:Str)|ty (n:String)
 |err (c:Str) (fs:c5)
 |lst (o:Bool) (xs:List T)
 |tup (xs:List T)
 |ins (o:Bool) (c:Str) (ns:am) (xs:List T)
mutual
noncomputable def frz:T->T
 |.lst _ xs=>.lst false (frzs xs)
 |.tup xs=>.tup (frzs xs)
 |.ins _ c ns xs=>.ins false c ns (frzs xs)
 |.non=>.non
 |.bl b=>.bl b
 |.int i=>.int i
 |.str x=>.str x
 |.ty n=>.ty n
 |.err c fs=>.err c fs
noncomputable def frzs:List T->List T
 |[]=>[]
 |t::ts=>frz t::frzs ts
end
mutual
noncomputable def cQ:T->Bool
 |.lst o xs=>!o&&bF xs
 |.tup xs=>bF xs
 |.ins o _ _ xs=>!o&&bF xs
 |.non=>true
 |.bl _=>true
 |.int _=>true
 |.str _=>true
 |.ty _=>true
 |.err _ _=>true
noncomputable def bF:List T->Bool
 |[]=>true
 |t::ts=>cQ t&&bF ts
end
mutual
noncomputable def cK:T->Bool
 |.lst o xs=>o&&dI xs
 |.tup xs=>dI xs
 |.ins o _ _ xs=>o&&dI xs
 |.non=>true
 |.bl _=>true
 |.int _=>true
 |.str _=>true
 |.ty _=>true
 |.err _ _=>true
noncomputable def dI:List T->Bool
 |[]=>true
 |t::ts=>cK t&&dI ts
end
theorem sG:∀ts,bF ts=ts.all cQ
 |[]=>rfl
 |t::ts=>by simp[bF,sG ts]
theorem ac5:∀ts,dI ts=ts.all cK
 |[]=>rfl
 |t::ts=>by simp[dI,ac5 ts]
mutual
theorem bd5:∀t,cQ t=true->frz t=t
 |.lst o xs,h=>by simp only[cQ,E4,X6]at h;rw[frz,jI xs h.2,h.1]
 |.tup xs,h=>by simp only[cQ]at h;rw[frz,jI xs h]
 |.ins o _ _ xs,h=>by simp only[cQ,E4,X6]at h;rw[frz,jI xs h.2,h.1]
 |.non,_=>rfl
 |.bl _,_=>rfl
 |.int _,_=>rfl
 |.str _,_=>rfl
 |.ty _,_=>rfl
 |.err _ _,_=>rfl
theorem jI:∀ts,bF ts=true->frzs ts=ts
 |[],_=>rfl
 |t::ts,h=>by simp only[bF,E4]at h;rw[frzs,bd5 t h.1,jI ts h.2]
end
structure Exc where
 c:Str
 fs:List (Str×V)
inductive Res (α:Type) where
 |ok (a:α)|ex (x:Exc)|no
noncomputable def Res.bind{α β:Type}:Res α->(α->Res β)->Res β
 |.ok a,f=>f a
 |.ex x,_=>.ex x
 |.no,_=>.no
abbrev Fr:=List (Option T)
abbrev aw:=List T
abbrev ay:=Fr->Res (List T)
abbrev a8:=Fr->Res T
abbrev bc:=List T->Res T
abbrev be:=Option T
abbrev bi:=Fr->Res (List Nat)
abbrev bq:=T->Fr->Option Fr
abbrev bu:=Fr->Res Bool
abbrev bv:=T->T->T->Res (T×T×T)
abbrev b_:=List (Option T)
abbrev ce:=List T->Fr->Option Fr
abbrev ci:=Nat->Fr->Prop
abbrev cm:=Fr->Prop
abbrev c7:=Fr->Res (Option Int)
abbrev c9:=T->Option Int->Option Int->Res T
abbrev c_:=List T->List T->Option (List T)
inductive bR where
 |nx (U:Fr)|rt (t:T)|rm (U:Fr) (t:T)|bk (U:Fr)|ct (U:Fr)|ex (x:Exc)|no
noncomputable def sM:HO->Bool
 |.tup _=>true
 |.frz _ _=>true
 |.ext _=>true
 |.xd _=>true
 |_=>false
def FzL(K:A1)(H:Hp)(Z:av)(a:Addr)(xs:a9):Prop:=
 (H a=some (.lst xs)/\Z a)\/(∃o,H a=some (.frz o (.lst xs)))\/
  ∃(o:Obj)(its:bx)(n:Nat),K.lookup a=some o/\o.cls=.type "list"/\o.dict=none/\o.slots=#[]/\o.data=.seq its n/\its.size<=sizeLine/\Vals xs its.toList
def FzL.sqS{K:A1}{H:Hp}{Z:av}{a:Addr}{xs:a9}(h:FzL K H Z a xs):SqS K H a xs:=by
 rcases h with⟨h,_⟩|⟨o,h⟩|h
 . exact .inl (.inl h)
 . exact .inl (.inr ⟨o,h⟩)
 . exact .inr h
theorem FzL.sq{K:A1}{H:Hp}{Z:av}{a:Addr}{xs:a9}(h:FzL K H Z a xs):SqL K H a xs:=h.sqS.sq
section
variable(K:A1)(cn:ac)
mutual
def Rep(H:Hp)(Z:av):T->V->List Addr->Prop
 |.non,v,A=>v=.non/\A=[]
 |.bl b,v,A=>v=.bl b/\A=[]
 |.int i,v,A=>v=.int i/\A=[]
 |.str x,v,A=>v=.str x/\A=[]
 |.ty n,v,A=>v=.ty n/\A=[]
 |.err c fs,v,A=>∃a C dx,v=.ref a/\A=[]/\cn c=some C/\H a=some (uE a C dx)/\af8 H dx fs
 |.lst true ts,v,A=>∃a vs B,v=.ref a/\A=a::B/\H a=some (.lst vs)/\Reps H Z ts vs B
 |.lst false ts,v,A=>∃a vs,v=.ref a/\A=[]/\FzL K H Z a vs/\Reps H Z ts vs []
 |.tup ts,v,A=>∃a vs,v=.ref a/\SqT K H a vs/\Reps H Z ts vs A
 |.ins true c ns ts,v,A=>∃a C dx vs B,v=.ref a/\A=a::B/\cn c=some C/\H a=some (.ins C dx (ns.zip vs))/\ns.length=vs.length/\Reps H Z ts vs B
 |.ins false c ns ts,v,A=>∃a C dx vs,v=.ref a/\A=[]/\cn c=some C/\H a=some (.ins C dx (ns.zip vs))/\Z a/\ns.length=vs.length/\Reps H Z ts vs []
def Reps(H:Hp)(Z:av):List T->List V->List Addr->Prop
 |[],vs,A=>vs=[]/\A=[]
 |t::ts,vs,A=>∃v r B C,vs=v::r/\A=B++C/\Rep H Z t v B/\Reps H Z ts r C
end
end
section
variable{K:A1}{cn:ac}{H H':Hp}{Z Z':av}
def FzL.keep(h:FzL K H Z a xs)(hk:∀a o,H a=some o->(Z a\/sM o=true)->H' a=some o)(hz:∀a,Z a->Z' a):FzL K H' Z' a xs:=by
 rcases h with⟨h,z⟩|⟨o,h⟩|h
 . exact .inl ⟨hk _ _ h (.inl z),hz _ z⟩
 . exact .inr (.inl ⟨o,hk _ _ h (.inr rfl)⟩)
 . exact .inr (.inr h)
def SqT.keep(h:SqT K H a xs)(hk:∀a o,H a=some o->sM o=true->H' a=some o):SqT K H' a xs:=by
 rcases h with(h|⟨o,h⟩)|h
 . exact .inl (.inl (hk _ _ h rfl))
 . exact .inl (.inr ⟨o,hk _ _ h rfl⟩)
 . exact .inr h
mutual
theorem Rep.keep:∀(t:T){v:V}{A:ao},Rep K cn H Z t v A->(∀a o,H a=some o->(a∈A\/Z a\/sM o=true)->H' a=some o)->(∀a,Z a->Z' a)->Rep K cn H' Z' t v A
 |.non,_,_,h,_,_=>by simpa only[Rep]using h
 |.bl _,_,_,h,_,_=>by simpa only[Rep]using h
 |.int _,_,_,h,_,_=>by simpa only[Rep]using h
 |.str _,_,_,h,_,_=>by simpa only[Rep]using h
 |.ty _,_,_,h,_,_=>by simpa only[Rep]using h
 |.err _ _,_,_,h,hk,_=>by simp only[Rep]at h⊢;refine z34 h λa C dx e1 e2 e3 e4 e5=>?_;exact⟨a,C,dx,e1,e2,e3,hk _ _ e4 (.inr (.inr rfl)),e5.imp_right λ⟨d,q1,q2⟩=>⟨d,q1,hk _ _ q2 (.inr (.inr rfl))⟩⟩
 |.lst true ts,v,A,h,hk,hz=>by simp only[Rep]at h⊢;refine z33 h λa vs B zz zy e r=>?_;clear h;subst zz zy;exact⟨a,vs,B,rfl,rfl,hk a _ e (.inl A9),Reps.keep ts r (λb o q c=>hk b o q (c.imp_left (A5 _))) hz⟩
 |.lst false ts,v,A,h,hk,hz=>by simp only[Rep]at h⊢;refine z23 h λa vs zz zy e r=>?_;clear h;subst zz zy;exact⟨a,vs,rfl,rfl,e.keep (λb o q c=>hk b o q (.inr c)) hz,Reps.keep ts r hk hz⟩
 |.tup ts,v,A,h,hk,hz=>by simp only[Rep]at h⊢;refine z22 h λa vs zz e r=>?_;clear h;subst zz;exact⟨a,vs,rfl,SqT.keep e (λb o q c=>hk b o q (.inr (.inr c))),Reps.keep ts r hk hz⟩
 |.ins true c ns ts,v,A,h,hk,hz=>by simp only[Rep]at h⊢;refine z55 h λa C dx vs B zz zy hc e l r=>?_;clear h;subst zz zy;exact⟨a,C,dx,vs,B,rfl,rfl,hc,hk a _ e (.inl A9),l,Reps.keep ts r (λb o q c=>hk b o q (c.imp_left (A5 _))) hz⟩
 |.ins false c ns ts,v,A,h,hk,hz=>by simp only[Rep]at h⊢;refine z46 h λa C dx vs zz zy hc e z l r=>?_;clear h;subst zz zy;exact⟨a,C,dx,vs,rfl,rfl,hc,hk a _ e (.inr (.inl z)),hz a z,l,Reps.keep ts r hk hz⟩
theorem Reps.keep:∀(ts:aw){vs:a9}{A:ao},Reps K cn H Z ts vs A->(∀a o,H a=some o->(a∈A\/Z a\/sM o=true)->H' a=some o)->(∀a,Z a->Z' a)->Reps K cn H' Z' ts vs A
 |[],_,_,h,_,_=>by simpa only[Reps]using h
 |t::ts,vs,A,h,hk,hz=>by simp only[Reps]at h⊢;refine z43 h λv r B C zz zy h1 h2=>?_;clear h;subst zz zy;exact⟨v,r,B,C,rfl,rfl,Rep.keep t h1 (λb o q c=>hk b o q (c.imp_left (C6 _))) hz,Reps.keep ts h2 (λb o q c=>hk b o q (c.imp_left (B5 _))) hz⟩
end
def Rep.same(h:Rep K cn H Z t v A)(s:Same H H')(hz:∀a,Z a->Z' a):Rep K cn H' Z' t v A:=Rep.keep t h (λa o q _=>s a o q) hz
def Reps.same(h:Reps K cn H Z t v A)(s:Same H H')(hz:∀a,Z a->Z' a):Reps K cn H' Z' t v A:=Reps.keep t h (λa o q _=>s a o q) hz
def cx8(h:H a=some o)(h':H b=some o')(i:sM o=true)(i':sM o'=false):a≠b:=by rintro rfl;rw[h]at h';cases h';rw[i]at i';cases i'
theorem Rep.upd(h:Rep K cn H Z t v A)(ha:H a=some o)(hi:sM o=false)(hA:a∉A)(hZ:¬Z a):Rep K cn (L2.upd H a o') Z t v A:=
 Rep.keep t h (λb u q c=>by
  rw[cE]
  . exact q
  . rcases c with c|c|c
    . rintro rfl;exact hA c
    . rintro rfl;exact hZ c
    . exact cx8 q ha c hi) (λ_ z=>z)
theorem Reps.upd(h:Reps K cn H Z t v A)(ha:H a=some o)(hi:sM o=false)(hA:a∉A)(hZ:¬Z a):Reps K cn (L2.upd H a o') Z t v A:=
 Reps.keep t h (λb u q c=>by
  rw[cE]
  . exact q
  . rcases c with c|c|c
    . rintro rfl;exact hA c
    . rintro rfl;exact hZ c
    . exact cx8 q ha c hi) (λ_ z=>z)
mutual
theorem Rep.frz:∀(t:T){v:V}{A:ao},Rep K cn H Z t v A->(∀a,Z a->Z' a)->(∀a∈A,Z' a)->Rep K cn H Z' (frz t) v []
 |.non,_,_,h,_,_=>by simp only[Rep,TL.frz]at h⊢;exact⟨h.1,trivial⟩
 |.bl _,_,_,h,_,_=>by simp only[Rep,TL.frz]at h⊢;exact⟨h.1,trivial⟩
 |.int _,_,_,h,_,_=>by simp only[Rep,TL.frz]at h⊢;exact⟨h.1,trivial⟩
 |.str _,_,_,h,_,_=>by simp only[Rep,TL.frz]at h⊢;exact⟨h.1,trivial⟩
 |.ty _,_,_,h,_,_=>by simp only[Rep,TL.frz]at h⊢;exact⟨h.1,trivial⟩
 |.err _ _,_,_,h,_,_=>by simp only[Rep,TL.frz]at h⊢;refine z34 h λa C dx e1 e2 e3 e4 e5=>?_;exact⟨a,C,dx,e1,trivial,e3,e4,e5⟩
 |.lst true ts,v,A,h,hz,hA=>by simp only[Rep,TL.frz]at h⊢;refine z33 h λa vs B zz zy e r=>?_;clear h;subst zz zy;exact⟨a,vs,rfl,trivial,.inl ⟨e,hA a A9⟩,Reps.frz ts r hz λb hb=>hA b (A5 _ hb)⟩
 |.lst false ts,v,A,h,hz,hA=>by simp only[Rep,TL.frz]at h⊢;refine z23 h λa vs zz zy e r=>?_;clear h;subst zz zy;exact⟨a,vs,rfl,trivial,e.keep (λ_ _ q _=>q) hz,Reps.frz ts r hz hA⟩
 |.tup ts,v,A,h,hz,hA=>by simp only[Rep,TL.frz]at h⊢;refine z22 h λa vs zz e r=>?_;clear h;subst zz;exact⟨a,vs,rfl,e,Reps.frz ts r hz hA⟩
 |.ins true c ns ts,v,A,h,hz,hA=>by simp only[Rep,TL.frz]at h⊢;refine z55 h λa C dx vs B zz zy hc e l r=>?_;clear h;subst zz zy;exact⟨a,C,dx,vs,rfl,trivial,hc,e,hA a A9,l,Reps.frz ts r hz λb hb=>hA b (A5 _ hb)⟩
 |.ins false c ns ts,v,A,h,hz,hA=>by simp only[Rep,TL.frz]at h⊢;refine z46 h λa C dx vs zz zy hc e z l r=>?_;clear h;subst zz zy;exact⟨a,C,dx,vs,rfl,trivial,hc,e,hz a z,l,Reps.frz ts r hz hA⟩
theorem Reps.frz:∀(ts:aw){vs:a9}{A:ao},Reps K cn H Z ts vs A->(∀a,Z a->Z' a)->(∀a∈A,Z' a)->Reps K cn H Z' (frzs ts) vs []
 |[],_,_,h,_,_=>by simp only[Reps,TL.frzs]at h⊢;exact⟨h.1,trivial⟩
 |t::ts,vs,A,h,hz,hA=>by simp only[Reps,TL.frzs]at h⊢;refine z43 h λv r B C zz zy h1 h2=>?_;clear h;subst zz zy;exact⟨v,r,[],[],rfl,rfl,Rep.frz t h1 hz λb hb=>hA b (C6 _ hb),Reps.frz ts h2 hz λb hb=>hA b (B5 _ hb)⟩
end
mutual
theorem Rep.any:∀(t:T){v:V}{A:ao},cK t=true->Rep K cn H Z t v A->Rep K cn H Z' t v A
 |.non,_,_,_,h=>by simpa only[Rep]using h
 |.bl _,_,_,_,h=>by simpa only[Rep]using h
 |.int _,_,_,_,h=>by simpa only[Rep]using h
 |.str _,_,_,_,h=>by simpa only[Rep]using h
 |.ty _,_,_,_,h=>by simpa only[Rep]using h
 |.err _ _,_,_,_,h=>by simpa only[Rep]using h
 |.lst true ts,v,A,c,h=>by simp only[Rep,cK,W1]at h c⊢;refine z33 h λa vs B zz zy e r=>?_;clear h;subst zz zy;exact⟨a,vs,B,rfl,rfl,e,Reps.any ts c r⟩
 |.lst false ts,v,A,c,h=>by simp[cK]at c
 |.tup ts,v,A,c,h=>by simp only[Rep,cK]at h c⊢;refine z22 h λa vs zz e r=>?_;clear h;subst zz;exact⟨a,vs,rfl,e,Reps.any ts c r⟩
 |.ins true cc ns ts,v,A,c,h=>by simp only[Rep,cK,W1]at h c⊢;refine z55 h λa C dx vs B zz zy hc e l r=>?_;clear h;subst zz zy;exact⟨a,C,dx,vs,B,rfl,rfl,hc,e,l,Reps.any ts c r⟩
 |.ins false cc ns ts,v,A,c,h=>by simp[cK]at c
theorem Reps.any:∀(ts:aw){vs:a9}{A:ao},dI ts=true->Reps K cn H Z ts vs A->Reps K cn H Z' ts vs A
 |[],_,_,_,h=>by simpa only[Reps]using h
 |t::ts,vs,A,c,h=>by simp only[Reps,dI,E4]at h c⊢;refine z43 h λv r B C zz zy h1 h2=>?_;clear h;subst zz zy;exact⟨v,r,B,C,rfl,rfl,Rep.any t c.1 h1,Reps.any ts c.2 h2⟩
end
mutual
theorem Rep.bare:∀(t:T){v:V}{A:ao},cQ t=true->Rep K cn H Z t v A->A=[]
 |.non,_,_,_,h=>by simp only[Rep]at h;exact h.2
 |.bl _,_,_,_,h=>by simp only[Rep]at h;exact h.2
 |.int _,_,_,_,h=>by simp only[Rep]at h;exact h.2
 |.str _,_,_,_,h=>by simp only[Rep]at h;exact h.2
 |.ty _,_,_,_,h=>by simp only[Rep]at h;exact h.2
 |.err _ _,_,_,_,h=>by simp only[Rep]at h;refine z34 h λa C dx e1 e2 e3 e4 e5=>?_;exact e2
 |.lst true ts,v,A,c,h=>by simp[cQ]at c
 |.lst false ts,v,A,c,h=>by simp only[Rep]at h;refine z23 h λa vs zz zy e r=>?_;clear h;subst zz zy;rfl
 |.tup ts,v,A,c,h=>by simp only[Rep,cQ]at h c;refine z22 h λa vs zz e r=>?_;clear h;subst zz;exact Reps.bare ts c r
 |.ins true cc ns ts,v,A,c,h=>by simp[cQ]at c
 |.ins false cc ns ts,v,A,c,h=>by simp only[Rep]at h;refine z42 h λa C dx vs zz zy _=>?_;clear h;subst zz zy;rfl
theorem Reps.bare:∀(ts:aw){vs:a9}{A:ao},bF ts=true->Reps K cn H Z ts vs A->A=[]
 |[],_,_,_,h=>by simp only[Reps]at h;exact h.2
 |t::ts,vs,A,c,h=>by simp only[Reps,bF,E4]at h c;refine z43 h λv r B C zz zy h1 h2=>?_;clear h;subst zz zy;rw[Rep.bare t c.1 h1,Reps.bare ts c.2 h2];rfl
end
mutual
theorem Rep.dom:∀(t:T){v:V}{A:ao},Rep K cn H Z t v A->∀a∈A,∃o,H a=some o/\sM o=false
 |.non,_,_,h=>by simp only[Rep]at h;rw[h.2];intro a ha;cases ha
 |.bl _,_,_,h=>by simp only[Rep]at h;rw[h.2];intro a ha;cases ha
 |.int _,_,_,h=>by simp only[Rep]at h;rw[h.2];intro a ha;cases ha
 |.str _,_,_,h=>by simp only[Rep]at h;rw[h.2];intro a ha;cases ha
 |.ty _,_,_,h=>by simp only[Rep]at h;rw[h.2];intro a ha;cases ha
 |.err _ _,_,_,h=>by simp only[Rep]at h;refine z34 h λa C dx e1 e2 e3 e4 e5=>?_;rw[e2];intro a ha;cases ha
 |.lst true ts,v,A,h=>by
  simp only[Rep]at h;refine z33 h λa vs B zz zy e r=>?_;clear h;subst zz zy;intro b hb;rcases B6.mp hb with rfl|hb
  . exact⟨_,e,rfl⟩
  . exact Reps.dom ts r b hb
 |.lst false ts,v,A,h=>by simp only[Rep]at h;refine z23 h λa vs zz zy e r=>?_;clear h;subst zz zy;intro a ha;cases ha
 |.tup ts,v,A,h=>by simp only[Rep]at h;refine z22 h λa vs zz e r=>?_;clear h;subst zz;exact Reps.dom ts r
 |.ins true cc ns ts,v,A,h=>by
  simp only[Rep]at h;refine z55 h λa C dx vs B zz zy hc e l r=>?_;clear h;subst zz zy;intro b hb;rcases B6.mp hb with rfl|hb
  . exact⟨_,e,rfl⟩
  . exact Reps.dom ts r b hb
 |.ins false cc ns ts,v,A,h=>by simp only[Rep]at h;refine z42 h λa C dx vs zz zy _=>?_;clear h;subst zz zy;intro a ha;cases ha
theorem Reps.dom:∀(ts:aw){vs:a9}{A:ao},Reps K cn H Z ts vs A->∀a∈A,∃o,H a=some o/\sM o=false
 |[],_,_,h=>by simp only[Reps]at h;rw[h.2];intro a ha;cases ha
 |t::ts,vs,A,h=>by
  simp only[Reps]at h;refine z43 h λv r B C zz zy h1 h2=>?_;clear h;subst zz zy;intro a ha;rcases A6.mp ha with ha|ha
  . exact Rep.dom t h1 a ha
  . exact Reps.dom ts h2 a ha
end
theorem Reps.length:∀(ts:aw){vs:a9}{A:ao},Reps K cn H Z ts vs A->vs.length=ts.length
 |[],_,_,h=>by simp only[Reps]at h;rw[h.1];rfl
 |t::ts,vs,A,h=>by simp only[Reps]at h;refine z43 h λv r B C zz zy h1 h2=>?_;clear h;subst zz zy;simp[Reps.length ts h2]
theorem Reps.get:∀(ts:aw){vs:a9}{A:ao}{i:Nat}{t:T},Reps K cn H Z ts vs A->ts[i]?=some t->∃v B,vs[i]?=some v/\Rep K cn H Z t v B/\(∀b∈B,b∈A)/\B.Sublist A
 |[],_,_,_,_,h,e=>by simp at e
 |t::ts,vs,A,0,t',h,e=>by simp only[Reps]at h;refine z43 h λv r B C zz zy h1 h2=>?_;clear h;subst zz zy;simp at e;subst e;exact⟨v,B,rfl,h1,λb hb=>C6 _ hb,V6 _ _⟩
 |t::ts,vs,A,i+1,t',h,e=>by simp only[Reps]at h;refine z43 h λv r B C zz zy h1 h2=>?_;clear h;subst zz zy;obtain⟨v',B',e1,e2,e3,e4⟩:=Reps.get ts (i:=i) h2 (by simpa using e);exact⟨v',B',by simpa using e1,e2,λb hb=>B5 _ (e3 b hb),e4.trans (List.sublist_append_right _ _)⟩
theorem Reps.append:∀(ts:aw){us:aw}{vs ws:a9}{A B:ao},Reps K cn H Z ts vs A->Reps K cn H Z us ws B->Reps K cn H Z (ts++us) (vs++ws) (A++B)
 |[],us,vs,ws,A,B,h,h'=>by simp only[Reps]at h;obtain⟨rfl,rfl⟩:=h;exact h'
 |t::ts,us,vs,ws,A,B,h,h'=>by simp only[Reps,List.cons_append]at h⊢;refine z43 h λv r C D zz zy h1 h2=>?_;clear h;subst zz zy;exact⟨v,r++ws,C,D++B,rfl,Y1,h1,Reps.append ts h2 h'⟩
def Reps.one(h:Rep K cn H Z t v B):Reps K cn H Z [t] [v] B:=by simp only[Reps];exact⟨v,[],B,[],rfl,Y1,h,rfl,rfl⟩
def Reps.nil:Reps K cn H Z [] [] []:=by simp[Reps]
theorem Reps.take:∀(n:Nat)(ts:aw){vs:a9},Reps K cn H Z ts vs []->Reps K cn H Z (ts.take n) (vs.take n) []
 |0,ts,vs,h=>by simp[Reps]
 |n+1,[],vs,h=>by simp only[Reps]at h;obtain⟨rfl,_⟩:=h;simp[Reps]
 |n+1,t::ts,vs,h=>by
  simp only[Reps]at h;refine z43 h λv r B C zz e h1 h2=>?_;clear h;subst zz;have eb:B=[]/\C=[]:=by simpa using e.symm
  obtain⟨rfl,rfl⟩:=eb;simp only[List.take_succ_cons,Reps];exact⟨v,r.take n,[],[],rfl,rfl,h1,Reps.take n ts h2⟩
theorem Reps.drop:∀(n:Nat)(ts:aw){vs:a9},Reps K cn H Z ts vs []->Reps K cn H Z (ts.drop n) (vs.drop n) []
 |0,ts,vs,h=>h
 |n+1,[],vs,h=>by simp only[Reps]at h;obtain⟨rfl,_⟩:=h;simp[Reps]
 |n+1,t::ts,vs,h=>by
  simp only[Reps]at h;refine z43 h λv r B C zz e h1 h2=>?_;clear h;subst zz;have eb:B=[]/\C=[]:=by simpa using e.symm
  obtain⟨rfl,rfl⟩:=eb;simpa using Reps.drop n ts h2
end
open L2
abbrev St:=L2.St
def ci1(h:H p=none)(o:HO):Same H (L2.upd H p o):=λb u q=>by rw[cE (hU q h)];exact q
def dN{α:Type}{P:α->Prop}:∀b∈([]:List α),P b:=λ_ h=>nomatch h
def Slot(K:A1)(cn:ac)(H:Hp)(Z:av)(o:be)(w:Option V)(A:ao):Prop:=
 match o with
 |none=>A=[]
 |some t=>∃v,w=some v/\Rep K cn H Z t v A
def Slots(K:A1)(cn:ac)(H:Hp)(Z:av):Fr->St->List (List Addr)->Prop
 |[],O,As=>O=[]/\As=[]
 |o::U,O,As=>∃w σ' A As',O=w::σ'/\As=A::As'/\Slot K cn H Z o w A/\Slots K cn H Z U σ' As'
abbrev iK:=List (Nat×V)
structure Frm (Jn:iK) (K:A1) (cn:ac) (H:Hp) (Z:av) (U:Fr) (O:St) (As:af):Prop where
 sl:Slots K cn H Z U O As
 nd:As.flatten.Nodup
 nz:∀a∈As.flatten,¬Z a
 zi:∀a,Z a->H a≠none
 pn:∀p∈Jn,O[p.1]?=some (some p.2)
structure Ev (As:af) (H:Hp) (Z:av) (As':af) (H':Hp) (Z':av):Prop where
 keep:∀a o,H a=some o->a∉As.flatten->H' a=some o
 own:∀a∈As'.flatten,a∈As.flatten\/H a=none
 zz:∀a,Z a->Z' a
 zn:∀a,Z' a->Z a\/a∈As.flatten\/H a=none
 dom:∀a,H' a=none->H a=none
def Ev.refl:Ev As H Z As H Z:=
 ⟨λ_ _ h _=>h,λ_ h=>.inl h,λ_ h=>h,λ_ h=>.inl h,λ_ h=>h⟩
def Ev.trans(a:Ev As H Z As1 H1 Z1)(b:Ev As1 H1 Z1 As2 H2 Z2):Ev As H Z As2 H2 Z2 where
 keep:=λx o h n=>b.keep x o (a.keep x o h n) λq=>by
  rcases a.own x q with q|q
  . exact n q
  . rw[h]at q;cases q
 own:=λx h=>by
  rcases b.own x h with q|q
  . exact a.own x q
  . exact .inr (a.dom x q)
 zz:=λx h=>b.zz x (a.zz x h)
 zn:=λx h=>by
  rcases b.zn x h with q|q|q
  . exact a.zn x q
  . exact .inr (a.own x q)
  . exact .inr (.inr (a.dom x q))
 dom:=λx h=>a.dom x (b.dom x h)
structure Post (K:A1) (cn:ac) (As:af) (H:Hp) (Z:av) (mv:ax) (H':Hp) (Z':av) (t:T) (v:V) (B:ao):Prop where
 same:Same H H'
 zz:∀a,Z a->Z' a
 zn:∀a,Z' a->Z a\/H a=none
 zi:∀a,Z' a->H' a≠none
 rep:Rep K cn H' Z' t v B
 nd:B.Nodup
 bz:∀b∈B,¬Z' b
 bn:∀b∈B,H b=none\/∃i∈mv,b∈As.getD i []
structure PostB (K:A1) (cn:ac) (H:Hp) (Z:av) (H':Hp) (Z':av) (t:T) (v:V) (B:ao):Prop where
 same:Same H H'
 zz:∀a,Z a->Z' a
 zn:∀a,Z' a->Z a\/H a=none
 zi:∀a,Z' a->H' a≠none
 rep:Rep K cn H' Z' t v B
structure XPost (K:A1) (cn:ac) (As:af) (H:Hp) (Z:av) (x:Exc) (C:Addr) (a:bb) (H':Hp) (Z':av):Prop where
 ev:Ev As H Z [] H' Z'
 cls:cn x.c=some C
 zi:∀a,Z' a->H' a≠none
 flds:af8 H' a x.fs
section
variable(Jn:iK)(K:A1)(cn:ac)(E:XK)
def WpX(As:af)(H:Hp)(Z:av)(x:Exc):Prop:=∀C a H' Z',XPost K cn As H Z x C a H' Z'->E (.ref C) a H'
def WpE(As:af)(H:Hp)(Z:av)(mv:ax)(Q:VK):Res T->Prop
 |.ok t=>∀v H' Z' B,Post K cn As H Z mv H' Z' t v B->Q v H'
 |.ex x=>WpX K cn E As H Z x
 |.no=>False
def WpB(As:af)(H:Hp)(Z:av)(Q:VK):Res T->Prop
 |.ok t=>∀v H' Z' B,PostB K cn H Z H' Z' t v B->Q v H'
 |.ex x=>WpX K cn E As H Z x
 |.no=>False
structure PostT (H:Hp) (Z:av) (H':Hp) (Z':av):Prop where
 same:Same H H'
 zz:∀a,Z a->Z' a
 zn:∀a,Z' a->Z a\/H a=none
 zi:∀a,Z' a->H' a≠none
def WpT(As:af)(H:Hp)(Z:av)(Q:b8):Res Bool->Prop
 |.ok b=>∀H' Z',PostT H Z H' Z'->Q b H'
 |.ex x=>WpX K cn E As H Z x
 |.no=>False
structure fp0 (As:af) (H:Hp) (Z:av) (t:T) (v:V) (H':Hp) (Z':av) (B:ao):Prop where
 ev:Ev As H Z [B] H' Z'
 rep:Rep K cn H' Z' t v B
 nd:B.Nodup
 bz:∀b∈B,¬Z' b
 zi:∀a,Z' a->H' a≠none
def Wp(As:af)(H:Hp)(Z:av)(D:zZ):bR->Prop
 |.nx U=>∀σ' As' H' Z',Frm Jn K cn H' Z' U σ' As'->Ev As H Z As' H' Z'->D.nx σ' H'
 |.bk U=>∀σ' As' H' Z',Frm Jn K cn H' Z' U σ' As'->Ev As H Z As' H' Z'->D.bk σ' H'
 |.ct U=>∀σ' As' H' Z',Frm Jn K cn H' Z' U σ' As'->Ev As H Z As' H' Z'->D.ct σ' H'
 |.rt t=>∀v H' Z' B,fp0 K cn As H Z t v H' Z' B->D.rt v H'
 |.rm U t=>∀v σ' As' H' Z',Frm Jn K cn H' Z' U σ' As'->Ev As H Z As' H' Z'->Rep K cn H' Z' t v []->D.rt v H'
 |.ex x=>WpX K cn E As H Z x
 |.no=>False
def RE(mv:ax)(te:TE)(d:a8):Prop:=∀As H Z U O,Frm Jn K cn H Z U O As->∀Q,WpE K cn E As H Z mv Q (d U)->te O H Q
def RB(te:TE)(d:a8):Prop:=∀As H Z U O,Frm Jn K cn H Z U O As->∀Q,WpB K cn E As H Z Q (d U)->te O H Q
def RT(tt:TT)(d:bu):Prop:=∀As H Z U O,Frm Jn K cn H Z U O As->∀Q,WpT K cn E As H Z Q (d U)->tt O H Q
def RS(ts:TS)(d:Fr->bR):Prop:=∀As H Z U O,Frm Jn K cn H Z U O As->∀D,Wp Jn K cn E As H Z D (d U)->ts D O H
end
section
variable{Jn:iK}{K:A1}{cn:ac}{E:XK}{As As1:af}{H H1:Hp}{Z Z1:av}{U:Fr}{O:St}
theorem WpX.ev(h:WpX K cn E As H Z x)(e:Ev As H Z As1 H1 Z1):WpX K cn E As1 H1 Z1 x:=λC a H' Z' p=>h C a H' Z' ⟨e.trans p.ev,p.cls,p.zi,p.flds⟩
theorem Wp.ev(h:Wp Jn K cn E As H Z D o)(e:Ev As H Z As1 H1 Z1):Wp Jn K cn E As1 H1 Z1 D o:=by
 cases o with
 |rt t=>exact λv H' Z' B p=>h v H' Z' B ⟨e.trans p.ev,p.rep,p.nd,p.bz,p.zi⟩
 |rm U t=>exact λv σ' As' H' Z' f q r=>h v σ' As' H' Z' f (e.trans q) r
 |ex x=>exact WpX.ev h e
 |no=>exact h
 |_=>exact λσ' As' H' Z' f q=>h σ' As' H' Z' f (e.trans q)
structure Mo (H:Hp) (Z:av) (H':Hp) (Z':av):Prop where
 same:Same H H'
 zz:∀a,Z a->Z' a
 zn:∀a,Z' a->Z a\/H a=none
 zi:∀a,Z' a->H' a≠none
def Mo.ev(m:Mo H Z H' Z'):Ev As H Z As H' Z':=
 ⟨λa o h _=>m.same a o h,λ_ h=>.inl h,m.zz,λa h=>(m.zn a h).imp_right .inr,λa h=>m.same.free h⟩
theorem Mo.trans(a:Mo H Z H1 Z1)(b:Mo H1 Z1 H2 Z2):Mo H Z H2 Z2:=
 ⟨a.same.trans b.same,λx h=>b.zz x (a.zz x h),λx h=>by
  rcases b.zn x h with q|q
  . exact a.zn x q
  . exact .inr (a.same.free q),b.zi⟩
def Frm.mo0(F:Frm Jn K cn H Z U O As):Mo H Z H Z:=⟨Same.refl _,λ_ h=>h,λ_ h=>.inl h,F.zi⟩
def Post.mo(p:Post K cn As H Z mv H' Z' t v B):Mo H Z H' Z':=⟨p.same,p.zz,p.zn,p.zi⟩
def PostB.mo(p:PostB K cn H Z H' Z' t v B):Mo H Z H' Z':=⟨p.same,p.zz,p.zn,p.zi⟩
def PostT.mo(p:PostT H Z H' Z'):Mo H Z H' Z':=⟨p.same,p.zz,p.zn,p.zi⟩
def Mo.postT(p:Mo H Z H' Z'):PostT H Z H' Z':=⟨p.same,p.zz,p.zn,p.zi⟩
theorem Slot.mo(h:Slot K cn H Z o w A)(s:Same H H')(hz:∀a,Z a->Z' a):Slot K cn H' Z' o w A:=by
 cases o with
 |none=>exact h
 |some t=>obtain⟨v,e,r⟩:=h;exact⟨v,e,r.same s hz⟩
theorem Slots.mo(s:Same H H')(hz:∀a,Z a->Z' a):∀{U:Fr}{O:St}{As:af},Slots K cn H Z U O As->Slots K cn H' Z' U O As
 |[],_,_,h=>h
 |o::U,_,_,h=>by refine z43 h λw σ' A As' zz zy h1 h2=>?_;clear h;subst zz zy;exact⟨w,σ',A,As',rfl,rfl,h1.mo s hz,Slots.mo s hz h2⟩
theorem Slots.dom:∀{U:Fr}{O:St}{As:af},Slots K cn H Z U O As->∀a∈As.flatten,∃o,H a=some o/\sM o=false
 |[],_,_,h,a,ha=>by obtain⟨rfl,rfl⟩:=h;simp at ha
 |o::U,_,_,h,a,ha=>by
  refine z43 h λw σ' A As' zz zy h1 h2=>?_;clear h;subst zz zy;rw[B8,A6]at ha;rcases ha with ha|ha
  . cases o with
    |none=>have:A=[]:=h1;subst this;cases ha
    |some t=>obtain⟨v,e,r⟩:=h1;exact r.dom t a ha
  . exact Slots.dom h2 a ha
theorem Frm.mo(F:Frm Jn K cn H Z U O As)(m:Mo H Z H' Z'):Frm Jn K cn H' Z' U O As:=by
 refine⟨F.sl.mo m.same m.zz,F.nd,λa ha z=>?_,m.zi,F.pn⟩;rcases m.zn a z with q|q
 . exact F.nz a ha q
 . obtain⟨o,e,_⟩:=F.sl.dom a ha;rw[e]at q;cases q
theorem WpE.mo(F:Frm Jn K cn H Z U O As)(h:WpE K cn E As H Z mv Q r)(m:Mo H Z H' Z'):WpE K cn E As H' Z' mv Q r:=by
 cases r with
 |ok t=>exact λv H2 Z2 B p=>h v H2 Z2 B ⟨m.same.trans p.same,λa q=>p.zz a (m.zz a q),(m.trans p.mo).zn,p.zi,p.rep,p.nd,p.bz,λb hb=>(p.bn b hb).imp_left m.same.free⟩
 |ex x=>exact WpX.ev h m.ev
 |no=>exact h
theorem WpT.mo(h:WpT K cn E As H Z Q r)(m:Mo H Z H' Z'):WpT K cn E As H' Z' Q r:=by
 cases r with
 |ok b=>exact λH2 Z2 p=>h H2 Z2 (m.trans p.mo).postT
 |ex x=>exact WpX.ev h m.ev
 |no=>exact h
theorem Slots.get:∀{U:Fr}{O:St}{As:af}{i:Nat}{t:T},Slots K cn H Z U O As->U[i]?=some (some t)->∃v,O[i]?=some (some v)/\Rep K cn H Z t v (As.getD i [])
 |[],_,_,_,_,h,e=>by simp at e
 |o::U,_,_,0,t,h,e=>by refine z43 h λw σ' A As' zz zy h1 h2=>?_;clear h;subst zz zy;simp at e;subst e;obtain⟨v,rfl,r⟩:=h1;exact⟨v,rfl,r⟩
 |o::U,_,_,i+1,t,h,e=>by refine z43 h λw σ' A As' zz zy h1 h2=>?_;clear h;subst zz zy;obtain⟨v,e1,e2⟩:=Slots.get (i:=i) h2 (by simpa using e);exact⟨v,by simpa using e1,by simpa using e2⟩
theorem Slots.set(r:Rep K cn H Z t v B):∀{U:Fr}{O:St}{As:af}(i:Nat),Slots K cn H Z U O As->Slots K cn H Z (U.set i (some t)) (O.set i (some v)) (As.set i B)
 |[],_,_,_,h=>by obtain⟨rfl,rfl⟩:=h;exact⟨rfl,rfl⟩
 |o::U,_,_,0,h=>by refine z43 h λw σ' A As' zz zy h1 h2=>?_;clear h;subst zz zy;exact⟨some v,σ',B,As',rfl,rfl,⟨v,rfl,r⟩,h2⟩
 |o::U,_,_,i+1,h=>by refine z43 h λw σ' A As' zz zy h1 h2=>?_;clear h;subst zz zy;exact⟨w,σ'.set i (some v),A,As'.set i B,rfl,rfl,h1,Slots.set r i h2⟩
theorem Slots.kill:∀{U:Fr}{O:St}{As:af}(i:Nat),Slots K cn H Z U O As->Slots K cn H Z (U.set i none) O (As.set i [])
 |[],_,_,_,h=>by obtain⟨rfl,rfl⟩:=h;exact⟨rfl,rfl⟩
 |o::U,_,_,0,h=>by refine z43 h λw σ' A As' zz zy h1 h2=>?_;clear h;subst zz zy;exact⟨w,σ',[],As',rfl,rfl,rfl,h2⟩
 |o::U,_,_,i+1,h=>by refine z43 h λw σ' A As' zz zy h1 h2=>?_;clear h;subst zz zy;exact⟨w,σ',A,As'.set i [],rfl,rfl,h1,Slots.kill i h2⟩
theorem Slots.kill2(o:Option V):∀{U:Fr}{O:St}{As:af}(i:Nat),Slots K cn H Z U O As->Slots K cn H Z (U.set i none) (O.set i o) (As.set i [])
 |[],_,_,_,h=>by obtain⟨rfl,rfl⟩:=h;exact⟨rfl,rfl⟩
 |o::U,_,_,0,h=>by refine z43 h λw σ' A As' zz zy h1 h2=>?_;clear h;subst zz zy;exact⟨_,σ',[],As',rfl,rfl,rfl,h2⟩
 |o::U,_,_,i+1,h=>by refine z43 h λw σ' A As' zz zy h1 h2=>?_;clear h;subst zz zy;exact⟨w,_,A,As'.set i [],rfl,rfl,h1,Slots.kill2 _ i h2⟩
theorem eJ:∀{As:af}{i:Nat},a∈(As.set i B).flatten->a∈B\/a∈As.flatten
 |[],_,h=>by simp at h
 |A::As,0,h=>by rw[K2,B8,A6]at h;rw[B8,A6];exact h.imp_right .inr
 |A::As,i+1,h=>by
  rw[K3,B8,A6]at h;rw[B8,A6];rcases h with h|h
  . exact .inr (.inl h)
  . exact(eJ h).imp_right .inr
theorem pZ(hB:B.Nodup):∀{As:af}{i:Nat},As.flatten.Nodup->(∀b∈B,b∈As.flatten->b∈As.getD i [])->(As.set i B).flatten.Nodup
 |[],_,h,_=>h
 |A::As,0,h,d=>by rw[B8,C9]at h;rw[K2,B8,C9];refine⟨hB,h.2.1,λb hb c hc e=>?_⟩;subst e;have q:=d b hb (by rw[B8,A6];exact .inr hc);exact h.2.2 b (by simpa using q) b hc rfl
 |A::As,i+1,h,d=>by
  rw[B8,C9]at h;rw[K3,B8,C9];have d':∀b∈B,b∈As.flatten->b∈As.getD i []:=λb hb hc=>by have q:=d b hb (by rw[B8,A6];exact .inr hc);simpa using q
  refine⟨h.1,pZ hB h.2.1 d',λa ha c hc e=>?_⟩;subst e;rcases eJ hc with q|q
  . have z:=d a q (by rw[B8,A6];exact .inl ha);have z':a∈As.getD i []:=by simpa using z
    have z2:a∈As.flatten:=by
     rw[A4]at z';cases e:As[i]? with
     |none=>rw[e]at z';cases z'
     |some C=>rw[e]at z';exact List.mem_flatten.mpr ⟨C,C4 e,z'⟩
    exact h.2.2 a ha a z2 rfl
  . exact h.2.2 a ha a q rfl
theorem bB(h:a∈As.getD i []):a∈As.flatten:=by
 rw[A4]at h;cases e:As[i]? with
 |none=>rw[e]at h;cases h
 |some C=>rw[e]at h;exact List.mem_flatten.mpr ⟨C,C4 e,h⟩
noncomputable def vG(Jn:iK)(i:Nat):Bool:=Jn.all λp=>!(p.1==i)
def bm4(h:vG Jn i=true)(o:Option V)(q:∀p∈Jn,O[p.1]?=some (some p.2)):∀p∈Jn,(O.set i o)[p.1]?=some (some p.2):=λp hp=>by unfold vG at h;rw[J6]at h;have:=h p hp;rw[G7 (by intro z;simp[z]at this)];exact q p hp
theorem Frm.set(F:Frm Jn K cn H Z U O As)(r:Rep K cn H Z t v B)(nd:B.Nodup)(bz:∀b∈B,¬Z b)(i:Nat)(fr:∀b∈B,b∈As.flatten->b∈As.getD i [])(hJ:vG Jn i=true):Frm Jn K cn H Z (U.set i (some t)) (O.set i (some v)) (As.set i B):=
 ⟨F.sl.set r i,pZ nd F.nd fr,λa ha=>(eJ ha).elim (bz a) (F.nz a),F.zi,bm4 hJ _ F.pn⟩
theorem Frm.kill(F:Frm Jn K cn H Z U O As)(i:Nat):Frm Jn K cn H Z (U.set i none) O (As.set i []):=
 ⟨F.sl.kill i,pZ F6 F.nd (λb hb=>by cases hb),λa ha=>(eJ ha).elim (λq=>by cases q) (F.nz a),F.zi,F.pn⟩
noncomputable def kills:List Nat->Fr->Fr
 |[],U=>U
 |i::is,U=>kills is (U.set i none)
noncomputable def gP:List Nat->List (List Addr)->List (List Addr)
 |[],As=>As
 |i::is,As=>gP is (As.set i [])
theorem Frm.kills(mv:ax):∀{U:Fr}{As:af},Frm Jn K cn H Z U O As->Frm Jn K cn H Z (TL.kills mv U) O (gP mv As):=by
 induction mv with
 |nil=>exact λF=>F
 |cons i is ih=>exact λF=>ih (F.kill i)
theorem gA:∀{As:af},a∈(gP mv As).flatten->a∈As.flatten:=by
 induction mv with
 |nil=>exact λh=>h
 |cons i is ih=>exact λh=>(eJ (ih h)).elim (λq=>by cases q) id
theorem wI:∀{As:af},As.flatten.Nodup->i∈mv->a∈As.getD i []->a∉(gP mv As).flatten:=by
 induction mv with
 |nil=>exact λ_ h=>by cases h
 |cons j js ih=>
  intro As nd hi ha hm;by_cases e:i=j
  . subst e;have h1:=gA (mv:=js) (As:=As.set i []) hm;have:∀{As:af}{i:Nat},As.flatten.Nodup->a∈As.getD i []->a∉(As.set i []).flatten:=by
     intro As;induction As with
     |nil=>intro i _ h;simp at h
     |cons A As ih2=>
      intro i nd h hm;rw[B8,C9]at nd;cases i with
      |zero=>rw[K2,B8,K7]at hm;exact nd.2.2 a (by simpa using h) a hm rfl
      |succ i=>
       rw[K3,B8,A6]at hm;have h':a∈As.getD i []:=by simpa using h
       rcases hm with hm|hm
       . exact nd.2.2 a hm a (bB h') rfl
       . exact ih2 nd.2.1 h' hm
    exact this nd ha h1
  . have hi':i∈js:=(B6.mp hi).resolve_left e;refine ih (As:=As.set j []) (pZ F6 nd (λb hb=>by cases hb)) hi' ?_ hm;rw[A4,G7 (N8 e),<-A4];exact ha
def fd2(i:Nat)(U:Fr):Fr:=match U[i]? with
 |some (some t)=>U.set i (some (frz t))
 |_=>U
end
open L2
section
variable{Jn:iK}{K:A1}{cn:ac}{E:XK}
theorem WpB.wpE(w:WpB K cn E As H Z Q r):WpE K cn E As H Z mv Q r:=by
 cases r with
 |ok t=>exact λv H' Z' B p=>w v H' Z' B ⟨p.same,p.zz,p.zn,p.zi,p.rep⟩
 |_=>exact w
def RE.rb(h:RE Jn K cn E mv te d):RB Jn K cn E te d:=λAs H Z U O F Q w=>h As H Z U O F Q w.wpE
noncomputable def aB(i:Nat):Fr->Res T:=λU=>match U[i]? with
 |some (some t)=>.ok t
 |_=>.no
theorem eu7(i:Nat):RB Jn K cn E (ad5 i) (aB i):=λAs H Z U O F Q w=>by
 unfold aB at w;cases e:U[i]? with
 |none=>rw[e]at w;exact False.elim w
 |some o=>
  rw[e]at w;cases o with
  |none=>exact False.elim w
  |some t=>obtain⟨v,es,r⟩:=F.sl.get e;exact⟨v,es,w v H Z _ ⟨Same.refl _,λ_ h=>h,λ_ h=>.inl h,F.zi,r⟩⟩
theorem fh3(i:Nat):RE Jn K cn E [i] (ad5 i) (aB i):=λAs H Z U O F Q w=>by
 unfold aB at w;cases e:U[i]? with
 |none=>rw[e]at w;exact False.elim w
 |some o=>
  rw[e]at w;cases o with
  |none=>exact False.elim w
  |some t=>
   obtain⟨v,es,r⟩:=F.sl.get e;refine⟨v,es,w v H Z _ ⟨Same.refl _,λ_ h=>h,λ_ h=>.inl h,F.zi,r,?_,λb hb=>F.nz b (bB hb),λb hb=>.inr ⟨i,A9,hb⟩⟩⟩;have nd:=F.nd;rw[A4];cases q:As[i]? with
   |none=>exact F6
   |some C=>exact List.Nodup.sublist (List.sublist_flatten_of_mem (C4 q)) nd
def aU(d:a8):Fr->Res T:=λU=>(d U).bind λt=>if cQ t=true then .ok t else .no
theorem RB.chk(h:RB Jn K cn E te d):RE Jn K cn E [] te (aU d):=λAs H Z U O F Q w=>h As H Z U O F Q (by
 unfold aU at w;cases e:d U with
 |ok t=>
  rw[e]at w;intro v H' Z' B p;by_cases c:cQ t=true
  . simp only[Res.bind,C7 c]at w;have:=p.rep.bare t c;subst this;exact w v H' Z' [] ⟨p.same,p.zz,p.zn,p.zi,p.rep,F6,dN,dN⟩
  . simp only[Res.bind,D3 c]at w;exact False.elim w
 |ex x=>rw[e]at w;exact w
 |no=>rw[e]at w;exact w)
def bi9(d:a8):Fr->Res T:=λU=>(d U).bind λt=>.ok (frz t)
theorem RE.frz{te:TE}{d:a8}(h:RE Jn K cn E [] te d):RE Jn K cn E [] te (bi9 d):=λAs H Z U O F Q w=>h As H Z U O F Q (by
 unfold bi9 at w;cases e:d U with
 |ok t=>
  rw[e]at w;intro v H' Z' B p;refine w v H' (λa=>Z' a\/a∈B) [] ⟨p.same,λa h=>.inl (p.zz a h),λa h=>?_,λa h=>?_,Rep.frz t p.rep (λa h=>.inl h) (λa h=>.inr h),F6,dN,dN⟩
  . rcases h with h|h
    . exact p.zn a h
    . rcases p.bn a h with q|⟨i,q,_⟩
      . exact .inr q
      . cases q
  . rcases h with h|h
    . exact p.zi a h
    . obtain⟨o,q,_⟩:=p.rep.dom t a h;rw[q];exact(λz=>nomatch z)
 |ex x=>rw[e]at w;exact w
 |no=>rw[e]at w;exact w)
def dC(t:T):Fr->Res T:=λ_=>.ok t
def cj0(h:∀H Z,Rep K cn H Z t v []):RE Jn K cn E [] (tC v) (dC t):=λAs H Z U O F Q w=>
 w v H Z [] ⟨Same.refl _,λ_ h=>h,λ_ h=>.inl h,F.zi,h H Z,F6,dN,dN⟩
def el6:RE Jn K cn E [] (tC (.int i)) (dC (.int i)):=cj0 λH Z=>by simp[Rep]
def ex8:RE Jn K cn E [] (tC (.str i)) (dC (.str i)):=cj0 λH Z=>by simp[Rep]
def fv1:RE Jn K cn E [] (tC (.bl i)) (dC (.bl i)):=cj0 λH Z=>by simp[Rep]
def eg6:RE Jn K cn E [] (tC .non) (dC .non):=cj0 λH Z=>by simp[Rep]
def fz3:RE Jn K cn E [] (tC (.ty n)) (dC (.ty n)):=cj0 λH Z=>by simp[Rep]
def pV(K:A1)(cn:ac)(r:R2)(f:T->T->Res T):Prop:=
 ∀(E:XK)(As:af)(H:Hp)(Z:av)(t u:T)(x y:V)(A B:ao)(Q:VK),(∀a,Z a->H a≠none)->Rep K cn H Z t x A->Rep K cn H Z u y B->WpE K cn E As H Z [] Q (f t u)->r x y H Q
def aF(f:T->T->Res T)(a b:a8):Fr->Res T:=λU=>(a U).bind λx=>(b U).bind λy=>f x y
theorem fx3(hr:pV K cn r f)(ha:RB Jn K cn E ta a)(hb:RB Jn K cn E tb b):RE Jn K cn E [] (tOp r ta tb) (aF f a b):=λAs H Z U O F Q w=>by
 unfold aF at w;refine ha As H Z U O F _ ?_;cases e:a U with
 |ok t=>
  rw[e]at w;intro v H1 Z1 B p;refine hb As H1 Z1 U O (F.mo p.mo) _ ?_;simp only[Res.bind]at w;cases e2:b U with
  |ok u=>rw[e2]at w;intro v2 H2 Z2 B2 p2;exact hr E As H2 Z2 t u v v2 B B2 Q p2.zi (p.rep.same p2.same p2.zz) p2.rep (w.mo F (p.mo.trans p2.mo))
  |ex x=>rw[e2]at w;exact WpX.ev w p.mo.ev
  |no=>rw[e2]at w;exact w
 |_=>rw[e]at w;exact w
def dQ(f:T->Res T)(a:a8):Fr->Res T:=λU=>(a U).bind f
def R1R(K:A1)(cn:ac)(r:dc)(f:T->Res T):Prop:=
 ∀(E:XK)(As:af)(H:Hp)(Z:av)(t:T)(x:V)(A:ao)(Q:VK),(∀a,Z a->H a≠none)->Rep K cn H Z t x A->WpE K cn E As H Z [] Q (f t)->r x H Q
theorem fz0(hr:R1R K cn r f)(ha:RB Jn K cn E ta a):RE Jn K cn E [] (tUn r ta) (dQ f a):=λAs H Z U O F Q w=>by
 unfold dQ at w;refine ha As H Z U O F _ ?_;cases e:a U with
 |ok t=>rw[e]at w;exact λv H1 Z1 B p=>hr E As H1 Z1 t v B Q p.zi p.rep (WpE.mo F w p.mo)
 |_=>rw[e]at w;exact w
def tG(f g:T->T->Res T)(a b c:a8):Fr->Res T:=λU=>(a U).bind λx=>(b U).bind λy=>(f x y).bind λk=>match k with
 |.bl true=>(c U).bind λz=>g y z
 |.bl false=>.ok (.bl false)
 |_=>.no
theorem WpE.bl(w:WpE K cn E As H Z [] Q (.ok (.bl b)))(zi:∀a,Z a->H a≠none):Q (.bl b) H:=
 w (.bl b) H Z [] ⟨Same.refl _,λ_ h=>h,λ_ h=>.inl h,zi,by simp[Rep],F6,dN,dN⟩
theorem dn5(hr:pV K cn r f)(hr':pV K cn r' g)(ha:RB Jn K cn E ta a)(hb:RB Jn K cn E tb b)(hc:RB Jn K cn E tc c):RE Jn K cn E [] (bz8 r r' ta tb tc) (tG f g a b c):=λAs H Z U O F Q w=>by
 unfold tG at w;refine ha As H Z U O F _ ?_;cases e:a U with
 |ok t=>
  rw[e]at w;intro v H1 Z1 B p;refine hb As H1 Z1 U O (F.mo p.mo) _ ?_;simp only[Res.bind]at w;cases e2:b U with
  |ok u=>
   rw[e2]at w;intro v2 H2 Z2 B2 p2;refine hr E As H2 Z2 t u v v2 B B2 _ p2.zi (p.rep.same p2.same p2.zz) p2.rep ?_;simp only at w;cases e3:f t u with
   |ok k=>
    rw[e3]at w;intro v3 H3 Z3 B3 p3;have m3:=(p.mo.trans p2.mo).trans p3.mo;cases k with
    |bl k=>
     have q:=p3.rep;simp only[Rep]at q;obtain⟨rfl,rfl⟩:=q;refine⟨k,rfl,?_⟩;cases k with
     |true=>
      rw[C7 rfl];refine hc As H3 Z3 U O (F.mo m3) _ ?_;simp only at w;cases e4:c U with
      |ok z=>rw[e4]at w;intro v4 H4 Z4 B4 p4;exact hr' E As H4 Z4 u z v2 v4 B2 B4 Q p4.zi (p2.rep.same (p3.same.trans p4.same) (λa h=>p4.zz a (p3.zz a h))) p4.rep (WpE.mo F w (m3.trans p4.mo))
      |ex x=>rw[e4]at w;exact WpX.ev w m3.ev
      |no=>rw[e4]at w;exact w
     |false=>rw[D3 Y2];exact WpE.bl (WpE.mo F w m3) p3.zi
    |_=>exact False.elim w
   |ex x=>rw[e3]at w;exact WpX.ev w (p.mo.trans p2.mo).ev
   |no=>rw[e3]at w;exact w
  |ex x=>rw[e2]at w;exact WpX.ev w p.mo.ev
  |no=>rw[e2]at w;exact w
 |_=>rw[e]at w;exact w
def sL(a b:a8):Fr->Res T:=λU=>(a U).bind λx=>match x with
 |.bl true=>b U
 |.bl false=>.ok (.bl false)
 |_=>.no
def fq5(a b:a8):Fr->Res T:=λU=>(a U).bind λx=>match x with
 |.bl true=>.ok (.bl true)
 |.bl false=>b U
 |_=>.no
def aa6(a:a8):Fr->Res T:=λU=>(a U).bind λx=>match x with
 |.bl b=>.ok (.bl (!b))
 |_=>.no
theorem ek0(ha:RB Jn K cn E ta a)(hb:RE Jn K cn E [] tb b):RE Jn K cn E [] (dx8 ta tb) (sL a b):=λAs H Z U O F Q w=>by
 unfold sL at w;refine ha As H Z U O F _ ?_;cases e:a U with
 |ok t=>
  rw[e]at w;intro v H1 Z1 B p;cases t with
  |bl k=>
   have q:=p.rep;simp only[Rep]at q;obtain⟨rfl,rfl⟩:=q;refine⟨k,rfl,?_⟩;cases k with
   |true=>rw[C7 rfl];exact hb As H1 Z1 U O (F.mo p.mo) Q (WpE.mo F w p.mo)
   |false=>rw[D3 Y2];exact WpE.bl (WpE.mo F w p.mo) p.zi
  |_=>exact False.elim w
 |_=>rw[e]at w;exact w
theorem et1(ha:RB Jn K cn E ta a):RE Jn K cn E [] (dl9 ta) (aa6 a):=λAs H Z U O F Q w=>by
 unfold aa6 at w;refine ha As H Z U O F _ ?_;cases e:a U with
 |ok t=>
  rw[e]at w;intro v H1 Z1 B p;cases t with
  |bl k=>have q:=p.rep;simp only[Rep]at q;obtain⟨rfl,rfl⟩:=q;exact⟨k,rfl,WpE.bl (WpE.mo F w p.mo) p.zi⟩
  |_=>exact False.elim w
 |_=>rw[e]at w;exact w
def dIf(c:bu)(a b:a8):Fr->Res T:=λU=>(c U).bind λk=>if k=true then a U else b U
theorem ff4(hc:RT Jn K cn E tt c)(ha:RE Jn K cn E [] ta a)(hb:RE Jn K cn E [] tb b):RE Jn K cn E [] (tIf tt ta tb) (dIf c a b):=λAs H Z U O F Q w=>by
 unfold dIf at w;refine hc As H Z U O F _ ?_;cases e:c U with
 |ok k=>
  rw[e]at w;intro H1 Z1 p;simp only[Res.bind]at w;split
  . next h=>rw[C7 h]at w;exact ha As H1 Z1 U O (F.mo p.mo) Q (WpE.mo F w p.mo)
  . next h=>rw[D3 h]at w;exact hb As H1 Z1 U O (F.mo p.mo) Q (WpE.mo F w p.mo)
 |_=>rw[e]at w;exact w
noncomputable def toB:T->Res Bool
 |.bl b=>.ok b
 |_=>.no
def bE(a:a8):Fr->Res Bool:=λU=>(a U).bind toB
theorem cj4(ha:RB Jn K cn E ta a):RT Jn K cn E (br7 ta) (bE a):=λAs H Z U O F Q w=>by
 unfold bE at w;refine ha As H Z U O F _ ?_;cases e:a U with
 |ok t=>
  rw[e]at w;intro v H1 Z1 B p;cases t with
  |bl k=>have q:=p.rep;simp only[Rep]at q;obtain⟨rfl,rfl⟩:=q;exact⟨k,rfl,w H1 Z1 p.mo.postT⟩
  |_=>exact False.elim w
 |_=>rw[e]at w;exact w
noncomputable def ac0:T->Res Bool
 |.non=>.ok false
 |.bl b=>.ok b
 |.int i=>.ok (i !=0)
 |.str x=>if x.length<=sizeLine then .ok ((x.length:Int) !=0)else .no
 |.lst _ xs=>.ok (!xs.isEmpty)
 |.tup xs=>.ok (!xs.isEmpty)
 |_=>.no
def eS(a:a8):Fr->Res Bool:=λU=>(a U).bind ac0
theorem Reps.isEmpty(r:Reps K cn H Z ts vs A):vs.isEmpty=ts.isEmpty:=by have h:=Reps.length ts r;cases ts<;>cases vs<;>simp_all
theorem eh3(r:Rep K cn H Z t v B)(h:ac0 t=.ok k):cv0 K v H k:=by
 cases t with
 |str b=>
  simp only[Rep]at r;obtain⟨rfl,_⟩:=r;simp only[ac0]at h;split at h
  . cases h;exact⟨by assumption,rfl⟩
  . cases h
 |lst o xs=>
  cases h;cases o with
  |true=>simp only[Rep]at r;obtain⟨a,vs,B,rfl,rfl,e,r⟩:=r;exact .inl ⟨vs,SqL.of e,by rw[r.isEmpty]⟩
  |false=>simp only[Rep]at r;obtain⟨a,vs,rfl,rfl,e,r⟩:=r;exact .inl ⟨vs,e.sq,by rw[r.isEmpty]⟩
 |tup xs=>cases h;simp only[Rep]at r;obtain⟨a,vs,rfl,e,r⟩:=r;exact .inr (.inl ⟨vs,e,by rw[r.isEmpty]⟩)
 |ty _=>cases h
 |err _ _=>cases h
 |ins _ _ _ _=>cases h
 |_=>simp only[Rep]at r;obtain⟨rfl,_⟩:=r;cases h;rfl
def cb9(h:ac0 t=.ex x):False:=by cases t<;>simp only[ac0]at h<;>first|cases h|(split at h<;>cases h)
theorem ee7(ha:RB Jn K cn E ta a):RT Jn K cn E (λO H Q=>ta O H λx H'=>∃k,cv0 K x H' k/\Q k H') (eS a):=λAs H Z U O F Q w=>by
 unfold eS at w;refine ha As H Z U O F _ ?_;cases e:a U with
 |ok t=>
  rw[e]at w;intro v H1 Z1 B p;simp only[Res.bind]at w;cases e2:ac0 t with
  |ok k=>rw[e2]at w;exact⟨k,eh3 p.rep e2,w H1 Z1 p.mo.postT⟩
  |ex x=>exact(cb9 e2).elim
  |no=>rw[e2]at w;exact w.elim
 |_=>rw[e]at w;exact w
def fK(c:bu):Fr->Res Bool:=λU=>(c U).bind λk=>.ok (!k)
def kF(c d:bu):Fr->Res Bool:=λU=>(c U).bind λk=>if k=true then d U else .ok false
def pS(c d:bu):Fr->Res Bool:=λU=>(c U).bind λk=>if k=true then .ok true else d U
theorem ef9(hc:RT Jn K cn E tt c):RT Jn K cn E (em9 tt) (fK c):=λAs H Z U O F Q w=>by
 unfold fK at w;refine hc As H Z U O F _ ?_;cases e:c U with
 |ok k=>rw[e]at w;exact λH1 Z1 p=>w H1 Z1 p
 |_=>rw[e]at w;exact w
theorem ep5(hc:RT Jn K cn E tt c)(hd:RT Jn K cn E uu d):RT Jn K cn E (es4 tt uu) (kF c d):=λAs H Z U O F Q w=>by
 unfold kF at w;refine hc As H Z U O F _ ?_;cases e:c U with
 |ok k=>
  rw[e]at w;intro H1 Z1 p;cases k with
  |true=>rw[C7 rfl];exact hd As H1 Z1 U O (F.mo p.mo) Q (WpT.mo w p.mo)
  |false=>rw[D3 Y2];exact w H1 Z1 p
 |_=>rw[e]at w;exact w
theorem fj0(hc:RT Jn K cn E tt c)(hd:RT Jn K cn E uu d):RT Jn K cn E (tOr tt uu) (pS c d):=λAs H Z U O F Q w=>by
 unfold pS at w;refine hc As H Z U O F _ ?_;cases e:c U with
 |ok k=>
  rw[e]at w;intro H1 Z1 p;cases k with
  |false=>rw[D3 Y2];exact hd As H1 Z1 U O (F.mo p.mo) Q (WpT.mo w p.mo)
  |true=>rw[C7 rfl];exact w H1 Z1 p
 |_=>rw[e]at w;exact w
structure fn0 (K:A1) (cn:ac) (As:af) (H:Hp) (Z:av) (mv:ax) (H':Hp) (Z':av) (ts:aw) (vs:a9) (B:ao):Prop where
 mo:Mo H Z H' Z'
 rep:Reps K cn H' Z' ts vs B
 nd:B.Nodup
 bz:∀b∈B,¬Z' b
 bn:∀b∈B,H b=none\/∃i∈mv,b∈As.getD i []
def WpA(K:A1)(cn:ac)(E:XK)(As:af)(H:Hp)(Z:av)(mv:ax)(Q:cg):Res (List T)->Prop
 |.ok ts=>∀vs H' Z' B,fn0 K cn As H Z mv H' Z' ts vs B->Q vs H'
 |.ex x=>WpX K cn E As H Z x
 |.no=>False
def fe5(K:A1)(cn:ac)(E:XK)(As:af)(H:Hp)(Z:av)(Q:cg):Res (List T)->Prop
 |.ok ts=>∀vs H' Z' B,Mo H Z H' Z'->Reps K cn H' Z' ts vs B->Q vs H'
 |.ex x=>WpX K cn E As H Z x
 |.no=>False
def RA(Jn:iK)(K:A1)(cn:ac)(E:XK)(mv:ax)(ta:TA)(d:ay):Prop:=∀As H Z U O,Frm Jn K cn H Z U O As->∀Q,WpA K cn E As H Z mv Q (d U)->ta O H Q
def wN(Jn:iK)(K:A1)(cn:ac)(E:XK)(ta:TA)(d:ay):Prop:=∀As H Z U O,Frm Jn K cn H Z U O As->∀Q,fe5 K cn E As H Z Q (d U)->ta O H Q
def aI:Fr->Res (List T):=λ_=>.ok []
def aD(a:a8)(r:ay):Fr->Res (List T):=λU=>(a U).bind λt=>(r U).bind λts=>.ok (t::ts)
def es7:RA Jn K cn E [] xZ aI:=λAs H Z U O F Q w=>w [] H Z [] ⟨F.mo0,Reps.nil,F6,dN,dN⟩
def es1:wN Jn K cn E xZ aI:=λAs H Z U O F Q w=>w [] H Z [] F.mo0 Reps.nil
theorem xV{As:af}{a:Addr}:∀{i j:Nat},As.flatten.Nodup->a∈As.getD i []->a∈As.getD j []->i=j:=by
 induction As with
 |nil=>intro i j _ h;simp at h
 |cons A As ih=>
  intro i j nd h1 h2;rw[B8,C9]at nd;cases i with
  |zero=>
   cases j with
   |zero=>rfl
   |succ j=>exact D8 rfl (nd.2.2 a (by simpa using h1) a (bB (by simpa using h2)))
  |succ i=>
   cases j with
   |zero=>exact D8 rfl (nd.2.2 a (by simpa using h2) a (bB (by simpa using h1)))
   |succ j=>exact N4 (· +1) (ih (i:=i) (j:=j) nd.2.1 (by simpa using h1) (by simpa using h2))
theorem eb3{mv mw:ax}{te:TE}{tr:TA}{a:a8}{r:ay}(ha:RE Jn K cn E mv te a)(hr:RA Jn K cn E mw tr r)(hd:autoParam ((mv.all λi=>!mw.contains i)=true) Z8):RA Jn K cn E (mv++mw) (nU te tr) (aD a r):=λAs H Z U O F Q w=>by
 unfold aD at w;refine ha As H Z U O F _ ?_;cases e:a U with
 |ok t=>
  rw[e]at w;intro v H1 Z1 B p;refine hr As H1 Z1 U O (F.mo p.mo) _ ?_;simp only[Res.bind]at w;cases e2:r U with
  |ok ts=>
   rw[e2]at w;intro vs H2 Z2 B2 p2;refine w (v::vs) H2 Z2 (B++B2) ⟨p.mo.trans p2.mo,?_,?_,?_,?_⟩
   . simp only[Reps];exact⟨v,vs,B,B2,rfl,rfl,p.rep.same p2.mo.same p2.mo.zz,p2.rep⟩
   . rw[C9];refine⟨p.nd,p2.nd,λb hb c hc z=>?_⟩;subst z;obtain⟨o,ho,_⟩:=p.rep.dom t b hb;rcases p2.bn b hc with q|⟨j,hj,q⟩
     . rw[ho]at q;cases q
     . rcases p.bn b hb with z|⟨i,hi,z⟩
       . obtain⟨o',ho',_⟩:=F.sl.dom b (bB q);rw[ho']at z;cases z
       . have eij:=xV F.nd z q;subst eij;have hh:=J6.mp hd i hi;simp at hh;exact hh hj
   . intro b hb;rcases A6.mp hb with hb|hb
     . intro z;rcases p2.mo.zn b z with z|z
       . exact p.bz b hb z
       . obtain⟨o,ho,_⟩:=p.rep.dom t b hb;rw[ho]at z;cases z
     . exact p2.bz b hb
   . intro b hb;rcases A6.mp hb with hb|hb
     . exact(p.bn b hb).imp_right λ⟨i,hi,z⟩=>⟨i,C6 _ hi,z⟩
     . rcases p2.bn b hb with z|⟨i,hi,z⟩
       . exact .inl (p.same.free z)
       . exact .inr ⟨i,B5 _ hi,z⟩
  |ex x=>rw[e2]at w;exact WpX.ev w p.mo.ev
  |no=>rw[e2]at w;exact w
 |_=>rw[e]at w;exact w
theorem dc4(ha:RB Jn K cn E te a)(hr:wN Jn K cn E tr r):wN Jn K cn E (nU te tr) (aD a r):=λAs H Z U O F Q w=>by
 unfold aD at w;refine ha As H Z U O F _ ?_;cases e:a U with
 |ok t=>
  rw[e]at w;intro v H1 Z1 B p;refine hr As H1 Z1 U O (F.mo p.mo) _ ?_;simp only[Res.bind]at w;cases e2:r U with
  |ok ts=>rw[e2]at w;intro vs H2 Z2 B2 m2 r2;refine w (v::vs) H2 Z2 (B++B2) (p.mo.trans m2) ?_;simp only[Reps];exact⟨v,vs,B,B2,rfl,rfl,p.rep.same m2.same m2.zz,r2⟩
  |ex x=>rw[e2]at w;exact WpX.ev w p.mo.ev
  |no=>rw[e2]at w;exact w
 |_=>rw[e]at w;exact w
def fE(r:ay):Fr->Res T:=λU=>(r U).bind λts=>if ts.length<=sizeLine then .ok (.lst true ts)else .no
def dD(r:ay):Fr->Res T:=λU=>(r U).bind λts=>if ts.length<=sizeLine then .ok (.tup ts)else .no
def Mo.new(o:HO)(hp:H p=none)(zi:∀a,Z a->H a≠none):Mo H Z (L2.upd H p o) Z:=
 ⟨ci1 hp o,λ_ h=>h,λ_ h=>.inl h,λa h=>by
  by_cases e:a=p
  . subst e;rw[fR];exact(λz=>nomatch z)
  . rw[cE e];exact zi a h⟩
theorem ek5(h:RA Jn K cn E mv ta r):RE Jn K cn E mv (eb5 ta) (fE r):=λAs H Z U O F Q w=>by
 unfold fE at w;refine h As H Z U O F _ ?_;cases e:r U with
 |ok ts=>
  rw[e]at w;intro vs H1 Z1 B p;simp only[Res.bind]at w;split at w
  . next hl=>
    refine⟨by rw[Reps.length ts p.rep];exact hl,λq hq=>?_⟩;have hZ:¬Z1 q:=λz=>p.mo.zi q z hq;have m:=Mo.new (.lst vs) hq p.mo.zi;refine w (.ref q) _ Z1 (q::B) ⟨(p.mo.trans m).same,(p.mo.trans m).zz,(p.mo.trans m).zn,m.zi,?_,?_,?_,?_⟩
    . simp only[Rep];exact⟨q,vs,B,rfl,rfl,fR,p.rep.same m.same m.zz⟩
    . refine E7.mpr ⟨λhb=>?_,p.nd⟩;obtain⟨o,ho,_⟩:=Reps.dom ts p.rep q hb;rw[ho]at hq;cases hq
    . intro b hb;rcases B6.mp hb with rfl|hb
      . exact hZ
      . exact p.bz b hb
    . intro b hb;rcases B6.mp hb with rfl|hb
      . exact .inl (p.mo.same.free hq)
      . exact p.bn b hb
  . exact w.elim
 |_=>rw[e]at w;exact w
theorem en6(h:RA Jn K cn E mv ta r):RE Jn K cn E mv (dk5 ta) (dD r):=λAs H Z U O F Q w=>by
 unfold dD at w;refine h As H Z U O F _ ?_;cases e:r U with
 |ok ts=>
  rw[e]at w;intro vs H1 Z1 B p;simp only[Res.bind]at w;split at w
  . next hl=>
    refine⟨by rw[Reps.length ts p.rep];exact hl,λq hq=>?_⟩;have m:=Mo.new (.tup vs) hq p.mo.zi;refine w (.ref q) _ Z1 B ⟨(p.mo.trans m).same,(p.mo.trans m).zz,(p.mo.trans m).zn,m.zi,?_,p.nd,p.bz,p.bn⟩;simp only[Rep];exact⟨q,vs,rfl,SqT.of fR,p.rep.same m.same m.zz⟩
  . exact w.elim
 |_=>rw[e]at w;exact w
def wQ(K:A1)(cn:ac)(r:cj)(f:bc):Prop:=
 ∀(E:XK)(As:af)(H:Hp)(Z:av)(ts:aw)(xs:a9)(A:ao)(Q:VK),(∀a,Z a->H a≠none)->Reps K cn H Z ts xs A->WpE K cn E As H Z [] Q (f ts)->r xs H Q
def bX(f:bc)(r:ay):Fr->Res T:=λU=>(r U).bind f
theorem ff3(hr:wQ K cn r f)(ha:wN Jn K cn E ta a):RE Jn K cn E [] (tCB r ta) (bX f a):=λAs H Z U O F Q w=>by
 unfold bX at w;refine ha As H Z U O F _ ?_;cases e:a U with
 |ok ts=>rw[e]at w;exact λvs H1 Z1 B m p=>hr E As H1 Z1 ts vs B Q m.zi p (WpE.mo F w m)
 |_=>rw[e]at w;exact w
def RMR(K:A1)(cn:ac)(ty:String)(r:bh)(f:T->List T->Res T):Prop:=
 ∀(E:XK)(As:af)(H:Hp)(Z:av)(t:T)(ts:aw)(x:V)(xs:a9)(A B:ao)(Q:VK),(∀a,Z a->H a≠none)->Rep K cn H Z t x A->Reps K cn H Z ts xs B->WpE K cn E As H Z [] Q (f t ts)->r x xs H Q
def dBM(ok:T->Bool)(f:T->List T->Res T)(o:a8)(r:ay):Fr->Res T:=λU=>(o U).bind λt=>if ok t=true then(r U).bind λts=>f t ts else .no
def bx8:T->Bool
 |.str _=>true
 |_=>false
def av8:T->Bool
 |.lst _ _=>true
 |_=>false
theorem df2(h:bx8 t=true)(r:Rep K cn H Z t v B):tyV K "str" v H:=by
 cases t with
 |str x=>simp only[Rep]at r;obtain⟨rfl,_⟩:=r;rfl
 |_=>cases h
theorem Rep.lstSq(r:Rep K cn H Z (.lst o ts) v B):∃a vs C,v=.ref a/\SqS K H a vs/\Reps K cn H Z ts vs C/\C.Sublist B:=by
 cases o with
 |true=>simp only[Rep]at r;obtain⟨a,vs,C,rfl,rfl,e,r⟩:=r;exact⟨a,vs,C,rfl,.inl (.inl e),r,W5 _ _⟩
 |false=>simp only[Rep]at r;obtain⟨a,vs,rfl,rfl,e,r⟩:=r;exact⟨a,vs,[],rfl,e.sqS,r,List.Sublist.slnil⟩
theorem du1(h:av8 t=true)(r:Rep K cn H Z t v B):tyV K "list" v H:=by
 cases t with
 |lst o xs=>refine z32 r.lstSq λa vs C zz s _=>?_;subst zz;exact .inl ⟨rfl,vs,s.sq⟩
 |_=>cases h
theorem ds9(hty:∀{H:Hp}{Z:av}{t:T}{v:V}{B:ao},ok t=true->Rep K cn H Z t v B->tyV K ty v H)(hr:RMR K cn ty r f)
 (ho:RB Jn K cn E to o)(ha:wN Jn K cn E ta a):RE Jn K cn E [] (tBM K ty r to ta) (dBM ok f o a):=λAs H Z U O F Q w=>by
 unfold dBM at w;refine ho As H Z U O F _ ?_;cases e:o U with
 |ok t=>
  rw[e]at w;intro v H1 Z1 B p;simp only[Res.bind]at w;split at w
  . next hok=>
    refine⟨hty hok p.rep,ha As H1 Z1 U O (F.mo p.mo) _ ?_⟩;cases e2:a U with
    |ok ts=>rw[e2]at w;exact λvs H2 Z2 B2 m r2=>hr E As H2 Z2 t ts v vs B B2 Q m.zi (p.rep.same m.same m.zz) r2 (WpE.mo F w (p.mo.trans m))
    |ex x=>rw[e2]at w;exact WpX.ev w p.mo.ev
    |no=>rw[e2]at w;exact w
  . exact w.elim
 |_=>rw[e]at w;exact w
def bK(K:A1)(cn:ac)(n:Nat)(F:bc):Sp:=λvs H Q E=>vs.length=n/\∃ts Z,(∀a,Z a->H a≠none)/\Reps K cn H Z ts vs []/\WpE K cn E [] H Z [] Q (F ts)
def aW(n:Nat)(F:bc)(r:ay):Fr->Res T:=λU=>(r U).bind λts=>if ts.length=n then match F (frzs ts)with
 |.ok t=>if(cK t||bF ts)=true then .ok t else .no
 |_=>.no else .no
theorem dx0(ha:wN Jn K cn E ta a):RE Jn K cn E [] (cc7 (bK K cn n G) ta) (aW n G a):=λAs H Z U O F Q w=>by
 unfold aW at w;refine ha As H Z U O F _ ?_;cases e:a U with
 |ok ts=>
  rw[e]at w;intro vs H1 Z1 B m r1;simp only[Res.bind]at w;split at w
  . next hn=>
    refine⟨by rw[Reps.length ts r1,hn],frzs ts,(λa=>Z1 a\/a∈B),λa h=>?_,Reps.frz ts r1 (λa h=>.inl h) (λa h=>.inr h),?_⟩
    . rcases h with h|h
      . exact m.zi a h
      . obtain⟨o,q,_⟩:=Reps.dom ts r1 a h;rw[q];exact(λz=>nomatch z)
    cases e2:G (frzs ts)with
    |ok t=>
     rw[e2]at w;intro v H2 Z2 C p;simp only at w;split at w
     . next hc=>
       rw[U6]at hc;have bn:∀b∈C,H1 b=none:=λb hb=>(p.bn b hb).resolve_right (λ⟨i,hi,_⟩=>by cases hi);by_cases hcl:cK t=true
       . refine w v H2 Z1 C ⟨m.same.trans p.same,m.zz,λa h=>m.zn a h,λa h=>?_,Rep.any t hcl p.rep,p.nd,λb hb z=>?_,λb hb=>.inl (m.same.free (bn b hb))⟩
         . intro q;exact m.zi a h (p.same.free q)
         . exact m.zi b z (bn b hb)
       . have hno:=hc.resolve_left hcl;have hB:=Reps.bare ts hno r1;subst hB;refine w v H2 Z2 C ⟨m.same.trans p.same,λa h=>p.zz a (.inl (m.zz a h)),λa h=>?_,p.zi,p.rep,p.nd,p.bz,λb hb=>.inl (m.same.free (bn b hb))⟩;rcases p.zn a h with(h|h)|h
         . exact m.zn a h
         . cases h
         . exact .inr (m.same.free h)
     . exact w.elim
    |_=>rw[e2]at w;exact w.elim
  . exact w.elim
 |_=>rw[e]at w;exact w
def WpO(K:A1)(cn:ac)(E:XK)(As:af)(H:Hp)(Z:av)(Q:Option Int->Hp->Prop):Res (Option Int)->Prop
 |.ok o=>∀H' Z',Mo H Z H' Z'->Q o H'
 |.ex x=>WpX K cn E As H Z x
 |.no=>False
def RO(Jn:iK)(K:A1)(cn:ac)(E:XK)(t:TO)(d:c7):Prop:=∀As H Z U O,Frm Jn K cn H Z U O As->∀Q,WpO K cn E As H Z Q (d U)->t O H Q
def iB:Fr->Res (Option Int):=λ_=>.ok none
noncomputable def toI:T->Res (Option Int)
 |.int i=>.ok (some i)
 |_=>.no
def iY(a:a8):Fr->Res (Option Int):=λU=>(a U).bind toI
def ee4:RO Jn K cn E cw4 iB:=λAs H Z U O F Q w=>w H Z F.mo0
theorem ec3(ha:RB Jn K cn E te a):RO Jn K cn E (dz8 te) (iY a):=λAs H Z U O F Q w=>by
 unfold iY at w;refine ha As H Z U O F _ ?_;cases e:a U with
 |ok t=>
  rw[e]at w;intro v H1 Z1 B p;cases t with
  |int i=>have q:=p.rep;simp only[Rep]at q;obtain⟨rfl,rfl⟩:=q;exact⟨i,rfl,w H1 Z1 p.mo⟩
  |_=>exact False.elim w
 |_=>rw[e]at w;exact w
def RSR(K:A1)(cn:ac)(r:b6)(f:c9):Prop:=
 ∀(E:XK)(As:af)(H:Hp)(Z:av)(t:T)(x:V)(A:ao)(lo hi:a_)(Q:VK),(∀a,Z a->H a≠none)->Rep K cn H Z t x A->WpE K cn E As H Z [] Q (f t lo hi)->r x lo hi H Q
def rM(f:c9)(a:a8)(l h:c7):Fr->Res T:=λU=>(a U).bind λt=>(l U).bind λlo=>(h U).bind λhi=>f t lo hi
theorem fy1(hr:RSR K cn r f)(ha:RB Jn K cn E te a)(hl:RO Jn K cn E tl l)(hh:RO Jn K cn E th h):RE Jn K cn E [] (tSl r te tl th) (rM f a l h):=λAs H Z U O F Q w=>by
 unfold rM at w;refine ha As H Z U O F _ ?_;cases e:a U with
 |ok t=>
  rw[e]at w;intro v H1 Z1 B p;refine hl As H1 Z1 U O (F.mo p.mo) _ ?_;simp only[Res.bind]at w;cases e2:l U with
  |ok lo=>
   rw[e2]at w;intro H2 Z2 m2;have m12:=p.mo.trans m2;refine hh As H2 Z2 U O (F.mo m12) _ ?_;simp only at w;cases e3:h U with
   |ok hi=>rw[e3]at w;intro H3 Z3 m3;exact hr E As H3 Z3 t v B lo hi Q m3.zi (p.rep.same (m2.same.trans m3.same) λa h=>m3.zz a (m2.zz a h)) (WpE.mo F w (m12.trans m3))
   |ex x=>rw[e3]at w;exact WpX.ev w m12.ev
   |no=>rw[e3]at w;exact w
  |ex x=>rw[e2]at w;exact WpX.ev w p.mo.ev
  |no=>rw[e2]at w;exact w
 |_=>rw[e]at w;exact w
def SqF(fz k:Bool)(K:A1)(H:Hp)(Z:av)(l:Addr)(xs:a9):Prop:=cond k (SqT K H l xs) (if fz=true then FzL K H Z l xs else SqL K H l xs)
noncomputable def lG(ts us:aw):List T:=List.zipWith (λt u=>T.tup [t,u]) ts us
noncomputable def ar5(ts:aw):List T:=List.zipWith (λi t=>T.tup [.int (i:Nat),t]) (List.range ts.length) ts
def Src(K:A1)(cn:ac)(fz:Bool)(H:Hp)(Z:av)(J:It)(ts:aw):Prop:=
 (∃a vs,J=Itl K a/\(if fz=true then FzL K H Z a vs else SqL K H a vs)/\Reps K cn H Z ts vs [])\/
 (∃a vs,J=Itt K a/\SqT K H a vs/\Reps K cn H Z ts vs [])\/
 (∃(lo:Int)(n:Nat),J=Itr lo n/\ts=(List.range n).map λi=>T.int (lo+(i:Nat)))\/
 (∃z:Str,J=Its z/\ts=z.cps.toList.map λc=>T.str ⟨#[c]⟩)\/
 (∃k1 k2 l1 l2 vs ws us us',J=Itz K k1 k2 l1 l2/\SqF fz k1 K H Z l1 vs/\SqF fz k2 K H Z l2 ws/\Reps K cn H Z us vs []/\Reps K cn H Z us' ws []/\ts=lG us us')\/
 (∃l vs us,J=Ite K l/\SqF fz false K H Z l vs/\Reps K cn H Z us vs []/\ts=ar5 us)
theorem be2(h:if fz=true then FzL K H Z a vs else SqL K H a vs):SqL K H a vs:=by
 cases fz with
 |true=>rw[C7 rfl]at h;exact h.sq
 |false=>rw[D3 Y2]at h;exact h
theorem SqF.sq(h:SqF fz k K H Z l xs):SqK k K H l xs:=by
 cases k with
 |true=>exact h
 |false=>exact be2 h
theorem bo5:∀{us us':aw}{i:Nat},(lG us us')[i]?=some t->∃t1 t2,us[i]?=some t1/\us'[i]?=some t2/\t=.tup [t1,t2]:=by
 intro us us' i h;unfold lG at h;rw[List.getElem?_zipWith]at h;cases h1:us[i]? with
 |none=>rw[h1]at h;cases h
 |some t1=>
  cases h2:us'[i]? with
  |none=>rw[h1,h2]at h;cases h
  |some t2=>rw[h1,h2]at h;exact⟨t1,t2,rfl,rfl,(E9 h).symm⟩
def an3(us us':aw):(lG us us').length=min us.length us'.length:=by simp[lG]
def bb5(us:aw):(ar5 us).length=us.length:=by simp[ar5]
theorem bn5{t:T}{us:aw}{i:Nat}(h:(ar5 us)[i]?=some t):∃t2,us[i]?=some t2/\t=.tup [.int i,t2]:=by
 unfold ar5 at h;rw[List.getElem?_zipWith]at h;cases h2:us[i]? with
 |none=>rw[h2]at h;cases q:(List.range us.length)[i]?<;>rw[q]at h<;>cases h
 |some t2=>have hi:=(C8.mp h2).1;rw[h2,O0 hi]at h;exact⟨t2,rfl,(E9 h).symm⟩
def cp0(ex:x=.ref p)(hp:H p=some (.tup [v1,v2]))(h1:Rep K cn H Z t1 v1 [])(h2:Rep K cn H Z t2 v2 []):Rep K cn H Z (.tup [t1,t2]) x []:=by simp only[Rep];refine⟨p,[v1,v2],ex,SqT.of hp,?_⟩;simp only[Reps];exact⟨v1,[v2],[],[],rfl,rfl,h1,v2,[],[],[],rfl,rfl,h2,rfl,rfl⟩
def Src.turn{fz:Bool}{H:Hp}{Z:av}{J:It}{ts:aw}{i:Nat}{t:T}(h:Src K cn fz H Z J ts)(zi:∀a,Z a->H a≠none)(e:ts[i]?=some t):J.go i H/\∀x H',J.yld i H x H'->Mo H Z H' Z/\Rep K cn H' Z t x []:=by
 have m0:Mo H Z H Z:=⟨Same.refl _,λ_ h=>h,λ_ h=>.inl h,zi⟩;rcases h with⟨a,vs,rfl,hs,r⟩|⟨a,vs,rfl,hs,r⟩|⟨lo,n,rfl,rfl⟩|⟨z,rfl,rfl⟩|⟨k1,k2,l1,l2,vs,ws,us,us',rfl,q1,q2,r1,r2,rfl⟩|⟨l,vs,us,rfl,q1,r1,rfl⟩
 . refine z23 (Reps.get ts r e) λv B ev rv hB _=>?_;have hs:=be2 hs;have eB:B=[]:=M7.mpr λb hb=>by cases hB b hb
   subst eB;refine⟨⟨vs,v,hs,ev⟩,λx H' ⟨e1,e2⟩=>⟨e1▸m0,?_⟩⟩;subst e1;have:=e2 vs hs;rw[ev]at this;cases this;exact rv
 . refine z23 (Reps.get ts r e) λv B ev rv hB _=>?_;have eB:B=[]:=M7.mpr λb hb=>by cases hB b hb
   subst eB;refine⟨⟨vs,v,hs,ev⟩,λx H' ⟨e1,e2⟩=>⟨e1▸m0,?_⟩⟩;subst e1;have:=e2 vs hs;rw[ev]at this;cases this;exact rv
 . rw[E3]at e;cases q:(List.range n)[i]? with
   |none=>rw[q]at e;cases e
   |some j=>rw[q]at e;obtain⟨h1,h2⟩:=C8.mp q;simp at h1 h2;subst h2;cases e;refine⟨h1,λx H' ⟨e1,e2⟩=>⟨e1▸m0,?_⟩⟩;subst e1;subst e2;simp[Rep]
 . rw[E3]at e;cases q:z.cps.toList[i]? with
   |none=>rw[q]at e;cases e
   |some c=>rw[q]at e;cases e;have h1:=(C8.mp q).1;refine⟨show i<z.cps.size by simpa using h1,λx H' ⟨e1,c',e2,e3⟩=>⟨e1▸m0,?_⟩⟩;subst e1;rw[<-X4]at e2;rw[q]at e2;cases e2;subst e3;simp[Rep]
 . refine z22 (bo5 e) λt1 t2 e1 e2 zz=>?_;subst zz;refine z23 (Reps.get us r1 e1) λv1 B1 ev1 rv1 hB1 _=>?_;refine z23 (Reps.get us' r2 e2) λv2 B2 ev2 rv2 hB2 _=>?_;have n1:B1=[]:=M7.mpr λb hb=>by cases hB1 b hb
   have n2:B2=[]:=M7.mpr λb hb=>by cases hB2 b hb
   subst n1 n2;refine⟨⟨vs,ws,v1,v2,q1.sq,q2.sq,ev1,ev2⟩,λx H' ⟨p,hp,ex,h⟩=>?_⟩;refine z22 (h vs ws q1.sq q2.sq) λy1 y2 f1 f2 zz=>?_;subst zz;rw[ev1]at f1;rw[ev2]at f2;cases f1;cases f2;have m:=Mo.new (.tup [v1,v2]) hp zi;exact⟨m,cp0 ex fR (rv1.same m.same m.zz) (rv2.same m.same m.zz)⟩
 . obtain⟨t2,e2,rfl⟩:=bn5 e;refine z23 (Reps.get us r1 e2) λv2 B2 ev2 rv2 hB2 _=>?_;have n2:B2=[]:=M7.mpr λb hb=>by cases hB2 b hb
   subst n2;refine⟨⟨vs,v2,q1.sq,ev2⟩,λx H' ⟨p,hp,ex,h⟩=>?_⟩;obtain⟨y2,f2,rfl⟩:=h vs q1.sq;rw[ev2]at f2;cases f2;have m:=Mo.new (.tup [.int i,v2]) hp zi;exact⟨m,cp0 ex fR (by simp[Rep]) (rv2.same m.same m.zz)⟩
theorem Src.stop(h:Src K cn fz H Z J ts)(e:ts.length<=i):J.stop i H:=by
 rcases h with⟨a,vs,rfl,hs,r⟩|⟨a,vs,rfl,hs,r⟩|⟨lo,n,rfl,rfl⟩|⟨z,rfl,rfl⟩|⟨k1,k2,l1,l2,vs,ws,us,us',rfl,q1,q2,r1,r2,rfl⟩|⟨l,vs,us,rfl,q1,r1,rfl⟩
 . exact⟨vs,be2 hs,by rw[Reps.length ts r];exact e⟩
 . exact⟨vs,hs,by rw[Reps.length ts r];exact e⟩
 . show n<=i;simpa using e
 . have:z.cps.size<=i:=by simpa using e
   exact this
 . refine⟨vs,ws,q1.sq,q2.sq,?_⟩;rw[Reps.length us r1,Reps.length us' r2];rw[an3]at e;omega
 . refine⟨vs,q1.sq,?_⟩;rw[Reps.length us r1];rw[bb5]at e;exact e
def Same.sqT(e:Same H H')(h:SqT K H a xs):SqT K H' a xs:=SqT.keep h λb o q _=>e b o q
theorem SqF.mo(h:SqF fz k K H Z l xs)(m:Mo H Z H' Z'):SqF fz k K H' Z' l xs:=by
 cases k with
 |true=>exact Same.sqT m.same h
 |false=>
  cases fz with
  |true=>exact FzL.keep (show FzL K H Z l xs from h) (λb o q _=>m.same b o q) m.zz
  |false=>exact m.same.seq (show SqL K H l xs from h)
theorem SqF.kept(h:SqF true k K H Z l xs)(kz:∀b o,H b=some o->(Z b\/sM o=true)->H' b=some o)(hz:∀a,Z a->Z' a):SqF true k K H' Z' l xs:=by
 cases k with
 |true=>exact SqT.keep (show SqT K H l xs from h) λb o q c=>kz b o q (.inr c)
 |false=>exact FzL.keep (show FzL K H Z l xs from h) kz hz
theorem Src.mo(h:Src K cn fz H Z J ts)(m:Mo H Z H' Z'):Src K cn fz H' Z' J ts:=by
 rcases h with⟨a,vs,rfl,hs,r⟩|⟨a,vs,rfl,hs,r⟩|h|h|⟨k1,k2,l1,l2,vs,ws,us,us',rfl,q1,q2,r1,r2,rfl⟩|⟨l,vs,us,rfl,q1,r1,rfl⟩
 . refine .inl ⟨a,vs,rfl,?_,r.same m.same m.zz⟩;cases fz with
   |true=>rw[C7 rfl]at hs⊢;exact hs.keep (λb o q _=>m.same b o q) m.zz
   |false=>rw[D3 Y2]at hs⊢;exact m.same.seq hs
 . exact .inr (.inl ⟨a,vs,rfl,Same.sqT m.same hs,r.same m.same m.zz⟩)
 . exact .inr (.inr (.inl h))
 . exact .inr (.inr (.inr (.inl h)))
 . exact .inr (.inr (.inr (.inr (.inl ⟨k1,k2,l1,l2,vs,ws,us,us',rfl,q1.mo m,q2.mo m,r1.same m.same m.zz,r2.same m.same m.zz,rfl⟩))))
 . exact .inr (.inr (.inr (.inr (.inr ⟨l,vs,us,rfl,q1.mo m,r1.same m.same m.zz,rfl⟩))))
def Src.ev(h:Src K cn true H Z J ts)(F:Frm Jn K cn H Z U O As)(e:Ev As H Z As' H' Z'):Src K cn true H' Z' J ts:=by
 have kz:∀b o,H b=some o->(Z b\/sM o=true)->H' b=some o:=λb o q c=>e.keep b o q λhb=>by
  rcases c with c|c
  . exact F.nz b hb c
  . obtain⟨o',q',i'⟩:=F.sl.dom b hb;rw[q]at q';cases q';rw[c]at i';cases i'
 rcases h with⟨a,vs,rfl,hs,r⟩|⟨a,vs,rfl,hs,r⟩|h|h|⟨k1,k2,l1,l2,vs,ws,us,us',rfl,q1,q2,r1,r2,rfl⟩|⟨l,vs,us,rfl,q1,r1,rfl⟩
 . rw[C7 rfl]at hs;refine .inl ⟨a,vs,rfl,?_,Reps.keep ts r (λb o q c=>kz b o q (c.resolve_left ((λz=>nomatch z)))) e.zz⟩;rw[C7 rfl];exact hs.keep kz e.zz
 . exact .inr (.inl ⟨a,vs,rfl,SqT.keep hs (λb o q c=>kz b o q (.inr c)),Reps.keep ts r (λb o q c=>kz b o q (c.resolve_left ((λz=>nomatch z)))) e.zz⟩)
 . exact .inr (.inr (.inl h))
 . exact .inr (.inr (.inr (.inl h)))
 . exact .inr (.inr (.inr (.inr (.inl ⟨k1,k2,l1,l2,vs,ws,us,us',rfl,q1.kept kz e.zz,q2.kept kz e.zz,Reps.keep us r1 (λb o q c=>kz b o q (c.resolve_left ((λz=>nomatch z)))) e.zz,Reps.keep us' r2 (λb o q c=>kz b o q (c.resolve_left ((λz=>nomatch z)))) e.zz,rfl⟩))))
 . exact .inr (.inr (.inr (.inr (.inr ⟨l,vs,us,rfl,q1.kept kz e.zz,Reps.keep us r1 (λb o q c=>kz b o q (c.resolve_left ((λz=>nomatch z)))) e.zz,rfl⟩))))
def WpI(K:A1)(cn:ac)(E:XK)(fz:Bool)(As:af)(H:Hp)(Z:av)(R:It->Hp->Prop):Res (List T)->Prop
 |.ok ts=>∀J H' Z',Mo H Z H' Z'->Src K cn fz H' Z' J ts->R J H'
 |.ex x=>WpX K cn E As H Z x
 |.no=>False
def RI(Jn:iK)(K:A1)(cn:ac)(E:XK)(fz:Bool)(wi:TI)(d:ay):Prop:=∀As H Z U O,Frm Jn K cn H Z U O As->∀R,WpI K cn E fz As H Z R (d U)->wi O H R
noncomputable def gate{α:Type}(p:Prop)(a:Res α):Res α:=@ite _ p (Classical.propDecidable p) a .no
def gM(h:p):gate p a=a:=by unfold gate;rw[C7 h]
theorem WpI.gate(w:WpI K cn E fz As H Z R (TL.gate p r)):p/\WpI K cn E fz As H Z R r:=by
 unfold TL.gate at w;split at w
 . exact⟨by assumption,w⟩
 . exact w.elim
theorem WpE.gate(w:WpE K cn E As H Z mv Q (TL.gate p r)):p/\WpE K cn E As H Z mv Q r:=by
 unfold TL.gate at w;split at w
 . exact⟨by assumption,w⟩
 . exact w.elim
def fL(lo:Int)(n:Nat):List T:=(List.range n).map λi=>T.int (lo+(i:Nat))
noncomputable def iW:List T->Res (List T)
 |[.int j]=>gate (-(2^62)<=j/\j<2^62) (.ok (fL 0 j.toNat))
 |_=>.no
noncomputable def cl7:List T->Res (List T)
 |[.int i,.int j]=>gate (-(2^62)<=i/\i<2^62/\-(2^62)<=j/\j<2^62) (.ok (fL i (j-i).toNat))
 |_=>.no
def gK(f:List T->Res (List T))(a:ay):Fr->Res (List T):=λU=>(a U).bind f
def Reps.ints1(r:Reps K cn H Z [.int i] vs A):vs=[.int i]:=by simp only[Reps,Rep]at r;obtain⟨v,w,B,C,rfl,rfl,⟨rfl,rfl⟩,rfl,rfl⟩:=r;rfl
def Reps.ints2(r:Reps K cn H Z [.int i,.int j] vs A):vs=[.int i,.int j]:=by simp only[Reps,Rep]at r;obtain⟨v,w,B,C,rfl,rfl,⟨rfl,rfl⟩,v2,w2,B2,C2,rfl,rfl,⟨rfl,rfl⟩,rfl,rfl⟩:=r;rfl
theorem ek2(ha:wN Jn K cn E ta a):RI Jn K cn E fz (dp8 ta) (gK iW a):=λAs H Z U O F R w=>by
 unfold gK at w;refine ha As H Z U O F _ ?_;cases e:a U with
 |ok ts=>
  rw[e]at w;intro vs H1 Z1 B m r;simp only[Res.bind]at w;unfold iW at w;split at w
  . next j=>
    obtain⟨hb,w⟩:=w.gate;exact⟨j,r.ints1,hb.1,hb.2,w (Itr 0 j.toNat) H1 Z1 m (.inr (.inr (.inl ⟨0,j.toNat,rfl,rfl⟩)))⟩
  . exact w.elim
 |_=>rw[e]at w;exact w
theorem ed2(ha:wN Jn K cn E ta a):RI Jn K cn E fz (di9 ta) (gK cl7 a):=λAs H Z U O F R w=>by
 unfold gK at w;refine ha As H Z U O F _ ?_;cases e:a U with
 |ok ts=>
  rw[e]at w;intro vs H1 Z1 B m r;simp only[Res.bind]at w;unfold cl7 at w;split at w
  . next i j=>
    obtain⟨hb,w⟩:=w.gate;exact⟨i,j,r.ints2,hb,w (Itr i (j-i).toNat) H1 Z1 m (.inr (.inr (.inl ⟨i,_,rfl,rfl⟩)))⟩
  . exact w.elim
 |_=>rw[e]at w;exact w
def iV(K:A1)(tl:TE):TI:=λO H R=>tl O H λx H1=>(∃a,x=.ref a/\(((∃xs,SqL K H1 a xs)/\R (Itl K a) H1)\/((∃xs,SqT K H1 a xs)/\R (Itt K a) H1)))\/∃z,x=.str z/\R (Its z) H1
def kO:T->Res (List T)
 |.lst _ ts=>if bF ts=true then .ok ts else .no
 |.tup ts=>if bF ts=true then .ok ts else .no
 |.str z=>.ok (z.cps.toList.map λc=>T.str ⟨#[c]⟩)
 |_=>.no
def uM:T->Res (List T)
 |.lst o ts=>if(!o&&bF ts)=true then .ok ts else .no
 |.tup ts=>if bF ts=true then .ok ts else .no
 |.str z=>.ok (z.cps.toList.map λc=>T.str ⟨#[c]⟩)
 |_=>.no
def iC(f:T->Res (List T))(a:a8):Fr->Res (List T):=λU=>(a U).bind f
def Reps.bareE(r:Reps K cn H Z ts vs A)(h:bF ts=true):Reps K cn H Z ts vs []:=by have:=Reps.bare ts h r;subst this;exact r
theorem fc6(ha:RB Jn K cn E tl a):RI Jn K cn E false (iV K tl) (iC kO a):=λAs H Z U O F R w=>by
 unfold iC at w;refine ha As H Z U O F _ ?_;cases e:a U with
 |ok t=>
  rw[e]at w;intro v H1 Z1 B p;simp only[Res.bind]at w;cases t with
  |lst o ts=>
   simp only[kO]at w;split at w
   . next hn=>
     refine z33 p.rep.lstSq λb vs C zz hs r _=>?_;subst zz;have hs:=hs.sq;exact .inl ⟨b,rfl,.inl ⟨⟨vs,hs⟩,w _ H1 Z1 p.mo (.inl ⟨b,vs,rfl,by rw[D3 Y2];exact hs,r.bareE hn⟩)⟩⟩
   . exact w.elim
  |tup ts=>
   simp only[kO]at w;split at w
   . next hn=>
     have q:=p.rep;simp only[Rep]at q;refine z22 q λb vs zz hs r=>?_;clear q;subst zz;exact .inl ⟨b,rfl,.inr ⟨⟨vs,hs⟩,w _ H1 Z1 p.mo (.inr (.inl ⟨b,vs,rfl,hs,r.bareE hn⟩))⟩⟩
   . exact w.elim
  |str z=>have q:=p.rep;simp only[Rep]at q;obtain⟨rfl,_⟩:=q;exact .inr ⟨z,rfl,w _ H1 Z1 p.mo (.inr (.inr (.inr (.inl ⟨z,rfl,rfl⟩))))⟩
  |_=>exact w.elim
 |_=>rw[e]at w;exact w
theorem fn5(ha:RB Jn K cn E tl a):RI Jn K cn E true (iV K tl) (iC uM a):=λAs H Z U O F R w=>by
 unfold iC at w;refine ha As H Z U O F _ ?_;cases e:a U with
 |ok t=>
  rw[e]at w;intro v H1 Z1 B p;simp only[Res.bind]at w;cases t with
  |lst o ts=>
   simp only[uM]at w;split at w
   . next hn=>
     rw[E4]at hn;cases o with
     |true=>exact D8 hn.1 Y2
     |false=>have q:=p.rep;simp only[Rep]at q;refine z23 q λb vs zz zy hs r=>?_;clear q;subst zz zy;exact .inl ⟨b,rfl,.inl ⟨⟨vs,hs.sq⟩,w _ H1 Z1 p.mo (.inl ⟨b,vs,rfl,by rw[C7 rfl];exact hs,r⟩)⟩⟩
   . exact w.elim
  |tup ts=>
   simp only[uM]at w;split at w
   . next hn=>
     have q:=p.rep;simp only[Rep]at q;refine z22 q λb vs zz hs r=>?_;clear q;subst zz;exact .inl ⟨b,rfl,.inr ⟨⟨vs,hs⟩,w _ H1 Z1 p.mo (.inr (.inl ⟨b,vs,rfl,hs,r.bareE hn⟩))⟩⟩
   . exact w.elim
  |str z=>have q:=p.rep;simp only[Rep]at q;obtain⟨rfl,_⟩:=q;exact .inr ⟨z,rfl,w _ H1 Z1 p.mo (.inr (.inr (.inr (.inl ⟨z,rfl,rfl⟩))))⟩
  |_=>exact w.elim
 |_=>rw[e]at w;exact w
def ai7(fz:Bool):T->Option (List T)
 |.lst o ts=>if((!fz||!o)&&bF ts)=true then some ts else none
 |.tup ts=>if bF ts=true then some ts else none
 |_=>none
def bx9(fz:Bool):List T->Res (List T)
 |[t,u]=>match ai7 fz t,ai7 fz u with
  |some ts,some us=>.ok (lG ts us)
  |_,_=>.no
 |_=>.no
def cf7(fz:Bool):List T->Res (List T)
 |[.lst o ts]=>if((!fz||!o)&&bF ts)=true then .ok (ar5 ts)else .no
 |_=>.no
theorem cs4(r:Rep K cn H Z (.lst o ts) v A)(hc:((!fz||!o)&&bF ts)=true):∃l vs,v=.ref l/\SqF fz false K H Z l vs/\Reps K cn H Z ts vs []:=by
 rw[E4]at hc;cases o with
 |true=>
  simp only[Rep]at r;obtain⟨a,vs,B,rfl,rfl,e,r⟩:=r;cases fz with
  |true=>simp at hc
  |false=>exact⟨a,vs,rfl,SqL.of e,r.bareE hc.2⟩
 |false=>
  simp only[Rep]at r;obtain⟨a,vs,rfl,rfl,e,r⟩:=r;cases fz with
  |true=>exact⟨a,vs,rfl,e,r⟩
  |false=>exact⟨a,vs,rfl,e.sq,r⟩
theorem cy4(r:Rep K cn H Z t v A)(h:ai7 fz t=some ts):∃k l vs,v=.ref l/\SqF fz k K H Z l vs/\Reps K cn H Z ts vs []:=by
 cases t with
 |lst o us=>
  simp only[ai7]at h;split at h
  . next hc=>
    cases h;exact⟨false,cs4 r hc⟩
  . cases h
 |tup us=>
  simp only[ai7]at h;split at h
  . next hc=>
    cases h;simp only[Rep]at r;obtain⟨a,vs,rfl,e,r⟩:=r;exact⟨true,a,vs,rfl,e,r.bareE hc⟩
  . cases h
 |_=>simp[ai7]at h
theorem ep7(ha:wN Jn K cn E ta a):RI Jn K cn E fz (dj3 K ta) (gK (bx9 fz) a):=λAs H Z U O F R w=>by
 unfold gK at w;refine ha As H Z U O F _ ?_;cases e:a U with
 |ok ts=>
  rw[e]at w;intro vs H1 Z1 B m r1;simp only[Res.bind]at w;unfold bx9 at w;split at w
  . next t u=>
    split at w
    . next p q h1 h2=>
      simp only[Reps]at r1;obtain⟨v,r',B1,C1,rfl,rfl,ra,v2,r2,B2,C2,rfl,rfl,rb,rfl,rfl⟩:=r1;refine z32 (cy4 ra h1) λk1 l1 us zz s1 p1=>?_;subst zz;refine z32 (cy4 rb h2) λk2 l2 us' zz s2 p2=>?_;subst zz;exact⟨k1,k2,l1,l2,rfl,⟨_,s1.sq⟩,⟨_,s2.sq⟩,w _ H1 Z1 m (.inr (.inr (.inr (.inr (.inl ⟨k1,k2,l1,l2,us,us',_,_,rfl,s1,s2,p1,p2,rfl⟩)))))⟩
    . exact w.elim
  . exact w.elim
 |_=>rw[e]at w;exact w
theorem el1(ha:wN Jn K cn E ta a):RI Jn K cn E fz (ce6 K ta) (gK (cf7 fz) a):=λAs H Z U O F R w=>by
 unfold gK at w;refine ha As H Z U O F _ ?_;cases e:a U with
 |ok ts=>
  rw[e]at w;intro vs H1 Z1 B m r1;simp only[Res.bind]at w;unfold cf7 at w;split at w
  . next o ts=>
    split at w
    . next hc=>
      simp only[Reps]at r1;refine z44 r1 λv r' B1 C1 zz zy ra zx zw=>?_;clear r1;subst zz zy zx zw;refine z22 (cs4 (fz:=fz) ra hc) λl1 us zz s1 p1=>?_;subst zz;exact⟨l1,rfl,⟨_,s1.sq⟩,w _ H1 Z1 m (.inr (.inr (.inr (.inr (.inr ⟨l1,us,_,rfl,s1,p1,rfl⟩)))))⟩
    . exact w.elim
  . exact w.elim
 |_=>rw[e]at w;exact w
def RG(Jn:iK)(K:A1)(cn:ac)(ks:ax)(g:TG)(b:bq):Prop:=
 ∀As H Z U O t v B,Frm Jn K cn H Z U O As->Rep K cn H Z t v B->B.Nodup->(∀x∈B,¬Z x)->(∀x∈B,x∉As.flatten)->∀(Q:cv) ρ',b t U=some ρ'->
  (∀σ' As',Frm Jn K cn H Z ρ' σ' As'->(∀a∈As'.flatten,a∈As.flatten\/a∈B)->σ'.length=O.length->(∀i,i∉ks->σ'[i]?=O[i]?)->Q σ' H)->g v O H Q
structure RGs (Jn:iK) (K:A1) (cn:ac) (ks:ax) (n:Nat) (g:TGs) (b:ce):Prop where
 len:∀ts U ρ',b ts U=some ρ'->ts.length=n
 run:∀As H Z U O ts vs B,Frm Jn K cn H Z U O As->Reps K cn H Z ts vs B->B.Nodup->(∀x∈B,¬Z x)->(∀x∈B,x∉As.flatten)->∀(Q:cv) ρ',b ts U=some ρ'->
  (∀σ' As',Frm Jn K cn H Z ρ' σ' As'->(∀a∈As'.flatten,a∈As.flatten\/a∈B)->σ'.length=O.length->(∀i,i∉ks->σ'[i]?=O[i]?)->Q σ' H)->g vs O H Q
noncomputable def aJ(i:Nat):T->Fr->Option Fr:=λt U=>some (U.set i (some t))
noncomputable def fV:List T->Fr->Option Fr
 |[],U=>some U
 |_::_,_=>none
noncomputable def aY(b:bq)(bs:ce):List T->Fr->Option Fr
 |[],_=>none
 |t::ts,U=>match b t U with
  |some ρ1=>bs ts ρ1
  |none=>none
noncomputable def fO(bs:ce):T->Fr->Option Fr
 |.tup ts,U=>bs ts U
 |_,_=>none
def cx3(i:Nat)(hJ:autoParam (vG Jn i=true) Z8):RG Jn K cn [i] (as5 i) (aJ i):=λAs H Z U O t v B F r nd bz bo Q ρ' e h=>by cases e;refine h _ (As.set i B) (F.set r nd bz i (λb hb hA=>D8 hA (bo b hb)) hJ) (λa ha=>(eJ ha).symm) (by rw[N0]) λj hj=>?_;rw[G7 (λz=>hj (by rw[z];exact A9))]
def eg2:RGs Jn K cn [] 0 ei6 fV where
 len:=λts U ρ' e=>by
  cases ts with
  |nil=>rfl
  |cons _ _=>cases e
 run:=λAs H Z U O ts vs B F r nd bz bo Q ρ' e h=>by
  cases ts with
  |nil=>cases e;simp only[Reps]at r;exact⟨r.1,h O As F (λa ha=>.inl ha) rfl λ_ _=>rfl⟩
  |cons _ _=>cases e
def dz4(h1:RG Jn K cn ks g b)(h2:RGs Jn K cn ls n gs bs):RGs Jn K cn (ks++ls) (n+1) (cl6 g gs) (aY b bs) where
 len:=λts U ρ' e=>by
  cases ts with
  |nil=>cases e
  |cons t ts=>
   simp only[aY]at e;cases e1:b t U with
   |none=>rw[e1]at e;cases e
   |some ρ1=>rw[e1]at e;rw[E1,h2.len ts ρ1 ρ' e]
 run:=λAs H Z U O ts vs B F r nd bz bo Q ρ' e h=>by
  cases ts with
  |nil=>cases e
  |cons t ts=>
   simp only[aY]at e;cases e1:b t U with
   |none=>rw[e1]at e;cases e
   |some ρ1=>
    rw[e1]at e;simp only[Reps]at r;refine z43 r λv vs' B1 B2 zz zy r1 r2=>?_;clear r;subst zz zy;rw[C9]at nd;refine⟨v,vs',rfl,h1 As H Z U O t v B1 F r1 nd.1 (λx hx=>bz x (C6 _ hx)) (λx hx=>bo x (C6 _ hx)) _ ρ1 e1 λσ1 As1 F1 o1 l1 k1=>?_⟩;refine h2.run As1 H Z ρ1 σ1 ts vs' B2 F1 r2 nd.2.1 (λx hx=>bz x (B5 _ hx)) (λx hx hA=>?_) Q ρ' e λσ2 As2 F2 o2 l2 k2=>?_
    . rcases o1 x hA with z|z
      . exact bo x (B5 _ hx) z
      . exact nd.2.2 x z x hx rfl
    . refine h σ2 As2 F2 (λa ha=>?_) (l2.trans l1) λi hi=>?_
      . rcases o2 a ha with z|z
        . exact(o1 a z).imp_right (C6 _)
        . exact .inr (B5 _ z)
      . rw[k2 i (λz=>hi (B5 _ z)),k1 i (λz=>hi (C6 _ z))]
theorem em7(h:RGs Jn K cn ks n gs bs):RG Jn K cn ks (dp6 K n gs) (fO bs):=λAs H Z U O t v B F r nd bz bo Q ρ' e h'=>by
 cases t with
 |tup ts=>simp only[fO]at e;simp only[Rep]at r;obtain⟨a,vs,rfl,hs,r⟩:=r;exact⟨a,vs,rfl,hs,by rw[Reps.length ts r];exact h.len ts U ρ' e,h.run As H Z U O ts vs B F r nd bz bo Q ρ' e h'⟩
 |_=>cases e
noncomputable def cL(b:bq)(c:bu)(d:a8)(U:Fr):List T->Res (List T)
 |[]=>.ok []
 |t::ts=>match b t U with
  |none=>.no
  |some ρ1=>(c ρ1).bind λk=>if k=true then(d ρ1).bind λu=>(cL b c d U ts).bind λus=>.ok (u::us)else cL b c d U ts
def eZ(ks:ax)(di:ay)(b:bq)(c:bu)(d:a8):Fr->Res T:=λU=>
 (di U).bind λts=>if ts.length<=sizeLine then(cL b c d (kills ks U) ts).bind λus=>.ok (.lst true us)else .no
def cO:Fr->Res Bool:=λ_=>.ok true
def et4:RT Jn K cn E er5 cO:=λAs H Z U O F Q w=>w H Z F.mo0.postT
theorem Slots.clr(ks:ax):∀{U:Fr}{O:St}{As:af},Slots K cn H Z U O As->Slots K cn H Z (kills ks U) (L2.clr ks O) (gP ks As):=by
 induction ks with
 |nil=>exact λh=>h
 |cons k ks ih=>exact λh=>ih (h.kill2 none k)
def yB(Jn:iK)(ks:ax):Bool:=ks.all (vG Jn)
theorem bs0:∀(ks:ax){O:St},yB Jn ks=true->(∀p∈Jn,O[p.1]?=some (some p.2))->∀p∈Jn,(L2.clr ks O)[p.1]?=some (some p.2)
 |[],_,_,q=>q
 |k::ks,O,h,q=>by unfold yB at h;rw[W0,E4]at h;exact bs0 ks h.2 (bm4 h.1 none q)
theorem Frm.clr(ks:ax)(F:Frm Jn K cn H Z U O As)(hk:yB Jn ks=true):Frm Jn K cn H Z (TL.kills ks U) (L2.clr ks O) (gP ks As):=
 ⟨F.sl.clr ks,(F.kills ks).nd,(F.kills ks).nz,F.zi,bs0 ks hk F.pn⟩
def eq0(hg:RG Jn K cn ks g b)(hc:RT Jn K cn E tc c)(he:RE Jn K cn E [] te d)(hk:yB Jn ks=true)
 (F:Frm Jn K cn H Z U O As)(hs:Src K cn false H Z J ts)(hl:ts.length<=sizeLine)
 (w:WpE K cn E As H Z [] Q ((cL b c d (kills ks U) ts).bind λus=>.ok (.lst true us))):CGo ks g tc te O (λD H'=>Q (.ref D) H') J H:=by
 let R (us:aw) (rest:aw):Res T:=(cL b c d (kills ks U) rest).bind λus'=>.ok (.lst true (us++us'));refine⟨λi m ys H'=>m=ts.length-i/\i<=ts.length/\∃us Z' B,Mo H Z H' Z'/\Reps K cn H' Z' us ys B/\B.Nodup/\(∀x∈B,¬Z' x/\H x=none)/\us.length<=i/\WpE K cn E As H Z [] Q (R us (ts.drop i)),⟨ts.length,Y1,R7 _,[],Z,[],F.mo0,Reps.nil,F6,dN,D4 _,?_⟩,?_⟩
 . simpa[R]using w
 rintro i m ys H1 ⟨rfl,hi,us,Z1,B,m1,r1,nd,bz,hul,w⟩;have hyl:=Reps.length us r1;have s1:=hs.mo m1;by_cases hlt:i<ts.length
 . obtain⟨t,et⟩:∃t,ts[i]?=some t:=⟨ts[i],A2 hlt⟩;obtain⟨go,yl⟩:=s1.turn m1.zi et;have ed:ts.drop i=t::ts.drop (i+1):=by have:=C8.mp et;obtain⟨h1,h2⟩:=this;rw[<-h2];exact List.drop_eq_getElem_cons hlt
   refine .inr ⟨go,X8,_,λys' H' p'=>⟨ts.length-(i+1),X8,p'⟩,λx H' y=>?_⟩;obtain⟨my,rx⟩:=yl x H' y;have r1:=r1.same my.same my.zz;have m1:=m1.trans my;have F1:=(F.mo m1).clr ks hk;rw[ed]at w;simp only[R,cL]at w;cases eb:b t (kills ks U)with
   |none=>rw[eb]at w;exact w.elim
   |some ρ1=>
    rw[eb]at w;simp only at w;refine hg (gP ks As) H' Z1 (kills ks U) (L2.clr ks O) t x [] F1 rx F6 (dN) (dN) _ ρ1 eb λσ2 As2 F2 o2 l2 k2=>⟨⟨?_,λj v hj=>?_⟩,?_⟩
    . rw[l2,tQ]
    . have:=(bd3 ks O hj).2;rw[k2 j this,hj]
    refine hc As2 H' Z1 ρ1 σ2 F2 _ ?_;have toX:∀{x:Exc}{H2:Hp}{Z2:av},Mo H' Z1 H2 Z2->WpX K cn E As H Z x->WpX K cn E As2 H2 Z2 x:=by
     intro x H2 Z2 m2 h;refine h.ev (m1.trans m2).ev|>.ev ⟨λ_ _ q _=>q,λa ha=>?_,λ_ q=>q,λ_ q=>.inl q,λ_ q=>q⟩
     rcases o2 a ha with z|z
     . exact .inl (gA z)
     . cases z
    cases ec:c ρ1 with
    |ok k=>
     rw[ec]at w;intro H2 Z2 p2;simp only[Res.bind]at w;cases k with
     |true=>
      rw[C7 rfl]at w;rw[C7 rfl];refine he As2 H2 Z2 ρ1 σ2 (F2.mo p2.mo) _ ?_;cases ee:d ρ1 with
      |ok u=>
       rw[ee]at w;intro v H3 Z3 C p3;have m3:=(m1.trans p2.mo).trans p3.mo;have bnC:∀y∈C,H2 y=none:=λy hy=>(p3.bn y hy).resolve_right (λ⟨i,hi,_⟩=>by cases hi);refine⟨rfl,hlt,us++[u],Z3,B++C,m3,Reps.append us (r1.same (p2.same.trans p3.same) (λa h=>p3.zz a (p2.zz a h))) (Reps.one p3.rep),?_,?_,by simp;omega,?_⟩
       . rw[C9];refine⟨nd,p3.nd,λx hx y hy e=>?_⟩;subst e;obtain⟨o,ho,_⟩:=Reps.dom us r1 x hx;have:=bnC x hy;rw[p2.same x o ho]at this;cases this
       . intro x hx;rcases A6.mp hx with hx|hx
         . refine⟨λz=>?_,(bz x hx).2⟩;obtain⟨o,ho,_⟩:=Reps.dom us r1 x hx;rcases(p2.mo.trans p3.mo).zn x z with z|z
           . exact(bz x hx).1 z
           . rw[ho]at z;cases z
         . exact⟨p3.bz x hx,(m1.trans p2.mo).same.free (bnC x hx)⟩
       . simp only[R];have:∀r:Res (List T),((r.bind λus'=>Res.ok (u::us')).bind λus'=>Res.ok (T.lst true (us++us')))=r.bind λus'=>Res.ok (T.lst true (us++[u]++us')):=by intro r;cases r<;>simp[Res.bind]
         simp only at w;rw[<-this];exact w
      |ex x=>rw[ee]at w;exact toX p2.mo w
      |no=>rw[ee]at w;exact w.elim
     |false=>
      rw[D3 Y2]at w;rw[D3 Y2];refine⟨rfl,hlt,us,Z2,B,m1.trans p2.mo,r1.same p2.same p2.zz,nd,λx hx=>⟨λz=>?_,(bz x hx).2⟩,X8,w⟩;obtain⟨o,ho,_⟩:=Reps.dom us r1 x hx;rcases p2.zn x z with z|z
      . exact(bz x hx).1 z
      . rw[ho]at z;cases z
    |ex x=>rw[ec]at w;exact toX ⟨Same.refl _,λ_ h=>h,λ_ h=>.inl h,m1.zi⟩ w
    |no=>rw[ec]at w;exact w.elim
 . have ei:i=ts.length:=X8
   subst ei;refine .inl ⟨s1.stop (D4 _),λD hD=>?_⟩;rw[List.drop_length]at w;simp only[R,cL,Res.bind,K0]at w;have hm:=m1.trans (Mo.new (.lst ys) hD m1.zi);refine w (.ref D) _ Z1 (D::B) ⟨hm.same,hm.zz,hm.zn,hm.zi,?_,?_,?_,?_⟩
   . simp only[Rep];exact⟨D,ys,B,rfl,rfl,fR,r1.same (ci1 hD _) (λ_ h=>h)⟩
   . refine E7.mpr ⟨λhb=>?_,nd⟩;obtain⟨o,ho,_⟩:=Reps.dom us r1 D hb;rw[ho]at hD;cases hD
   . intro x hx;rcases B6.mp hx with rfl|hx
     . exact λz=>m1.zi _ z hD
     . exact(bz x hx).1
   . intro x hx;rcases B6.mp hx with rfl|hx
     . exact .inl (m1.same.free hD)
     . exact .inl (bz x hx).2
theorem cc4(hi:RI Jn K cn E false wi di)(hg:RG Jn K cn ks g b)(hc:RT Jn K cn E tc c)(he:RE Jn K cn E [] te d)(hk:autoParam (yB Jn ks=true) Z8):
 RE Jn K cn E [] (cn7 ks wi g tc te) (eZ ks di b c d):=λAs H Z U O F Q w=>by
 unfold eZ at w;refine hi As H Z U O F _ ?_;cases e:di U with
 |ok ts=>
  rw[e]at w;intro J H1 Z1 m s;simp only[Res.bind]at w;split at w
  . next hl=>exact eq0 hg hc he hk (F.mo m) s hl (WpE.mo F w m)
  . exact w.elim
 |_=>rw[e]at w;exact w
noncomputable def sSeq(a b:Fr->bR):Fr->bR:=λU=>match a U with
 |.nx ρ'=>b ρ'
 |o=>o
def bN:Fr->bR:=λU=>.nx U
def en0:RS Jn K cn E de9 bN:=λAs H Z U O F D w=>w O As H Z F Ev.refl
theorem cc1(ha:RS Jn K cn E t a)(hb:RS Jn K cn E u b):RS Jn K cn E (el5 t u) (sSeq a b):=λAs H Z U O F D w=>by
 unfold sSeq at w;refine ha As H Z U O F _ ?_;cases e:a U with
 |nx ρ'=>rw[e]at w;exact λσ' As' H' Z' F' ev=>hb As' H' Z' ρ' σ' F' D (Wp.ev w ev)
 |_=>rw[e]at w;exact w
def bG(mv:ax)(d:a8)(b:bq):Fr->bR:=λU=>match d U with
 |.ok t=>match b t (kills mv U)with
  |some ρ'=>.nx ρ'
  |none=>.no
 |.ex x=>.ex x
 |.no=>.no
def Post.out(F:Frm Jn K cn H Z U O As)(p:Post K cn As H Z mv H' Z' t v B):∀x∈B,x∉(gP mv As).flatten:=λx hx hA=>by
 rcases p.bn x hx with z|⟨i,hi,z⟩
 . obtain⟨o,ho,_⟩:=F.sl.dom x (gA hA);rw[ho]at z;cases z
 . exact wI F.nd hi z hA
def Post.inA(p:Post K cn As H Z mv H' Z' t v B):∀x∈B,x∈As.flatten\/H x=none:=λx hx=>by
 rcases p.bn x hx with z|⟨i,hi,z⟩
 . exact .inr z
 . exact .inl (bB z)
theorem dh2(he:RE Jn K cn E mv te d)(hg:RG Jn K cn ks g b):RS Jn K cn E (ba2 te g) (bG mv d b):=λAs H Z U O F D w=>by
 unfold bG at w;refine he As H Z U O F _ ?_;cases e:d U with
 |ok t=>
  rw[e]at w;intro v H1 Z1 B p;simp only at w;cases eb:b t (kills mv U)with
  |none=>rw[eb]at w;exact w.elim
  |some ρ'=>
   rw[eb]at w;refine hg (gP mv As) H1 Z1 (kills mv U) O t v B ((F.mo p.mo).kills mv) p.rep p.nd p.bz (p.out F) _ ρ' eb λσ' As' F' o' _ _=>?_;refine w σ' As' H1 Z1 F' ⟨λa o h _=>p.same a o h,λa ha=>?_,p.zz,λa h=>(p.zn a h).imp_right .inr,λa h=>p.same.free h⟩;rcases o' a ha with z|z
   . exact .inl (gA z)
   . exact p.inA a z
 |_=>rw[e]at w;exact w
def cr6(hi:RI Jn K cn E false wi di)(hg:RG Jn K cn ks g b)(hc:RT Jn K cn E tc c)(he:RE Jn K cn E [] te d)(hk:autoParam (yB Jn ks=true) Z8)(hJ:autoParam (vG Jn k=true) Z8):
 RS Jn K cn E (ab8 k ks wi g tc te) (bG [] (eZ ks di b c d) (aJ k)):=λAs H Z U O F D w=>
 dh2 (cc4 hi hg hc he hk) (cx3 k hJ) As H Z U O F D w
def bH(mv:ax)(d:a8):Fr->bR:=λU=>match d U with
 |.ok t=>.rt t
 |.ex x=>.ex x
 |.no=>.no
theorem es9(he:RE Jn K cn E mv te d):RS Jn K cn E (di5 te) (bH mv d):=λAs H Z U O F D w=>by
 unfold bH at w;refine he As H Z U O F _ ?_;cases e:d U with
 |ok t=>rw[e]at w;intro v H1 Z1 B p;refine w v H1 Z1 B ⟨⟨λa o h _=>p.same a o h,λa ha=>?_,p.zz,λa h=>(p.zn a h).imp_right .inr,λa h=>p.same.free h⟩,p.rep,p.nd,p.bz,p.zi⟩;rw[B8,List.flatten_nil,K0]at ha;exact p.inA a ha
 |_=>rw[e]at w;exact w
noncomputable def cI(c:bu)(a b:Fr->bR):Fr->bR:=λU=>match c U with
 |.ok k=>if k=true then a U else b U
 |.ex x=>.ex x
 |.no=>.no
theorem fo0(hc:RT Jn K cn E tt c)(ha:RS Jn K cn E t a)(hb:RS Jn K cn E u b):RS Jn K cn E (er9 tt t u) (cI c a b):=λAs H Z U O F D w=>by
 unfold cI at w;refine hc As H Z U O F _ ?_;cases e:c U with
 |ok k=>
  rw[e]at w;intro H1 Z1 p;simp only at w;split
  . next h=>rw[C7 h]at w;exact ha As H1 Z1 U O (F.mo p.mo) D (Wp.ev w p.mo.ev)
  . next h=>rw[D3 h]at w;exact hb As H1 Z1 U O (F.mo p.mo) D (Wp.ev w p.mo.ev)
 |_=>rw[e]at w;exact w
noncomputable def bp7(d:a8):Fr->bR:=λU=>match d U with
 |.ok _=>.nx U
 |.ex x=>.ex x
 |.no=>.no
theorem ee3(he:RE Jn K cn E [] te d):RS Jn K cn E (bu7 te) (bp7 d):=λAs H Z U O F D w=>by
 unfold bp7 at w;refine he As H Z U O F _ ?_;cases e:d U with
 |ok t=>rw[e]at w;exact λv H1 Z1 B p=>w O As H1 Z1 (F.mo p.mo) p.mo.ev
 |_=>rw[e]at w;exact w
def bl8:Fr->bR:=λU=>.bk U
def fo4:Fr->bR:=λU=>.ct U
def dp3:RS Jn K cn E do2 bl8:=λAs H Z U O F D w=>w O As H Z F Ev.refl
noncomputable def cY(b:bq)(body:Fr->bR):List T->Fr->bR
 |[],U=>.nx U
 |t::ts,U=>match b t U with
  |none=>.no
  |some ρ1=>match body ρ1 with
   |.nx ρ2=>cY b body ts ρ2
   |.ct ρ2=>cY b body ts ρ2
   |.bk ρ2=>.nx ρ2
   |o=>o
def fW(di:ay)(b:bq)(body:Fr->bR):Fr->bR:=λU=>match di U with
 |.ok ts=>cY b body ts U
 |.ex x=>.ex x
 |.no=>.no
theorem en4(hi:RI Jn K cn E true wi di)(hg:RG Jn K cn ks g b)(hb:RS Jn K cn E tb body):RS Jn K cn E (eu8 wi g tb) (fW di b body):=λAs H Z U O F D w=>by
 unfold fW at w;refine hi As H Z U O F _ ?_;cases e:di U with
 |ok ts=>
  rw[e]at w;intro J H1 Z1 m s;refine⟨λi k σ' H'=>k=ts.length-i/\i<=ts.length/\∃ρ' Z' As',Frm Jn K cn H' Z' ρ' σ' As'/\Src K cn true H' Z' J ts/\Wp Jn K cn E As' H' Z' D (cY b body (ts.drop i) ρ'),⟨ts.length,Y1,R7 _,U,Z1,As,F.mo m,s,Wp.ev w m.ev⟩,?_⟩;rintro i k σ1 H2 ⟨rfl,hle,ρ1,Z2,As1,F1,s1,w1⟩;by_cases hlt:i<ts.length
  . obtain⟨t,et⟩:∃t,ts[i]?=some t:=⟨ts[i],A2 hlt⟩;obtain⟨go,yl⟩:=s1.turn F1.zi et;have ed:ts.drop i=t::ts.drop (i+1):=by obtain⟨h1,h2⟩:=C8.mp et;rw[<-h2];exact List.drop_eq_getElem_cons hlt
    refine .inr ⟨go,_,λσ' H' p'=>⟨ts.length-(i+1),X8,p'⟩,λx H' y=>?_⟩;obtain⟨my,rx⟩:=yl x H' y;have F1:=F1.mo my;have s1:=s1.mo my;have w1:=Wp.ev w1 (my.ev (As:=As1));rw[ed]at w1;simp only[cY]at w1;cases eb:b t ρ1 with
    |none=>rw[eb]at w1;exact w1.elim
    |some ρ2=>
     rw[eb]at w1;simp only at w1;refine hg As1 H' Z2 ρ1 σ1 t x [] F1 rx F6 (dN) (dN) _ ρ2 eb λσ2 As2 F2 o2 _ _=>?_;have ev2:Ev As1 H' Z2 As2 H' Z2:=⟨λ_ _ q _=>q,λa ha=>.inl ((o2 a ha).resolve_right ((λz=>nomatch z))),λ_ q=>q,λ_ q=>.inl q,λ_ q=>q⟩;refine hb As2 H' Z2 ρ2 σ2 F2 _ ?_;have w2:=Wp.ev w1 ev2;cases eo:body ρ2 with
     |nx ρ3=>rw[eo]at w2;exact λσ' As' H'' Z' F' ev=>⟨rfl,hlt,ρ3,Z',As',F',(s1.ev F1 ev2).ev F2 ev,Wp.ev w2 ev⟩
     |ct ρ3=>rw[eo]at w2;exact λσ' As' H'' Z' F' ev=>⟨rfl,hlt,ρ3,Z',As',F',(s1.ev F1 ev2).ev F2 ev,Wp.ev w2 ev⟩
     |_=>rw[eo]at w2;exact w2
  . have ei:i=ts.length:=X8
    subst ei;rw[List.drop_length]at w1;exact .inl ⟨s1.stop (D4 _),w1 σ1 As1 H2 Z2 F1 Ev.refl⟩
 |_=>rw[e]at w;exact w
noncomputable def tV(c:bu)(body:Fr->bR):Nat->Fr->bR
 |0,_=>.no
 |n+1,U=>match c U with
  |.ok k=>if k=true then match body U with
   |.nx ρ2=>tV c body n ρ2
   |.ct ρ2=>tV c body n ρ2
   |.bk ρ2=>.nx ρ2
   |o=>o
   else .nx U
  |.ex x=>.ex x
  |.no=>.no
def cd4:∃n:Nat,10^12<=n:=⟨_,D4 _⟩
noncomputable def yZ:Nat:=Classical.choose cd4
def ed1:10^12<=yZ:=Classical.choose_spec cd4
noncomputable def ah5(c:bu)(body:Fr->bR):Fr->bR:=tV c body yZ
theorem db6(hc:RT Jn K cn E tc c)(hb:RS Jn K cn E tb body):RS Jn K cn E (ck9 tc tb) (ah5 c body):=λAs H Z U O F D w=>by
 unfold ah5 at w;refine⟨λn σ' H'=>∃ρ' Z' As',Frm Jn K cn H' Z' ρ' σ' As'/\Wp Jn K cn E As' H' Z' D (tV c body n ρ'),⟨yZ,U,Z,As,F,w⟩,?_⟩;rintro n σ1 H1 ⟨ρ1,Z1,As1,F1,w1⟩;cases n with
 |zero=>exact w1.elim
 |succ n=>
  refine hc As1 H1 Z1 ρ1 σ1 F1 _ ?_;simp only[tV]at w1;cases ec:c ρ1 with
  |ok k=>
   rw[ec]at w1;intro H2 Z2 p2;simp only at w1;cases k with
   |true=>
    rw[C7 rfl]at w1;rw[C7 rfl];refine⟨λσ' H'=>∃ρ' Z' As',Frm Jn K cn H' Z' ρ' σ' As'/\Wp Jn K cn E As' H' Z' D (tV c body n ρ'),λσ' H' p'=>⟨n,Q1 _,p'⟩,?_⟩;refine hb As1 H2 Z2 ρ1 σ1 (F1.mo p2.mo) _ ?_;have w2:=Wp.ev w1 p2.mo.ev;cases eo:body ρ1 with
    |nx ρ3=>rw[eo]at w2;exact λσ' As' H'' Z' F' ev=>⟨ρ3,Z',As',F',Wp.ev w2 ev⟩
    |ct ρ3=>rw[eo]at w2;exact λσ' As' H'' Z' F' ev=>⟨ρ3,Z',As',F',Wp.ev w2 ev⟩
    |_=>rw[eo]at w2;exact w2
   |false=>rw[D3 Y2]at w1;rw[D3 Y2];exact w1 σ1 As1 H2 Z2 (F1.mo p2.mo) p2.mo.ev
  |_=>rw[ec]at w1;exact w1
noncomputable def jW(t':T):List Nat->T->Option T
 |[],_=>some t'
 |k::p,.lst o ts=>match ts[k]? with
  |some t=>(jW t' p t).map λu=>.lst o (ts.set k u)
  |none=>none
 |k::p,.tup ts=>match ts[k]? with
  |some t=>(jW t' p t).map λu=>.tup (ts.set k u)
  |none=>none
 |k::p,.ins o c ns ts=>match ts[k]? with
  |some t=>(jW t' p t).map λu=>.ins o c ns (ts.set k u)
  |none=>none
 |_::_,_=>none
structure Plug (K:A1) (cn:ac) (H:Hp) (Z:av) (t0:T) (v0:V) (A0:ao) (p:ax) (u:T) (v:V) (B:ao):Prop where
 rep:Rep K cn H Z u v B
 sub:B.Sublist A0
 plug:∀H' Z' u' B',(∀a,Z a->Z' a)->(∀b o,H b=some o->((b∈A0/\b∉B)\/Z b\/sM o=true)->H' b=some o)->Rep K cn H' Z' u' v B'->B'.Nodup->(∀x∈B',x∈A0->x∈B)->
  ∃t' A',jW u' p t0=some t'/\Rep K cn H' Z' t' v0 A'/\A'.Nodup/\∀x∈A',(x∈A0/\x∉B)\/x∈B'
def Plug.mo(h:Plug K cn H Z t0 v0 A0 p u v B)(s:Same H H1)(zz:∀a,Z a->Z1 a):Plug K cn H1 Z1 t0 v0 A0 p u v B:=
 ⟨h.rep.same s zz,h.sub,λH' Z' u' B' z k=>h.plug H' Z' u' B' (λa q=>z a (zz a q)) λb o q c=>k b o (s b o q) (by
  rcases c with c|c|c
  . exact .inl c
  . exact .inr (.inl (zz b c))
  . exact .inr (.inr c))⟩
def Plug.root(h:Rep K cn H Z t0 v0 A0):Plug K cn H Z t0 v0 A0 [] t0 v0 A0:=
 ⟨h,List.Sublist.refl _,λH' Z' u' B' z k r nd _=>⟨u',B',rfl,r,nd,λx hx=>.inr hx⟩⟩
theorem Reps.splice:∀(ts:aw){vs:a9}{A:ao}{k:Nat}{t:T},Reps K cn H Z ts vs A->ts[k]?=some t->∃v B1 B B2,vs[k]?=some v/\A=B1++B++B2/\Rep K cn H Z t v B/\
 ∀H' Z' t' B',(∀a,Z a->Z' a)->(∀b o,H b=some o->(b∈B1\/b∈B2\/Z b\/sM o=true)->H' b=some o)->Rep K cn H' Z' t' v B'->Reps K cn H' Z' (ts.set k t') vs (B1++B'++B2)
 |[],_,_,_,_,h,e=>by simp at e
 |t::ts,vs,A,0,t',h,e=>by simp only[Reps]at h;refine z43 h λv r B C zz zy h1 h2=>?_;clear h;subst zz zy;simp at e;subst e;refine⟨v,[],B,C,rfl,Y1,h1,λH' Z' u B' z k q=>?_⟩;simp only[List.set_cons_zero,Reps];exact⟨v,r,B',C,rfl,Y1,q,Reps.keep ts h2 (λb o e c=>k b o e (.inr c)) z⟩
 |t::ts,vs,A,k+1,t',h,e=>by
  simp only[Reps]at h;refine z43 h λv r B C zz zy h1 h2=>?_;clear h;subst zz zy;obtain⟨v',B1,B',B2,e1,rfl,e3,e4⟩:=Reps.splice ts (k:=k) h2 (by simpa using e);refine⟨v',B++B1,B',B2,by simpa using e1,Y1,e3,λH' Z' u C' z kk q=>?_⟩;simp only[List.set_cons_succ,Reps];refine⟨v,r,B,B1++C'++B2,rfl,Y1,Rep.keep t h1 (λb o e c=>kk b o e ?_) z,e4 H' Z' u C' z (λb o e c=>kk b o e ?_) q⟩
  . rcases c with c|c
    . exact .inl (C6 _ c)
    . exact .inr (.inr c)
  . rcases c with c|c
    . exact .inl (B5 _ c)
    . exact .inr c
noncomputable def eY:List Nat->T->Option T
 |[],t=>some t
 |k::p,.lst _ ts=>(ts[k]?).bind (eY p)
 |k::p,.tup ts=>(ts[k]?).bind (eY p)
 |k::p,.ins _ _ _ ts=>(ts[k]?).bind (eY p)
 |_::_,_=>none
theorem wV:∀(p:ax)(t0 u:T),eY p t0=some u->jW t' [k] u=some u2->jW t' (p++[k]) t0=jW u2 p t0
 |[],t0,u,h,e=>by cases h;exact e
 |j::p,t0,u,h,e=>by
  cases t0 with
  |lst o ts=>
   simp only[eY]at h;cases q:ts[j]? with
   |none=>rw[q]at h;cases h
   |some t=>rw[q]at h;simp only[List.cons_append,jW,q];rw[wV p t u h e]
  |tup ts=>
   simp only[eY]at h;cases q:ts[j]? with
   |none=>rw[q]at h;cases h
   |some t=>rw[q]at h;simp only[List.cons_append,jW,q];rw[wV p t u h e]
  |ins o c ns ts=>
   simp only[eY]at h;cases q:ts[j]? with
   |none=>rw[q]at h;cases h
   |some t=>rw[q]at h;simp only[List.cons_append,jW,q];rw[wV p t u h e]
  |_=>cases h
theorem tX:∀(p:ax)(t0 u u2:T),eY p t0=some u->eY [k] u=some u2->eY (p++[k]) t0=some u2
 |[],t0,u,u2,h,e=>by cases h;exact e
 |j::p,t0,u,u2,h,e=>by
  cases t0 with
  |lst o ts=>
   simp only[eY,List.cons_append]at h⊢;cases q:ts[j]? with
   |none=>rw[q]at h;cases h
   |some t=>rw[q]at h;exact tX p t u u2 h e
  |tup ts=>
   simp only[eY,List.cons_append]at h⊢;cases q:ts[j]? with
   |none=>rw[q]at h;cases h
   |some t=>rw[q]at h;exact tX p t u u2 h e
  |ins o c ns ts=>
   simp only[eY,List.cons_append]at h⊢;cases q:ts[j]? with
   |none=>rw[q]at h;cases h
   |some t=>rw[q]at h;exact tX p t u u2 h e
  |_=>cases h
noncomputable def aq5(u:T)(ts:aw):T:=match u with
 |.lst o _=>.lst o ts
 |.ins o c ns _=>.ins o c ns ts
 |_=>.tup ts
def Plug.step(h:Plug K cn H Z t0 v0 A0 p u v B)(nd:A0.Nodup)(hn:eY p t0=some u)(r:Reps K cn H Z ts vs C)(hC:C.Sublist B)(e:ts[k]?=some u2)
 (hs:∀t',jW t' [k] u=some (aq5 u (ts.set k t')))
 (back:∀H' Z' t' C',(∀a,Z a->Z' a)->(∀b o,H b=some o->((b∈B/\b∉C)\/Z b\/sM o=true)->H' b=some o)->Reps K cn H' Z' (ts.set k t') vs C'->C'.Nodup->(∀x∈C',x∈B->x∈C)->∃B',Rep K cn H' Z' (aq5 u (ts.set k t')) v B'/\B'.Nodup/\∀x∈B',(x∈B/\x∉C)\/x∈C'):
 ∃w D,vs[k]?=some w/\Plug K cn H Z t0 v0 A0 (p++[k]) u2 w D:=by
 refine z43 (Reps.splice ts r e) λw B1 D B2 ew zz rw' put=>?_;subst zz;have ndB:B.Nodup:=nd.sublist h.sub;have ndC:=ndB.sublist hC;have dsub:D.Sublist (B1++D++B2):=(List.sublist_append_right B1 D).trans (V6 _ B2);have hDB:∀x∈D,x∈B:=λx hx=>hC.mem (dsub.mem hx);refine⟨w,D,ew,rw',dsub.trans (hC.trans h.sub),λH' Z' u' D' z kk q ndD hD=>?_⟩;have nd1:=ndC;rw[J0,C9]at nd1;obtain⟨n1,n2,n3⟩:=nd1;rw[C9]at n2;obtain⟨n4,n5,n6⟩:=n2;have inC1:∀x∈B1,x∈B1++D++B2:=λx hx=>C6 _ (C6 _ hx);have inC2:∀x∈B2,x∈B1++D++B2:=λx hx=>B5 _ hx;have o1:∀x∈B1,x∈A0/\x∉D:=λx hx=>⟨h.sub.mem (hC.mem (inC1 x hx)),λhd=>n3 x hx x (C6 _ hd) rfl⟩;have o2:∀x∈B2,x∈A0/\x∉D:=λx hx=>⟨h.sub.mem (hC.mem (inC2 x hx)),λhd=>n6 x hd x hx rfl⟩;have rs:=put H' Z' u' D' z (λb o q c=>kk b o q (by
  rcases c with c|c|c
  . exact .inl (o1 b c)
  . exact .inl (o2 b c)
  . exact .inr c)) q
 have ndN:(B1++D'++B2).Nodup:=by
  rw[J0,C9];refine⟨n1,?_,λx hx y hy e=>?_⟩
  . rw[C9];refine⟨ndD,n5,λx hx y hy e=>?_⟩;subst e;exact(o2 x hy).2 (hD x hx (o2 x hy).1)
  . subst e;rcases A6.mp hy with hy|hy
    . exact(o1 x hx).2 (hD x hy (o1 x hx).1)
    . exact n3 x hx x (B5 _ hy) rfl
 obtain⟨B',rB,ndB',hB'⟩:=back H' Z' u' _ z (λb o q c=>kk b o q (by
  rcases c with⟨c1,c2⟩|c
  . exact .inl ⟨h.sub.mem c1,λhd=>c2 (dsub.mem hd)⟩
  . exact .inr c)) rs ndN (λx hx hb=>by
    rcases A6.mp hx with hx|hx
    . rcases A6.mp hx with hx|hx
      . exact inC1 x hx
      . exact dsub.mem (hD x hx (h.sub.mem hb))
    . exact inC2 x hx)
 obtain⟨t',A',e1,r1,nd',hA'⟩:=h.plug H' Z' _ B' z (λb o q c=>kk b o q (by
  rcases c with⟨c1,c2⟩|c
  . exact .inl ⟨c1,λhd=>c2 (hDB b hd)⟩
  . exact .inr c)) rB ndB' (λx hx ha=>by
    rcases hB' x hx with⟨q,_⟩|q
    . exact q
    . rcases A6.mp q with q|q
      . rcases A6.mp q with q|q
        . exact hC.mem (inC1 x q)
        . exact hDB x (hD x q ha)
      . exact hC.mem (inC2 x q))
 refine⟨t',A',?_,r1,nd',λx hx=>?_⟩
 . rw[wV p t0 u hn (hs u')];exact e1
 . rcases hA' x hx with⟨q1,q2⟩|q
   . exact .inl ⟨q1,λhd=>q2 (hDB x hd)⟩
   . rcases hB' x q with⟨q1,q2⟩|q
     . exact .inl ⟨h.sub.mem q1,λhd=>q2 (dsub.mem hd)⟩
     . rcases A6.mp q with q|q
       . rcases A6.mp q with q|q
         . exact .inl (o1 x q)
         . exact .inr q
       . exact .inl (o2 x q)
def WpP(K:A1)(cn:ac)(E:XK)(As:af)(H:Hp)(Z:av)(A0:ao)(t0:T)(v0:V)(Q:VK):Res (List Nat)->Prop
 |.ok p=>∀u v B H' Z',Mo H Z H' Z'->eY p t0=some u->Plug K cn H' Z' t0 v0 A0 p u v B->Q v H'
 |.ex x=>WpX K cn E As H Z x
 |.no=>False
def RP(Jn:iK)(K:A1)(cn:ac)(E:XK)(j:Nat)(to:TE)(d:bi):Prop:=∀As H Z U O,Frm Jn K cn H Z U O As->∀t0 v0,U[j]?=some (some t0)->O[j]?=some (some v0)->Rep K cn H Z t0 v0 (As.getD j [])->∀Q,WpP K cn E As H Z (As.getD j []) t0 v0 Q (d U)->to O H Q
def cG:Fr->Res (List Nat):=λ_=>.ok []
def et9(j:Nat):RP Jn K cn E j (ad5 j) cG:=λAs H Z U O F t0 v0 e1 e2 r Q w=>⟨v0,e2,w t0 v0 _ H Z F.mo0 rfl (Plug.root r)⟩
noncomputable def ae8:T->Option (List T)
 |.lst o ts=>if o=true then some ts else none
 |.tup ts=>some ts
 |_=>none
def wO(j:Nat)(d:bi)(i:a8):Fr->Res (List Nat):=λU=>(d U).bind λp=>(i U).bind λx=>match U[j]?,x with
 |some (some t0),.int n=>match(eY p t0).bind ae8 with
  |some ts=>match pU ts.length n with
   |some k=>.ok (p++[k])
   |none=>.no
  |none=>.no
 |_,_=>.no
theorem mD{As:af}(h:As.flatten.Nodup)(i:Nat):(As.getD i []).Nodup:=by
 rw[A4];cases q:As[i]? with
 |none=>exact F6
 |some C=>exact List.Nodup.sublist (List.sublist_flatten_of_mem (C4 q)) h
def ca1(h:pU n i=some k):k<n:=(bg2 h).2.1
def ca4(h:pU xs.length i=some k)(e:xs[k]?=some v):atI xs i=some v:=by unfold atI;rw[h];exact e
theorem fv2{j:Nat}{to ti:TE}{d:bi}{i:a8}(hd:RP Jn K cn E j to d)(hi:RB Jn K cn E ti i):RP Jn K cn E j (tOp (rIx K) to ti) (wO j d i):=λAs H Z U O F t0 v0 e1 e2 r Q w=>by
 have nd:=mD F.nd j;unfold wO at w;refine hd As H Z U O F t0 v0 e1 e2 r _ ?_;cases ed:d U with
 |ok p=>
  rw[ed]at w;intro u v B H1 Z1 m1 hn pl;refine hi As H1 Z1 U O (F.mo m1) _ ?_;simp only[Res.bind]at w;cases ei:i U with
  |ok x=>
   rw[ei]at w;intro vi H2 Z2 C p2;simp only[e1]at w;cases x with
   |int n=>
    have qi:=p2.rep;simp only[Rep]at qi;obtain⟨rfl,_⟩:=qi;simp only[hn]at w;have m2:=m1.trans p2.mo;have pl2:=pl.mo p2.same p2.zz;cases u with
    |lst o ts=>
     cases o with
     |false=>simp only[Option.bind,ae8,O7,O2]at w;exact w.elim
     |true=>
      simp only[Option.bind,ae8,L9]at w;cases ek:pU ts.length n with
      |none=>rw[ek]at w;exact w.elim
      |some k=>
       rw[ek]at w;obtain⟨u2,eu⟩:∃u2,ts[k]?=some u2:=⟨ts[k]'(ca1 ek),A2 _⟩;have q:=pl2.rep;simp only[Rep]at q;refine z33 q λa vs B' zz zy ea rs=>?_;clear q;subst zz zy;have ndB:(a::B').Nodup:=nd.sublist pl2.sub;obtain⟨wv,D,ew,pl3⟩:=pl2.step nd hn rs (W5 _ _) eu (λt'=>by simp[jW,eu,aq5]) (λH' Z' t' C' z kk rr ndC hC=>by
        refine⟨a::C',?_,E7.mpr ⟨λha=>(E7.mp ndB).1 (hC a ha A9),ndC⟩,λx hx=>?_⟩
        . simp only[aq5,Rep];exact⟨a,vs,C',rfl,rfl,kk a _ ea (.inl ⟨A9,(E7.mp ndB).1⟩),rr⟩
        . rcases B6.mp hx with rfl|hx
          . exact .inl ⟨A9,(E7.mp ndB).1⟩
          . exact .inr hx)
       refine .inl ⟨a,vs,n,wv,rfl,rfl,SqL.of ea,ca4 (by rw[Reps.length ts rs];exact ek) ew,w u2 wv D H2 Z2 m2 (tX p t0 _ u2 hn (by simp[eY,eu])) pl3⟩
    |tup ts=>
     simp only[Option.bind,ae8]at w;cases ek:pU ts.length n with
     |none=>rw[ek]at w;exact w.elim
     |some k=>rw[ek]at w;obtain⟨u2,eu⟩:∃u2,ts[k]?=some u2:=⟨ts[k]'(ca1 ek),A2 _⟩;have q:=pl2.rep;simp only[Rep]at q;refine z22 q λa vs zz ea rs=>?_;clear q;subst zz;obtain⟨wv,D,ew,pl3⟩:=pl2.step nd hn rs (List.Sublist.refl _) eu (λt'=>by simp[jW,eu,aq5]) (λH' Z' t' C' z kk rr ndC hC=>by refine⟨C',?_,ndC,λx hx=>.inr hx⟩;simp only[aq5,Rep];exact⟨a,vs,rfl,SqT.keep ea (λb o q i=>kk b o q (.inr (.inr i))),rr⟩);refine .inr (.inl ⟨a,vs,n,wv,rfl,rfl,ea,ca4 (by rw[Reps.length ts rs];exact ek) ew,w u2 wv D H2 Z2 m2 (tX p t0 _ u2 hn (by simp[eY,eu])) pl3⟩)
    |_=>simp only[Option.bind,ae8]at w;exact w.elim
   |_=>exact w.elim
  |ex x=>rw[ei]at w;exact WpX.ev w m1.ev
  |no=>rw[ei]at w;exact w
 |_=>rw[ed]at w;exact w
def zP(j:Nat)(p:ax)(us:aw)(U:Fr):bR:=match U[j]? with
 |some (some t0)=>match jW (.lst true us) p t0 with
  |some t'=>.nx (U.set j (some t'))
  |none=>.no
 |_=>.no
def cm1(j:Nat)(p:ax)(u:T)(U:Fr):bR:=match U[j]? with
 |some (some t0)=>match jW u p t0 with
  |some t'=>.nx (U.set j (some t'))
  |none=>.no
 |_=>.no
def bb3{As As1:af}{H H1:Hp}{Z Z1:av}{ρ1:Fr}{O:St}{j:Nat}{t0:T}{v0:V}{p:ax}{u u':T}{v:V}{B:ao}{D:zZ}
 (F1:Frm Jn K cn H1 Z1 ρ1 O As1)(e1:ρ1[j]?=some (some t0))(e2:O[j]?=some (some v0))(pl:Plug K cn H1 Z1 t0 v0 (As1.getD j []) p u v B)
 {a:Addr}{o0 o1:HO}{C0 C:ao}(ev:v=.ref a)(eB:B=a::C0)(ha:H1 a=some o0)(hi:sM o0=false)(hC:a∉C->¬Z1 a->Rep K cn (L2.upd H1 a o1) Z1 u' (.ref a) (a::C))(ndC:C.Nodup)(hCz:∀x∈C,¬Z1 x)(hCa:∀x∈C,x∈As1.flatten->x∈C0)
 (evl:Ev As H Z As1 H1 Z1)(hCn:∀x∈C,x∈As.flatten\/H x=none)(w:Wp Jn K cn E As H Z D (cm1 j p u' ρ1)):D.nx O (L2.upd H1 a o1):=by
 subst ev eB;have nd:=mD F1.nd j;have ndB:(a::C0).Nodup:=nd.sublist pl.sub;have aA:a∈As1.getD j []:=pl.sub.mem A9;have aZ:¬Z1 a:=F1.nz a (bB aA);have aC:a∉C:=λh=>(E7.mp ndB).1 (hCa a h (bB aA));obtain⟨t',A',es,r',ndA,hA⟩:=pl.plug (L2.upd H1 a o1) Z1 u' (a::C) (λ_ h=>h) (λb o q c=>by
  rw[cE]
  . exact q
  . rintro rfl;rcases c with c|c|c
    . exact c.2 A9
    . exact aZ c
    . rw[ha]at q;cases q;rw[hi]at c;cases c) (hC aC aZ) (E7.mpr ⟨aC,ndC⟩) (λx hx hxa=>by
    rcases B6.mp hx with rfl|hx
    . exact A9
    . exact A5 _ (hCa x hx (bB hxa)))
 unfold cm1 at w;rw[e1]at w;simp only[es]at w;have hA':∀x∈A',x∈As1.getD j []\/x∈C:=λx hx=>by
  rcases hA x hx with q|q
  . exact .inl q.1
  . rcases B6.mp q with rfl|q
    . exact .inl aA
    . exact .inr q
 have slots:∀{U:Fr}{O:St}{As:af}{i:Nat},Slots K cn H1 Z1 U O As->As.flatten.Nodup->(∀x∈As.flatten,x=a->x∈As.getD i [])->O[i]?=some (some v0)->Slots K cn (L2.upd H1 a o1) Z1 (U.set i (some t')) O (As.set i A'):=by
  intro U;induction U with
  |nil=>intro O As i h _ _ e;obtain⟨rfl,rfl⟩:=h;simp at e
  |cons o U ih=>
   intro O As i h nd hx e;refine z43 h λw' σ' A As' zz zy h1 h2=>?_;clear h;subst zz zy;rw[B8,C9]at nd;cases i with
   |zero=>
    simp at e;subst e;refine⟨_,σ',A',As',rfl,rfl,⟨v0,rfl,r'⟩,?_⟩;have na:a∉As'.flatten:=λh=>by have:=hx a (by rw[B8,A6];exact .inr h) rfl;exact nd.2.2 a (by simpa using this) a h rfl
    have:∀{U:Fr}{O:St}{As:af},Slots K cn H1 Z1 U O As->a∉As.flatten->Slots K cn (L2.upd H1 a o1) Z1 U O As:=by
     intro U;induction U with
     |nil=>intro O As h _;exact h
     |cons o U ih=>
      intro O As h hn;refine z43 h λw' σ' A As' zz zy h1 h2=>?_;clear h;subst zz zy;rw[B8,A6,not_or]at hn;refine⟨w',σ',A,As',rfl,rfl,?_,ih h2 hn.2⟩;cases o with
      |none=>exact h1
      |some t=>obtain⟨v,e,r⟩:=h1;exact⟨v,e,r.upd ha hi hn.1 aZ⟩
    exact this h2 na
   |succ i=>
    refine⟨w',σ',A,As'.set i A',rfl,rfl,?_,ih h2 nd.2.1 (λx hx' ex=>?_) (by simpa using e)⟩
    . have na:a∉A:=λh=>by
       have:=hx a (by rw[B8,A6];exact .inl h) rfl;have:a∈As'.getD i []:=by simpa using this
       exact nd.2.2 a h a (bB this) rfl
      cases o with
      |none=>exact h1
      |some t=>obtain⟨v,e,r⟩:=h1;exact⟨v,e,r.upd ha hi na aZ⟩
    . have:=hx x (by rw[B8,A6];exact .inr hx') ex;simpa using this
 refine w O (As1.set j A') _ Z1 ⟨slots F1.sl F1.nd (λx _ ex=>by rw[ex];exact aA) e2,pZ ndA F1.nd (λb hb hf=>?_),λb hb z=>?_,λb z=>?_,F1.pn⟩ ?_
 . rcases hA' b hb with q|q
   . exact q
   . exact pl.sub.mem (A5 _ (hCa b q hf))
 . rcases eJ hb with q|q
   . rcases hA' b q with q|q
     . exact F1.nz b (bB q) z
     . exact hCz b q z
   . exact F1.nz b q z
 . by_cases e:b=a
   . rw[e,fR];exact(λz=>nomatch z)
   . rw[cE e];exact F1.zi b z
 . refine⟨λb o q hb=>?_,λb hb=>?_,evl.zz,evl.zn,λb hb=>evl.dom b ?_⟩
   . rw[cE]
     . exact evl.keep b o q hb
     . rintro rfl;rcases evl.own b (bB aA)with z|z
       . exact hb z
       . rw[q]at z;cases z
   . rcases eJ hb with q|q
     . rcases hA' b q with q|q
       . exact evl.own b (bB q)
       . exact hCn b q
     . exact evl.own b q
   . by_cases e:b=a
     . rw[e,fR]at hb;cases hb
     . rw[cE e]at hb;exact hb
def bu8
 (F1:Frm Jn K cn H1 Z1 ρ1 O As1)(e1:ρ1[j]?=some (some t0))(e2:O[j]?=some (some v0))(pl:Plug K cn H1 Z1 t0 v0 (As1.getD j []) p (.lst true us) v B)
 (ev:v=.ref a)(eB:B=a::C0)(ha:H1 a=some (.lst ws))(hC:Reps K cn H1 Z1 us' ws' C)(ndC:C.Nodup)(hCz:∀x∈C,¬Z1 x)(hCa:∀x∈C,x∈As1.flatten->x∈C0)
 (evl:Ev As H Z As1 H1 Z1)(hCn:∀x∈C,x∈As.flatten\/H x=none)(w:Wp Jn K cn E As H Z D (zP j p us' ρ1)):D.nx O (L2.upd H1 a (.lst ws')):=by
 subst ev eB;refine bb3 (E:=E) F1 e1 e2 pl rfl rfl ha rfl (u':=.lst true us') (λaC aZ=>?_) ndC hCz hCa evl hCn w;simp only[Rep];exact⟨a,ws',C,rfl,rfl,fR,Reps.upd hC ha rfl aC aZ⟩
def iX(j:Nat)(mv:ax)(d:bi)(e:a8):Fr->bR:=λU=>match U[j]? with
 |some (some t0)=>match d U with
  |.ok p=>match eY p t0 with
   |some (.lst true us)=>match e U with
    |.ok t=>if us.length<sizeLine then zP j p (us++[t]) (kills mv U)else .no
    |.ex x=>.ex x
    |.no=>.no
   |_=>.no
  |.ex x=>.ex x
  |.no=>.no
 |_=>.no
theorem ah1:∀(mv:ax),mv.contains j=false->∀As:List (List Addr),(gP mv As).getD j []=As.getD j []
 |[],_,_=>rfl
 |i::is,h,As=>by simp only[V2,Bool.or_eq_false_iff,G3]at h;show(gP is (As.set i [])).getD j []=_;rw[ah1 is h.2,A4,G7 (N8 h.1),<-A4]
theorem af4:∀(mv:ax),mv.contains j=false->∀U:Fr,(kills mv U)[j]?=U[j]?
 |[],_,_=>rfl
 |i::is,h,U=>by simp only[V2,Bool.or_eq_false_iff,G3]at h;show(kills is (U.set i none))[j]?=_;rw[af4 is h.2,G7 (N8 h.1)]
theorem eh9{j:Nat}{mv:ax}{to te:TE}{d:bi}{e:a8}(hd:RP Jn K cn E j to d)(he:RE Jn K cn E mv te e)(hj:autoParam (mv.contains j=false) Z8):RS Jn K cn E (bu7 (tBM K "list" bt2 to (nU te xZ))) (iX j mv d e):=λAs H Z U O F D w=>by
 unfold iX at w;cases e1:U[j]? with
 |none=>rw[e1]at w;exact w.elim
 |some o=>
  rw[e1]at w;cases o with
  |none=>exact w.elim
  |some t0=>
   obtain⟨v0,e2,r0⟩:=F.sl.get e1;refine hd As H Z U O F t0 v0 e1 e2 r0 _ ?_;simp only at w;cases ed:d U with
   |ok p=>
    rw[ed]at w;intro u v B H1 Z1 m1 hn pl;simp only[hn]at w;split at w
    . next us hq=>
      cases hq;have q:=pl.rep;simp only[Rep]at q;refine z33 q λa ws C0 zz zy ea rs=>?_;clear q;subst zz zy;refine⟨.inl ⟨rfl,ws,SqL.of ea⟩,he As H1 Z1 U O (F.mo m1) _ ?_⟩;cases ee:e U with
      |ok t=>
       rw[ee]at w;intro y H2 Z2 C p2;simp only at w;split at w
       . next hlen=>
         have pl2:=pl.mo p2.same p2.zz;have ea2:=p2.same _ _ ea;have rs2:=rs.same p2.same p2.zz;refine⟨a,ws,y,rfl,rfl,ea2,by rw[Reps.length us rs];exact hlen,?_⟩;have m2:=m1.trans p2.mo;have F2:=(F.mo m2).kills mv;have gD:(gP mv As).getD j []=As.getD j []:=ah1 mv hj As;have pl3:Plug K cn H2 Z2 t0 v0 ((gP mv As).getD j []) p (.lst true us) (.ref a) (a::C0):=by rw[gD];exact pl2
         have ndB:(a::C0).Nodup:=(mD F.nd j).sublist pl.sub;have c0A:∀x∈C0,x∈As.getD j []:=λx hx=>pl.sub.mem (A5 _ hx);have cOut:∀x∈C,x∉(gP mv As).flatten:=λx hx hA=>by
          rcases p2.bn x hx with z|⟨i,hi,z⟩
          . obtain⟨o,ho,_⟩:=(F.mo m1).sl.dom x (gA hA);rw[ho]at z;cases z
          . exact wI F.nd hi z hA
         have c0In:∀x∈C0,x∈(gP mv As).flatten:=λx hx=>bB (i:=j) (by rw[gD];exact c0A x hx);refine bu8 (As:=As) (H:=H) (Z:=Z) (E:=E) F2 (by rw[af4 mv hj];exact e1) e2 pl3 rfl rfl ea2 (us':=us++[t]) (ws':=ws++[y]) (C:=C0++C) (Reps.append us rs2 (Reps.one p2.rep)) ?_ ?_ ?_ ?_ ?_ w
         . rw[C9];exact⟨(E7.mp ndB).2,p2.nd,λx hx y hy e=>by subst e;exact cOut x hy (c0In x hx)⟩
         . intro x hx;rcases A6.mp hx with hx|hx
           . exact F2.nz x (c0In x hx)
           . exact p2.bz x hx
         . intro x hx hA;rcases A6.mp hx with hx|hx
           . exact hx
           . exact D8 hA (cOut x hx)
         . exact⟨λb o q _=>m2.same b o q,λb hb=>.inl (gA hb),m2.zz,λb h=>(m2.zn b h).imp_right .inr,λb h=>m2.same.free h⟩
         . intro x hx;rcases A6.mp hx with hx|hx
           . exact .inl (bB (c0A x hx))
           . rcases p2.bn x hx with z|⟨i,hi,z⟩
             . exact .inr (m1.same.free z)
             . exact .inl (bB z)
       . exact w.elim
      |ex x=>rw[ee]at w;exact WpX.ev w m1.ev
      |no=>rw[ee]at w;exact w
    . exact w.elim
   |_=>rw[ed]at w;exact w
def tU(j:Nat)(mv:ax)(e:a8)(d:bi)(i:a8):Fr->bR:=λU=>match e U with
 |.ok t=>match(kills mv U)[j]? with
  |some (some t0)=>match d (kills mv U)with
   |.ok p=>match eY p t0 with
    |some (.lst true us)=>match i (kills mv U)with
     |.ok (.int n)=>match pU us.length n with
      |some k=>zP j p (us.set k t) (kills mv U)
      |none=>.no
     |.ok _=>.no
     |.ex x=>.ex x
     |.no=>.no
    |_=>.no
   |.ex x=>.ex x
   |.no=>.no
  |_=>.no
 |.ex x=>.ex x
 |.no=>.no
theorem Reps.put(rt:Rep K cn H Z t y C):∀(us:aw){ws:a9}{A:ao}{k:Nat},Reps K cn H Z us ws A->k<us.length->∃B1 Bo B2,A=B1++Bo++B2/\Reps K cn H Z (us.set k t) (ws.set k y) (B1++C++B2)
 |[],_,_,_,_,e=>by simp at e
 |u::us,ws,A,0,r,e=>by simp only[Reps]at r;refine z43 r λv r' P Q' zz zy h1 h2=>?_;clear r;subst zz zy;refine⟨[],P,Q',Y1,?_⟩;simp only[List.set_cons_zero,Reps];exact⟨y,r',C,Q',rfl,Y1,rt,h2⟩
 |u::us,ws,A,k+1,r,e=>by simp only[Reps]at r;refine z43 r λv r' P Q' zz zy h1 h2=>?_;clear r;subst zz zy;obtain⟨X1,X2,X3,rfl,hr⟩:=Reps.put rt us (k:=k) h2 (by simpa using e);refine⟨P++X1,X2,X3,Y1,?_⟩;simp only[List.set_cons_succ,Reps];exact⟨v,r'.set k y,P,X1++C++X3,rfl,Y1,h1,hr⟩
theorem en5{j:Nat}{mv:ax}{te to ti:TE}{e:a8}{d:bi}{i:a8}(he:RE Jn K cn E mv te e)(hd:RP Jn K cn E j to d)(hi:RB Jn K cn E ti i):RS Jn K cn E (ba2 te (ed9 to ti dq8)) (tU j mv e d i):=λAs H Z U O F D w=>by
 unfold tU at w;refine he As H Z U O F _ ?_;cases ee:e U with
 |ok t=>
  rw[ee]at w;intro y H1 Z1 C p1;simp only at w;have F1:=(F.mo p1.mo).kills mv;cases e1:(kills mv U)[j]? with
  |none=>rw[e1]at w;exact w.elim
  |some o=>
   rw[e1]at w;cases o with
   |none=>exact w.elim
   |some t0=>
    obtain⟨v0,e2,r0⟩:=F1.sl.get e1;simp only at w;have ev1:Ev As H Z (gP mv As) H1 Z1:=⟨λb o q _=>p1.same b o q,λb hb=>.inl (gA hb),p1.zz,λb h=>(p1.zn b h).imp_right .inr,λb h=>p1.same.free h⟩;refine hd (gP mv As) H1 Z1 (kills mv U) O F1 t0 v0 e1 e2 r0 _ ?_;cases ed:d (kills mv U)with
    |ok p=>
     rw[ed]at w;intro u v B H2 Z2 m2 hn pl;simp only[hn]at w;split at w
     . next us hq=>
       cases hq;refine hi (gP mv As) H2 Z2 (kills mv U) O (F1.mo m2) _ ?_;cases ei:i (kills mv U)with
       |ok x=>
        rw[ei]at w;intro vi H3 Z3 Bi p3;cases x with
        |int n=>
         simp only at w;have qi:=p3.rep;simp only[Rep]at qi;obtain⟨rfl,_⟩:=qi;cases ek:pU us.length n with
         |none=>rw[ek]at w;exact w.elim
         |some k=>
          rw[ek]at w;have m3:=m2.trans p3.mo;have pl3:=pl.mo p3.same p3.zz;have q:=pl3.rep;simp only[Rep]at q;refine z33 q λa ws C0 zz zy ea rs=>?_;clear q;subst zz zy;have rt:Rep K cn H3 Z3 t y C:=p1.rep.same m3.same m3.zz;have F3:=F1.mo m3;have lw:=Reps.length us rs;refine z31 (Reps.put rt us rs (ca1 ek)) λB1 Bo B2 zz rs'=>?_;subst zz;refine⟨a,ws,n,k,rfl,rfl,ea,by rw[lw];exact ek,?_⟩;have ndB:(a::(B1++Bo++B2)).Nodup:=(mD F1.nd j).sublist pl.sub;have cA:∀x∈B1++Bo++B2,x∈(gP mv As).getD j []:=λx hx=>pl.sub.mem (A5 _ hx);have i1:∀x∈B1,x∈B1++Bo++B2:=λx hx=>C6 _ (C6 _ hx);have i2:∀x∈B2,x∈B1++Bo++B2:=λx hx=>B5 _ hx;have cOut:=p1.out F;have nd1:=(E7.mp ndB).2;rw[J0,C9]at nd1;obtain⟨n1,n2,n3⟩:=nd1;rw[C9]at n2;refine bu8 (As:=As) (H:=H) (Z:=Z) (E:=E) F3 e1 e2 pl3 rfl rfl ea (us':=us.set k t) (ws':=ws.set k y) (C:=B1++C++B2) rs' ?_ ?_ ?_ (ev1.trans m3.ev) ?_ w
          . rw[J0,C9];refine⟨n1,?_,λx hx z hz e=>?_⟩
            . rw[C9];exact⟨p1.nd,n2.2.1,λx hx z hz e=>by subst e;exact cOut x hx (bB (cA x (i2 x hz)))⟩
            . subst e;rcases A6.mp hz with hz|hz
              . exact cOut x hz (bB (cA x (i1 x hx)))
              . exact n3 x hx x (B5 _ hz) rfl
          . intro x hx;rcases A6.mp hx with hx|hx
            . rcases A6.mp hx with hx|hx
              . exact F3.nz x (bB (cA x (i1 x hx)))
              . intro z;rcases m3.zn x z with z|z
                . exact p1.bz x hx z
                . obtain⟨o,ho,_⟩:=p1.rep.dom t x hx;rw[ho]at z;cases z
            . exact F3.nz x (bB (cA x (i2 x hx)))
          . intro x hx hA;rcases A6.mp hx with hx|hx
            . rcases A6.mp hx with hx|hx
              . exact i1 x hx
              . exact D8 hA (cOut x hx)
            . exact i2 x hx
          . intro x hx;rcases A6.mp hx with hx|hx
            . rcases A6.mp hx with hx|hx
              . exact .inl (gA (bB (cA x (i1 x hx))))
              . exact p1.inA x hx
            . exact .inl (gA (bB (cA x (i2 x hx))))
        |_=>exact w.elim
       |ex x=>rw[ei]at w;exact WpX.ev w (ev1.trans m2.ev)
       |no=>rw[ei]at w;exact w
     . exact w.elim
    |ex x=>rw[ed]at w;exact WpX.ev w ev1
    |no=>rw[ed]at w;exact w
 |_=>rw[ee]at w;exact w
noncomputable def bP:bR->Res T
 |.nx _=>.ok .non
 |.rt t=>.ok t
 |.ex x=>.ex x
 |_=>.no
noncomputable def bZ(n:Nat)(ts:aw):Fr:=ts.map some++List.replicate (n-ts.length) none
theorem ai5:∀(m:Nat),Slots K cn H Z (List.replicate m none) (List.replicate m none) (List.replicate m [])
 |0=>⟨rfl,rfl⟩
 |m+1=>⟨none,List.replicate m none,[],List.replicate m [],rfl,rfl,rfl,ai5 m⟩
theorem ah4:∀(ts:aw){vs:a9},Reps K cn H Z ts vs []->Slots K cn H Z (ts.map some++List.replicate m none) (vs.map some++List.replicate m none) (List.replicate (ts.length+m) [])
 |[],vs,h=>by simp only[Reps]at h;obtain⟨rfl,_⟩:=h;simpa using ai5 m
 |t::ts,vs,h=>by
  simp only[Reps]at h;refine z43 h λv r B C zz e h1 h2=>?_;clear h;subst zz;have eb:B=[]/\C=[]:=by simpa using e.symm
  obtain⟨rfl,rfl⟩:=eb;have:=ah4 (m:=m) ts h2;refine⟨some v,_,[],List.replicate (ts.length+m) [],rfl,?_,⟨v,rfl,h1⟩,this⟩;rw[E1,show ts.length+1+m=(ts.length+m)+1 by omega];rfl
theorem mT:∀m:Nat,(List.replicate m ([]:List Addr)).flatten=[]
 |0=>rfl
 |m+1=>by rw[G8,B8,mT m];rfl
theorem cg0{CX:xQ}{Y:Value->G0->List Env->B0->Hp->XK->Cx}{P:E2}{w:World}{mg:aa}{base:Heap}{qual:Str}{st:Stmt}{f:Addr}{fd:FuncData}{N ps:am}{k:Nat}{d:Fr->bR}(ok:∀sp:Sp,(∀vs H Q E,sp vs H Q E->vs.length=ps.length)->(∀(cdv:Value)(A:G0)(outer:bg)(s:B0)(H:Hp)(vs:a9)(Q:VK)(E:XK),Room k (A.deeper (envOfC qual (aL st) s.heap.objs.size f cdv))->sp vs H Q E->
 ∃t,PSs (Y cdv A outer s H E) (cP st) t/\t {nx:=λ_ H'=>Q .non H',rt:=Q} (start N vs) H)->FnOk P w K mg base CX (k+1) f fd ps sp)
 (hbody:∀(cdv:Value)(A:G0)(outer:bg)(s:B0)(H:Hp)(E:XK),Room k (A.deeper (envOfC qual (aL st) s.heap.objs.size f cdv))->
  ∃t,PSs (Y cdv A outer s H E) (cP st) t/\RS [] K cn E t d){n:Nat}{G:bc}(hn:ps.length=n)(hG:∀ts,G ts=bP (d (bZ N.length ts))):FnOk P w K mg base CX (k+1) f fd ps (bK K cn n G):=by
 have eG:G=λts=>bP (d (bZ N.length ts)):=funext hG;subst hn eG;refine ok _ (λvs H Q E h=>h.1) λcdv A outer s H vs Q E hr h=>?_;obtain⟨hl,ts,Z,zi,r,w⟩:=h;obtain⟨t,hp,ht⟩:=hbody cdv A outer s H E hr;refine⟨t,hp,?_⟩;have lt:=Reps.length ts r;have sl:Slots K cn H Z (bZ N.length ts) (L2.start N vs) (List.replicate (ts.length+(N.length-ts.length)) []):=by unfold bZ L2.start;rw[lt];exact ah4 ts r
 have F0:Frm [] K cn H Z (bZ N.length ts) (L2.start N vs) (List.replicate (ts.length+(N.length-ts.length)) []):=⟨sl,by rw[mT];exact F6,by rw[mT];exact dN,zi,dN⟩;refine ht _ H Z _ _ F0 _ ?_;have bn:∀{B:ao}{H':Hp}{Z':av},Ev (List.replicate (ts.length+(N.length-ts.length)) []) H Z [B] H' Z'->∀b∈B,H b=none:=λ{B H' Z'} e b hb=>by
  rcases e.own b (by simpa using hb)with q|q
  . rw[mT]at q;cases q
  . exact q
 have sm:∀{As':af}{H':Hp}{Z':av},Ev (List.replicate (ts.length+(N.length-ts.length)) []) H Z As' H' Z'->Same H H'/\∀a,Z' a->Z a\/H a=none:=λ{As' H' Z'} e=>⟨λb o q=>e.keep b o q (by rw[mT];exact(λz=>nomatch z)),λa z=>by
  rcases e.zn a z with q|q|q
  . exact .inl q
  . rw[mT]at q;cases q
  . exact .inr q⟩
 cases ed:d (bZ N.length ts)with
 |nx U=>simp only[ed,bP]at w;intro σ' As' H' Z' F' ev;exact w .non H' Z' [] ⟨(sm ev).1,ev.zz,(sm ev).2,F'.zi,by simp[Rep],F6,dN,dN⟩
 |rt t=>simp only[ed,bP]at w;intro v H' Z' B p;exact w v H' Z' B ⟨(sm p.ev).1,p.ev.zz,(sm p.ev).2,p.zi,p.rep,p.nd,p.bz,λb hb=>.inl (bn p.ev b hb)⟩
 |ex x=>simp only[ed,bP]at w;exact WpX.ev w ⟨λ_ _ q _=>q,λa ha=>(by rw[mT]at ha;exact nomatch ha),λ_ h=>h,λ_ h=>.inl h,λ_ h=>h⟩
 |_=>simp only[ed,bP]at w;exact w.elim
def bt1{P:E2}{w:World}{mg:aa}{base:Heap}{x qual:Str}{st:Stmt}{f:Addr}{fd:FuncData}{N ps:am}{k:Nat}{d:Fr->bR}(F:Fun K x qual st f fd)(S:aV N ps (aL st))
 (hbody:∀(cdv:Value)(A:G0)(outer:bg)(s:B0)(H:Hp)(E:XK),Room k (A.deeper (envOfC qual (aL st) s.heap.objs.size f cdv))->
  ∃t,PSs (kQ kS P w K mg base N qual (aL st) f cdv A outer s H E).nox (cP st) t/\RS [] K cn E t d){n:Nat}{G:bc}(hn:ps.length=n)(hG:∀ts,G ts=bP (d (bZ N.length ts))):FnOk P w K mg base kS (k+1) f fd ps (bK K cn n G):=cg0 (λsp len hb=>F.ok S len hb) hbody hn hG
def dt5{P:E2}{w:World}{mg:aa}{base:Heap}{x qual:Str}{st:Stmt}{f:Addr}{fd:FuncData}{N ps:am}{k:Nat}{d:Fr->bR}(F:Fun K x qual st f fd)(S:aV N ps (aL st))
 (hbody:∀(cdv:Value)(A:G0)(outer:bg)(s:B0)(H:Hp)(E:XK),Room k (A.deeper (envOfC qual (aL st) s.heap.objs.size f cdv))->
  ∃t,PSs (kQ (CX1 P w) P w K mg base N qual (aL st) f cdv A outer s H E) (cP st) t/\RS [] K cn E t d){n:Nat}{G:bc}(hn:ps.length=n)(hG:∀ts,G ts=bP (d (bZ N.length ts))):FnOk P w K mg base (CX1 P w) (k+1) f fd ps (bK K cn n G):=cg0 (λsp len hb=>F.okX S len hb) hbody hn hG
def bJ{P:E2}{w:World}{mg:aa}{base:Heap}{x:Str}{st:Stmt}{N ps:am}{k:Nat}{d:Fr->bR}(F:dR K mg x st)(S:aV N ps (aL st))
 (hb:∀(kV doc pm:Value)(an:bb)(cdv ct:Value)(us:aq),us.length=ps.length->bindArgs (PySem.W.fnOf x x (jB st) (cP st) (aL st) .none kV doc pm an cdv ct) ⟨us,[]⟩=pure (ps.zip us))
 (hbody:∀(f:Addr)(cdv:Value)(A:G0)(outer:bg)(s:B0)(H:Hp)(E:XK),Room k (A.deeper (envOfC x (aL st) s.heap.objs.size f cdv))->
  ∃t,PSs (kQ kS P w K mg base N x (aL st) f cdv A outer s H E).nox (cP st) t/\RS [] K cn E t d){n:Nat}{G:bc}(hn:ps.length=n)(hG:∀ts,G ts=bP (d (bZ N.length ts))):dY P w K mg base (k+1) x ps (bK K cn n G):=by
 refine z21 F.ex λf fd F hm=>?_;exact⟨f,fd,bt1 F S (λcdv A outer s H E hr=>hbody f cdv A outer s H E hr) hn hG,hm,F.kp,F.binds hb⟩
def law_fn(F:FnOk P w K mg base kS k f fd [p] (bK K cn 1 G))
 (h:∀ns:List Int,ns.length<=63->(∀n∈ns,Builtin.Int.intBits n<=1048576)->G [.lst false (ns.map .int)]=.ok (.bl true)):FnOk P w K mg base kS k f fd [p] (bw7 K):=by
 refine F.imp λvs H Q E q=>?_;refine z24 q λa ns zz hs h63 hbits hq=>?_;clear q;subst zz;have rints:∀(Z:av)(ns:ah),Reps K cn H Z (ns.map T.int) (ns.map V.int) []:=by
  intro Z ns;induction ns with
  |nil=>simp[Reps]
  |cons n ns ih=>simp only[B9,Reps];exact⟨.int n,ns.map V.int,[],[],rfl,rfl,by simp[Rep],ih⟩
 refine⟨rfl,[.lst false (ns.map .int)],λb=>b=a/\H b≠none,λb z=>z.2,Reps.one ?_,?_⟩
 . simp only[Rep];refine⟨a,ns.map V.int,rfl,trivial,?_,rints _ ns⟩;rcases hs with(hs|⟨o,hs⟩)|hs
   . exact .inl ⟨hs,rfl,by rw[hs];exact(λz=>nomatch z)⟩
   . exact .inr (.inl ⟨o,hs⟩)
   . exact .inr (.inr hs)
 . rw[h ns h63 hbits];intro v H' Z' B p;have q:=p.rep;simp only[Rep]at q;rw[q.1];exact hq H'
end
end TL
namespace L2
def EqD(K:A1)(H:Hp):Nat->V->V->Bool->Prop
 |0,x,y,b=>tR x=true/\tR y=true/\b=eqV x y
 |n+1,x,y,b=>(tR x=true/\tR y=true/\b=eqV x y)\/
  (∃p q xs ys,x=.ref p/\y=.ref q/\SqL K H p xs/\SqL K H q ys/\((xs.length≠ys.length/\b=false)\/
   (xs.length=ys.length/\∃es:List Bool,es.length=xs.length/\(∀(j:Nat) x y e,xs[j]?=some x->ys[j]?=some y->es[j]?=some e->EqD K H n x y e)/\b=es.all id)))\/
  (∃p q xs ys,x=.ref p/\y=.ref q/\SqT K H p xs/\SqT K H q ys/\∃es:List Bool,es.length=min xs.length ys.length/\
   (∀(j:Nat) x y e,xs[j]?=some x->ys[j]?=some y->es[j]?=some e->EqD K H n x y e)/\b=(es.all id&&xs.length==ys.length))
theorem bq8:∀{x:V},tR x=true->eqV x x=true
 |.non,_=>rfl
 |.bl b,_=>by simp[eqV]
 |.int i,_=>by simp[eqV]
 |.str s,_=>by simp[eqV]
theorem uT(es:br):((List.range es.length).all λj=>es.getD j true)=es.all id:=by
 induction es with
 |nil=>rfl
 |cons b es ih=>show(List.range (es.length+1)).all _=_;rw[W6,W0,List.all_map];show(b&&_)=(b&&es.all id);rw[<-ih];rfl
section
variable{X:Cx}{ζ:ad}{O:St}{H:Hp}{s:B0}
theorem EqD.self(I:Inv X ζ O H s):∀(n:Nat)(x:V)(b:Bool),EqD X.K H n x x b->b=true
 |0,x,b,h=>by obtain⟨h1,_,rfl⟩:=h;exact bq8 h1
 |n+1,x,b,h=>by
  rcases h with⟨h1,_,rfl⟩|⟨p,q,xs,ys,e1,e2,s1,s2,h⟩|⟨p,q,xs,ys,e1,e2,s1,s2,es,hl,he,rfl⟩
  . exact bq8 h1
  . rw[e1]at e2;cases e2;have:=I.list_inj s1 s2;subst this;rcases h with⟨h,_⟩|⟨_,es,hl,he,rfl⟩
    . exact D8 rfl h
    . rw[J6];intro e hm;obtain⟨j,hj,rfl⟩:=Q6 hm;exact EqD.self I n xs[j] es[j] (he j xs[j] xs[j] es[j] (A2 X8) (A2 X8) (A2 hj))
  . rw[e1]at e2;cases e2;have:=I.tuple_inj s1 s2;subst this;rw[M4,Bool.and_true,J6];intro e hm;obtain⟨j,hj,rfl⟩:=Q6 hm;have hx:j<xs.length:=X8
    exact EqD.self I n xs[j] es[j] (he j xs[j] xs[j] es[j] (A2 hx) (A2 hx) (A2 hj))
def iJ(r:Vals xs us)(h:j<us.length):∃x,xs[j]?=some x/\RelV x us[j]:=by have l:=r.length;have e1:xs[j]?=some xs[j]:=A2 X8;obtain⟨u,hu,ru⟩:=r.get e1;rw[A2 h]at hu;exact⟨xs[j],e1,by rw[E9 hu];exact ru⟩
theorem oF(I:Inv X ζ O H s):∀(n:Nat){A:G0}{x y:V}{u v:Value}{b:Bool},A.units+n<cLine->RelV x u->RelV y v->EqD X.K H n x y b->SeqAt.EqAt A s u v b
 |0,A,x,y,u,v,b,hu,rx,ry,h=>by obtain⟨h1,h2,rfl⟩:=h;exact db0 rx ry h1 h2
 |n+1,A,x,y,u,v,b,hu,rx,ry,h=>by
  have h0:=h;rcases h with⟨h1,h2,rfl⟩|⟨p,q,xs,ys,rfl,rfl,s1,s2,h⟩|⟨p,q,xs,ys,rfl,rfl,s1,s2,es,hl,he,rfl⟩
  . exact db0 rx ry h1 h2
  . cases rx;cases ry;by_cases hpq:p=q
    . subst hpq;rw[EqD.self I (n+1) _ b h0];exact SeqAt.EqAt.same _
    . refine z12 (I.list s1) λits r1 p1 _=>?_;refine z12 (I.list s2) λjts r2 p2 _=>?_;have l1:=r1.length;have l2:=r2.length;refine SeqAt.EqAt.of_refs hpq ?_;rcases h with⟨hne,rfl⟩|⟨heq,es,hl,he,rfl⟩
      . exact SeqAt.RcAt.lists_lengths p1.isList p2.isList (by simp only[A8,bne_iff_ne,ne_eq];omega) X8
      . have:=SeqAt.RcAt.lists (A:=A) (s:=s) (e:=λj=>es.getD j true) p1.isList p2.isList (by simp only[A8];omega) X8 (λj h1 h2=>by
         simp only[A8]at h1 h2;simp only[List.getElem_toArray];obtain⟨x,ex,rx⟩:=iJ r1 h1;obtain⟨y,ey,ry⟩:=iJ r2 h2;have hj:j<es.length:=X8
         have eg:es.getD j true=es[j]:=by rw[A4,A2 hj];rfl
         rw[eg];exact oF I n (by show A.units+1+n<cLine;omega) rx ry (he j x y es[j] ex ey (A2 hj)))
        rw[A8,show its.length=es.length by omega,uT]at this;exact this
  . cases rx;cases ry;by_cases hpq:p=q
    . subst hpq;rw[EqD.self I (n+1) _ _ h0];exact SeqAt.EqAt.same _
    . refine z12 (I.tuple s1) λits r1 p1 _=>?_;refine z12 (I.tuple s2) λjts r2 p2 _=>?_;have l1:=r1.length;have l2:=r2.length;refine SeqAt.EqAt.of_refs hpq ?_;have:=SeqAt.RcAt.tuples (A:=A) (s:=s) (e:=λj=>es.getD j true) (show s.heap.IsTuple p its.toArray from p1) (show s.heap.IsTuple q jts.toArray from p2) X8 (λj h1 h2=>by
       simp only[A8]at h1 h2;simp only[List.getElem_toArray];obtain⟨x,ex,rx⟩:=iJ r1 h1;obtain⟨y,ey,ry⟩:=iJ r2 h2;have hj:j<es.length:=X8
       have eg:es.getD j true=es[j]:=by rw[A4,A2 hj];rfl
       rw[eg];exact oF I n (by show A.units+1+n<cLine;omega) rx ry (he j x y es[j] ex ey (A2 hj)))
      simp only[A8]at this;rw[show min its.length jts.length=es.length by omega,uT,<-l1,<-l2]at this;exact this
def cq6(K:A1)(n:Nat):R2:=λx y H Q=>rEq x y H Q\/(∃p q b,x=.ref p/\y=.ref q/\EqD K H n x y b/\Q (.bl b) H)
def ef8(hu:X.A.units+n<cLine):OpR X (compareOp .Eq) (cq6 X.K n):=by
 intro ζ s O H x y v u Q I rx ry h;rcases h with h|⟨p,q,b,rfl,rfl,h,hq⟩
 . exact ft1 s O H x y v u Q I rx ry h
 . cases rx;cases ry;have bP:EP X ζ O Q (.bool b) s:=⟨.bl b,H,I,rfl,hq⟩;cases n with
   |zero=>exact D8 h.1 (λz=>by cases z)
   |succ n=>
    rcases h with⟨h1,_,_⟩|⟨p,q,xs,ys,e1,e2,s1,s2,h⟩|⟨p,q,xs,ys,e1,e2,s1,s2,es,hl,he,rfl⟩
    . exact D8 h1 (λz=>by cases z)
    . cases e1;cases e2;refine z12 (I.list s1) λits r1 p1 _=>?_;refine z12 (I.list s2) λjts r2 p2 _=>?_;have l1:=r1.length;have l2:=r2.length;rcases h with⟨hne,rfl⟩|⟨heq,es,hl,he,rfl⟩
      . exact SeqAt.eq_list_lengthsAt p1.isList p2.isList (by simp only[A8,bne_iff_ne,ne_eq];omega) X8 bP
      . refine SeqAt.eq_listAt (e:=λj=>es.getD j true) p1.isList p2.isList (by simp only[A8];omega) X8 (λj h1 h2=>?_) ?_
        . simp only[A8]at h1 h2;simp only[List.getElem_toArray];obtain⟨x,ex,rx⟩:=iJ r1 h1;obtain⟨y,ey,ry⟩:=iJ r2 h2;have hj:j<es.length:=X8
          have eg:es.getD j true=es[j]:=by rw[A4,A2 hj];rfl
          rw[eg];exact oF I n (by show X.A.units+1+n<cLine;omega) rx ry (he j x y es[j] ex ey (A2 hj))
        . rw[A8,show its.length=es.length by omega,uT];exact bP
    . cases e1;cases e2;refine z12 (I.tuple s1) λits r1 p1 _=>?_;refine z12 (I.tuple s2) λjts r2 p2 _=>?_;have l1:=r1.length;have l2:=r2.length;refine SeqAt.eq_tupleAt (e:=λj=>es.getD j true) (show s.heap.IsTuple p its.toArray from p1) (show s.heap.IsTuple q jts.toArray from p2) X8 (λj h1 h2=>?_) ?_
      . simp only[A8]at h1 h2;simp only[List.getElem_toArray];obtain⟨x,ex,rx⟩:=iJ r1 h1;obtain⟨y,ey,ry⟩:=iJ r2 h2;have hj:j<es.length:=X8
        have eg:es.getD j true=es[j]:=by rw[A4,A2 hj];rfl
        rw[eg];exact oF I n (by show X.A.units+1+n<cLine;omega) rx ry (he j x y es[j] ex ey (A2 hj))
      . simp only[A8];rw[show min its.length jts.length=es.length by omega,uT,<-l1,<-l2];exact bP
def cr0(K:A1)(n:Nat)(neg:Bool):R2:=λx y H Q=>(∃p ys,y=.ref p/\(SqL K H p ys\/SqT K H p ys)/\∃es:List Bool,es.length=ys.length/\(∀(j:Nat) y e,ys[j]?=some y->es[j]?=some e->EqD K H n y x e)/\Q (.bl (if neg then !es.any id else es.any id)) H)\/
 (∃i j,x=.str i/\y=.str j/\Q (.bl (if neg then !(!(Builtin.Str.occurrences j i 0 j.length 1).isEmpty)else(!(Builtin.Str.occurrences j i 0 j.length 1).isEmpty))) H)
theorem EqD.det(I:Inv X ζ O H s):∀(n:Nat)(x y:V)(b c:Bool),EqD X.K H n x y b->EqD X.K H n x y c->b=c:=by
 intro n;induction n with
 |zero=>intro x y b c h1 h2;rw[h1.2.2,h2.2.2]
 |succ n ih=>
  intro x y b c h1 h2;have flat_ref:∀{p:Addr},tR (.ref p)=true->False:=λh=>by cases h
  rcases h1 with⟨a1,a2,rfl⟩|⟨p,q,xs,ys,rfl,rfl,s1,s2,h1⟩|⟨p,q,xs,ys,rfl,rfl,s1,s2,es,hl,he,rfl⟩
  . rcases h2 with⟨b1,b2,rfl⟩|⟨p,q,xs,ys,rfl,rfl,_⟩|⟨p,q,xs,ys,rfl,rfl,_⟩
    . rfl
    . exact(flat_ref a1).elim
    . exact(flat_ref a1).elim
  . rcases h2 with⟨b1,b2,rfl⟩|⟨p',q',xs',ys',e1,e2,t1,t2,h2⟩|⟨p',q',xs',ys',e1,e2,t1,t2,_⟩
    . exact(flat_ref b1).elim
    . cases e1;cases e2;have z1:=I.list_inj s1 t1;have z2:=I.list_inj s2 t2;subst z1 z2;rcases h1 with⟨n1,rfl⟩|⟨n1,es,hl,he,rfl⟩
      . rcases h2 with⟨n2,rfl⟩|⟨n2,_⟩
        . rfl
        . exact D8 n2 n1
      . rcases h2 with⟨n2,rfl⟩|⟨n2,es',hl',he',rfl⟩
        . exact D8 n1 n2
        . have:es=es':=by apply List.ext_getElem X8;intro j h1 h2;exact ih xs[j] ys[j] es[j] es'[j] (he j _ _ _ (A2 X8) (A2 X8) (A2 h1)) (he' j _ _ _ (A2 X8) (A2 X8) (A2 h2))
          rw[this]
    . cases e1;obtain⟨_,_,⟨o,n',eo,c1,_⟩,_⟩:=I.list s1;obtain⟨_,_,⟨o',eo',c2,_⟩,_⟩:=I.tuple t1;rw[eo]at eo';cases eo';rw[c1]at c2;exact D8 c2 Y2
  . rcases h2 with⟨b1,b2,rfl⟩|⟨p',q',xs',ys',e1,e2,t1,t2,h2⟩|⟨p',q',xs',ys',e1,e2,t1,t2,es',hl',he',rfl⟩
    . exact(flat_ref b1).elim
    . cases e1;obtain⟨_,_,⟨o,n',eo,c1,_⟩,_⟩:=I.list t1;obtain⟨_,_,⟨o',eo',c2,_⟩,_⟩:=I.tuple s1;rw[eo]at eo';cases eo';rw[c1]at c2;exact D8 c2 Y2
    . cases e1;cases e2;have z1:=I.tuple_inj s1 t1;have z2:=I.tuple_inj s2 t2;subst z1 z2;have:es=es':=by
       apply List.ext_getElem X8;intro j h1 h2;have hx:j<xs.length:=X8
       have hy:j<ys.length:=X8
       exact ih xs[j] ys[j] es[j] es'[j] (he j _ _ _ (A2 hx) (A2 hy) (A2 h1)) (he' j _ _ _ (A2 hx) (A2 hy) (A2 h2))
      rw[this]
def an9(I:Inv X ζ O H s){n:Nat}{x:V}{ys:a9}{us:aq}{es:br}(r:Vals ys us)(hl:es.length=ys.length)(he:∀(j:Nat) y e,ys[j]?=some y->es[j]?=some e->EqD X.K H n y x e):
 ∃e:Value->Bool,(∀u∈us,∃y,RelV y u/\EqD X.K H n y x (e u))/\us.any e=es.any id:=by
 refine⟨λu=>@decide (∃y,RelV y u/\EqD X.K H n y x true) (Classical.propDecidable _),?_,?_⟩
 . intro u hu;obtain⟨j,hj,rfl⟩:=Q6 hu;obtain⟨y,ey,ry⟩:=iJ r hj;have lj:j<es.length:=by rw[hl,r.length];exact hj
   have q:=he j y es[j] ey (A2 lj);refine⟨y,ry,?_⟩;by_cases c:∃y,RelV y us[j]/\EqD X.K H n y x true
   . obtain⟨y',ry',q'⟩:=c;have:=ry.inj ry';subst this;simp only[show(∃y,RelV y us[j]/\EqD X.K H n y x true) from⟨y,ry,q'⟩,decide_true];exact q'
   . simp only[c,decide_false];cases eb:es[j]with
     |false=>rw[eb]at q;exact q
     |true=>rw[eb]at q;exact D8 ⟨y,ry,q⟩ c
 . rw[N6,O5,O5];constructor
   . rintro⟨u,hu,c⟩;obtain⟨j,hj,rfl⟩:=Q6 hu;obtain⟨y,ey,ry⟩:=iJ r hj;have lj:j<es.length:=by rw[hl,r.length];exact hj
     obtain⟨y',ry',q'⟩:=@of_decide_eq_true _ (Classical.propDecidable _) c;have:=ry.inj ry';subst this;have q:=he j y es[j] ey (A2 lj);exact⟨es[j],L8 lj,EqD.det I n y x es[j] true q q'⟩
   . rintro⟨e,hm,c⟩;obtain⟨j,hj,rfl⟩:=Q6 hm;have c':es[j]=true:=c;have lj:j<us.length:=by rw[<-r.length,<-hl];exact hj
     obtain⟨y,ey,ry⟩:=iJ r lj;have q:=he j y es[j] ey (A2 hj);rw[c']at q;exact⟨us[j],L8 lj,@E8 _ (Classical.propDecidable _) ⟨y,ry,q⟩⟩
def es6{n:Nat}(hu:X.A.units+n+1<cLine):OpR X (compareOp .In) (cr0 X.K n false):=by
 intro ζ s O H x y v u Q I rx ry h;rcases h with⟨p,ys,rfl,hs,es,hl,he,q⟩|⟨i,j,rfl,rfl,q⟩
 . cases ry;rcases hs with hs|hs
   . refine z12 (I.list hs) λits r pl _=>?_;obtain⟨e,h1,h2⟩:=an9 I r hl he;refine SeqAt.in_listAt e pl.isList (λy hy=>?_) ?_
     . obtain⟨y',ry',q'⟩:=h1 y (by simpa using hy);exact oF I n (by show X.A.units+1+n<cLine;omega) ry' rx q'
     . exact⟨.bl _,H,I,by rw[W4,h2];rfl,q⟩
   . refine z12 (I.tuple hs) λits r pl _=>?_;obtain⟨e,h1,h2⟩:=an9 I r hl he;refine SeqAt.in_tupleAt e (show s.heap.IsTuple p its.toArray from pl) (λy hy=>?_) ?_
     . obtain⟨y',ry',q'⟩:=h1 y (by simpa using hy);exact oF I n (by show X.A.units+1+n<cLine;omega) ry' rx q'
     . exact⟨.bl _,H,I,by rw[W4,h2];rfl,q⟩
 . exact cf9 s O H _ _ v u Q I rx ry ⟨i,j,rfl,rfl,q⟩
def ci9{n:Nat}(hu:X.A.units+n+1<cLine):OpR X (compareOp .NotIn) (cr0 X.K n true):=by
 intro ζ s O H x y v u Q I rx ry h;rcases h with⟨p,ys,rfl,hs,es,hl,he,q⟩|⟨i,j,rfl,rfl,q⟩
 . cases ry;rcases hs with hs|hs
   . refine z12 (I.list hs) λits r pl _=>?_;obtain⟨e,h1,h2⟩:=an9 I r hl he;refine SeqAt.notIn_listAt e pl.isList (λy hy=>?_) ?_
     . obtain⟨y',ry',q'⟩:=h1 y (by simpa using hy);exact oF I n (by show X.A.units+1+n<cLine;omega) ry' rx q'
     . exact⟨.bl _,H,I,by rw[W4,h2];rfl,q⟩
   . refine z12 (I.tuple hs) λits r pl _=>?_;obtain⟨e,h1,h2⟩:=an9 I r hl he;refine SeqAt.notIn_tupleAt e (show s.heap.IsTuple p its.toArray from pl) (λy hy=>?_) ?_
     . obtain⟨y',ry',q'⟩:=h1 y (by simpa using hy);exact oF I n (by show X.A.units+1+n<cLine;omega) ry' rx q'
     . exact⟨.bl _,H,I,by rw[W4,h2];rfl,q⟩
 . exact ch0 s O H _ _ v u Q I rx ry ⟨i,j,rfl,rfl,q⟩
def ei7:R2:=λx y H Q=>(y=.non/\Q (.bl (decide (x=.non))) H)\/(∃a b,x=.bl a/\y=.bl b/\Q (.bl (a==b)) H)
def au3:OpR X (compareOp .Is) ei7:=by
 intro ζ s O H x y v u Q I rx ry h;rcases h with h|⟨a,b,rfl,rfl,q⟩
 . exact eo4 s O H x y v u Q I rx ry h
 . cases rx;cases ry;exact is_bool ⟨.bl _,H,I,rfl,q⟩
end
noncomputable def ar2(z:Str)(k:Nat):Str:=⟨((List.replicate k z.cps.toList).flatten).toArray⟩
theorem bq0(z:Str):∀(k:Nat)(acc:ax),List.foldl (λx1 x2=>x1++x2) acc.toArray (List.replicate k z.cps)=(acc++(List.replicate k z.cps.toList).flatten).toArray
 |0,acc=>by simp
 |k+1,acc=>by
  rw[G8,R1,G8,B8];have e:acc.toArray++z.cps=(acc++z.cps.toList).toArray:=Y1
  rw[e,bq0 z k,J0]
section
variable{X:Cx}
def dr9(K:A1):R2:=λx y H Q=>∃l b xs zs,x=.ref l/\y=.ref b/\SqS K H l xs/\SqS K H b zs/\xs.length+zs.length<=sizeLine/\∀p,H p=none->Q (.ref p) (upd H p (.lst (xs++zs)))
def op_catS:OpR X (binaryOp .Add) (dr9 X.K):=by
 intro ζ s O H x y v u Q I rx ry h;refine z45 h λl b xs zs zz zy hH hB hz q=>?_;clear h;subst zz zy;cases rx;cases ry;refine z22 (I.listS hH) λits n r e _=>?_;refine z22 (I.listS hB) λits2 n2 r2 e2 _=>?_;have hl:=r.length;have hl2:=r2.length;refine PySem.P.add_list e e2 ?_ (by rw[A8,A8];omega);have ea:its.toArray++its2.toArray=(its++its2).toArray:=Y1
 rw[ea];exact⟨.ref _,_,I.lnew (t':=s.toks) (r.append r2) (by rw[G2];omega),rfl,q _ I.fresh⟩
def df9(K:A1):R2:=λx y H Q=>xR (λi j=>.int (i+j)) x y H Q\/fa4 x y H Q\/dr9 K x y H Q\/da9 K x y H Q
def bA(K:A1)(hK:autoParam (X.K=K) Z8):OpR X (binaryOp .Add) (df9 K):=by subst hK;exact op_add.or (op_add_str.or (op_catS.or ek1))
def dn9:R2:=λx y H Q=>∃z k,x=.str z/\y=.int k/\-(2^63)<=k/\k<2^62/\z.length*k.toNat<=sizeLine/\Q (.str (ar2 z k.toNat)) H
def ef4:OpR X (binaryOp .Mult) dn9:=by
 intro ζ s O H x y v u Q I rx ry h;refine z25 h λz k zz zy h1 h2 hz q=>?_;clear h;subst zz zy;obtain⟨t,rfl⟩:=rx;obtain⟨t',rfl⟩:=ry;have hn:=F9;refine PySem.P.mul_str ?_ ?_ ?_ ?_
 . rw[D6 X8,D6 X8];rfl
 . intro hk _;have hk1:1<=k:=X8
   have:((z.length:Int))<=16777216:=by have:z.length*1<=z.length*k.toNat:=Nat.mul_le_mul_left _ X8;omega
   have hq:(2^63-1:Int)/k>=(z.length:Int):=by
    refine(Int.le_ediv_iff_mul_le X8).mpr ?_;have e:(z.length:Int)*k=((z.length*k.toNat:Nat):Int):=by rw[Int.natCast_mul,Int.toNat_of_nonneg X8]
    rw[e];omega
   omega
 . intro _ _;unfold Builtin.Str.tooLong;exact D6 X8
 . split
   . next hk=>
     have e:ar2 z k.toNat=Str.empty:=by
      have:k.toNat=0:=X8
      rw[this];rfl
     rw[e]at q;exact⟨Y2,.str _,H,I.tok _,⟨_,rfl⟩,q⟩
   . next hk=>
     split
     . next hc=>
       have e:ar2 z k.toNat=z:=by
        rw[U6,O6,O6]at hc;rcases hc with hc|hc
        . subst hc;simp[ar2]
        . have hz0:z.cps.toList=[]:=by
           have:z.cps.toList.length=0:=by rw[G5];exact hc
           exact List.eq_nil_of_length_eq_zero this
          have:(List.replicate k.toNat z.cps.toList).flatten=[]:=by rw[hz0];simp
          unfold ar2;rw[this];obtain⟨⟨l⟩⟩:=z;simp at hz0;rw[hz0]
       rw[e]at q;exact⟨.str _,H,I,⟨_,rfl⟩,q⟩
     . have e:(⟨(List.replicate k.toNat z.cps).foldl (· ++ ·) #[]⟩:Str)=ar2 z k.toNat:=by have:=bq0 z k.toNat [];rw[K7]at this;unfold ar2;rw[<-this]
       rw[e];refine⟨?_,.str _,H,I.tok _,⟨_,rfl⟩,q⟩;show((List.replicate k.toNat z.cps.toList).flatten.toArray).size<=sizeLine;rw[A8,ef2,G5,Nat.mul_comm];exact hz
def dr8:R2:=λx y H Q=>el7 x y H Q\/dn9 x y H Q
def nM:OpR X (binaryOp .Mult) dr8:=op_mulB.or ef4
end
end L2
namespace TL
open L2
section
variable{Jn:iK}{K:A1}{cn:ac}{E:XK}{As:af}{H:Hp}{Z:av}{Q:VK}
def WpE.val(w:WpE K cn E As H Z [] Q (.ok t))(zi:∀a,Z a->H a≠none)(r:Rep K cn H Z t v []):Q v H:=
 w v H Z [] ⟨Same.refl _,λ_ h=>h,λ_ h=>.inl h,zi,r,F6,dN,dN⟩
def WpE.newL(w:WpE K cn E As H Z [] Q (.ok (.lst true ts)))(zi:∀a,Z a->H a≠none)(r:Reps K cn H Z ts vs [])(p:Addr)(hp:H p=none):Q (.ref p) (L2.upd H p (.lst vs)):=by
 have m:=Mo.new (.lst vs) hp zi;refine w (.ref p) _ Z [p] ⟨m.same,m.zz,m.zn,m.zi,?_,Y1,λb hb=>?_,λb hb=>?_⟩
 . simp only[Rep];exact⟨p,vs,[],rfl,rfl,fR,r.same m.same m.zz⟩
 . rw[C3.mp hb];exact λz=>zi p z hp
 . rw[C3.mp hb];exact .inl hp
def WpE.newT(w:WpE K cn E As H Z [] Q (.ok (.tup ts)))(zi:∀a,Z a->H a≠none)(r:Reps K cn H Z ts vs [])(p:Addr)(hp:H p=none):Q (.ref p) (L2.upd H p (.tup vs)):=by have m:=Mo.new (.tup vs) hp zi;refine w (.ref p) _ Z [] ⟨m.same,m.zz,m.zn,m.zi,?_,F6,dN,dN⟩;simp only[Rep];exact⟨p,vs,rfl,SqT.of fR,r.same m.same m.zz⟩
theorem Rep.int{i:Int}{v:V}{A:ao}(h:Rep K cn H Z (.int i) v A):v=.int i:=by simp only[Rep]at h;exact h.1
theorem Rep.str{i:Str}{v:V}{A:ao}(h:Rep K cn H Z (.str i) v A):v=.str i:=by simp only[Rep]at h;exact h.1
theorem Rep.bl(h:Rep K cn H Z (.bl i) v A):v=.bl i:=by simp only[Rep]at h;exact h.1
theorem Rep.non(h:Rep K cn H Z .non v A):v=.non:=by simp only[Rep]at h;exact h.1
def Rep.tupS(h:Rep K cn H Z (.tup ts) v A):∃a vs,v=.ref a/\SqT K H a vs/\Reps K cn H Z ts vs A:=by simp only[Rep]at h;exact h
def kT(i:Int):Rep K cn H Z (.int i) (.int i) []:=by simp[Rep]
def uL(i:Bool):Rep K cn H Z (.bl i) (.bl i) []:=by simp[Rep]
def am3(i:Str):Rep K cn H Z (.str i) (.str i) []:=by simp[Rep]
noncomputable def bS:T->T->Res T
 |.int i,.int j=>.ok (.int (i+j))
 |.str a,.str b=>gate (a.length+b.length<=sizeLine) (.ok (.str (a++b)))
 |.lst _ xs,.lst _ ys=>gate ((bF xs&&bF ys)=true/\xs.length+ys.length<=sizeLine) (.ok (.lst true (xs++ys)))
 |.tup xs,.tup ys=>gate ((bF xs&&bF ys)=true/\xs.length+ys.length<=sizeLine/\xs.isEmpty=false/\ys.isEmpty=false) (.ok (.tup (xs++ys)))
 |_,_=>.no
def fm4:pV K cn (df9 K) bS:=λE As H Z t u x y A B Q zi rt ru w=>by
 unfold bS at w;split at w
 . next i j=>rw[rt.int,ru.int];exact .inl ⟨i,j,rfl,rfl,w.val zi (kT _)⟩
 . next a b=>
   obtain⟨h,w⟩:=w.gate;rw[rt.str,ru.str];exact .inr (.inl ⟨a,b,rfl,rfl,h,w.val zi (am3 _)⟩)
 . next o xs o' ys=>
   obtain⟨h,w⟩:=w.gate;rw[E4]at h;refine z33 rt.lstSq λa vs C zz hs r1 _=>?_;subst zz;refine z33 ru.lstSq λb ws D zz hs' r2 _=>?_;subst zz;exact .inr (.inr (.inl ⟨a,b,vs,ws,rfl,rfl,hs,hs',by rw[Reps.length xs r1,Reps.length ys r2];exact h.2,λp hp=>w.newL zi (Reps.append xs (r1.bareE h.1.1) (r2.bareE h.1.2)) p hp⟩))
 . next xs ys=>
   obtain⟨h,w⟩:=w.gate;rw[E4]at h;refine z22 rt.tupS λa vs zz hs r1=>?_;subst zz;refine z22 ru.tupS λb ws zz hs' r2=>?_;subst zz;have e1:=r1.isEmpty;have e2:=r2.isEmpty;refine .inr (.inr (.inr ⟨a,b,vs,ws,rfl,rfl,hs,hs',λz=>?_,by rw[Reps.length xs r1,Reps.length ys r2];exact h.2.1,λz=>?_,λ_ p hp=>w.newT zi (Reps.append xs (r1.bareE h.1.1) (r2.bareE h.1.2)) p hp⟩))
   . rw[z,h.2.2.1]at e1;cases e1
   . rw[z,h.2.2.2]at e2;cases e2
 . exact w.elim
noncomputable def qI(f:Int->Int->Res T):T->T->Res T
 |.int i,.int j=>f i j
 |_,_=>.no
def bm9{g:Int->Int->T}{g':db}(hg:∀i j H Z,Rep K cn H Z (g i j) (g' i j) []):pV K cn (xR g') (qI λi j=>.ok (g i j)):=λE As H Z t u x y A B Q zi rt ru w=>by
 unfold qI at w;split at w
 . next i j=>rw[rt.int,ru.int];exact⟨i,j,rfl,rfl,w.val zi (hg i j _ _)⟩
 . exact w.elim
def r_i{C:Int->Int->Prop}{g:Int->Int->T}{g':db}(hg:∀i j H Z,Rep K cn H Z (g i j) (g' i j) []):pV K cn (rI C g') (qI λi j=>gate (C i j) (.ok (g i j))):=λE As H Z t u x y A B Q zi rt ru w=>by
 unfold qI at w;split at w
 . next i j=>
   obtain⟨h,w⟩:=WpE.gate w;rw[rt.int,ru.int];exact⟨i,j,rfl,rfl,h,w.val zi (hg i j _ _)⟩
 . exact w.elim
def dH:=qI λi j=>.ok (.int (i-j))
def fv0:pV K cn (xR λi j=>.int (i-j)) dH:=bm9 λ_ _ _ _=>kT _
def ltT:=qI λi j=>.ok (.bl (decide (i<j)))
def uG:=qI λi j=>.ok (.bl (decide (i<=j)))
def gtT:=qI λi j=>.ok (.bl (decide (j<i)))
def geT:=qI λi j=>.ok (.bl (decide (j<=i)))
def fx4:pV K cn (xR λi j=>.bl (decide (i<j))) ltT:=bm9 λ_ _ _ _=>uL _
def fu4:pV K cn (xR λi j=>.bl (decide (i<=j))) uG:=bm9 λ_ _ _ _=>uL _
def fu5:pV K cn (xR λi j=>.bl (decide (j<i))) gtT:=bm9 λ_ _ _ _=>uL _
def fc5:pV K cn (xR λi j=>.bl (decide (j<=i))) geT:=bm9 λ_ _ _ _=>uL _
noncomputable def kJ:=qI λi j=>gate (zV i j) (.ok (.int (i/j)))
def ex5:pV K cn (rI zV λi j=>.int (i/j)) kJ:=r_i λ_ _ _ _=>kT _
noncomputable def cN:=qI λi j=>gate (0<j) (.ok (.int (i%j)))
def fq1:pV K cn (rI (λ_ j=>0<j) λi j=>.int (i%j)) cN:=r_i (C:=λ_ j=>0<j) λ_ _ _ _=>kT _
noncomputable def as4:=qI λi j=>gate (am4 i j) (.ok (.int (i^j.toNat)))
def fm2:pV K cn (rI am4 λi j=>.int (i^j.toNat)) as4:=r_i λ_ _ _ _=>kT _
def mulOk(i j:Int):Prop:=(-(2^64)<i/\i<2^64)\/(-(2^64)<j/\j<2^64)\/Builtin.Int.intBits i+Builtin.Int.intBits j<=134217728
def mulOk.ok(h:mulOk i j):IntMulOk i j:=by
 rcases h with h|h|h
 . exact es0 h.1 h.2
 . exact eg0 h.1 h.2
 . exact cj7 h
noncomputable def pW:T->T->Res T
 |.int i,.int j=>gate (mulOk i j) (.ok (.int (i*j)))
 |.str z,.int k=>gate (-(2^63)<=k/\k<2^62/\z.length*k.toNat<=sizeLine) (.ok (.str (ar2 z k.toNat)))
 |_,_=>.no
def fw1:pV K cn dr8 pW:=λE As H Z t u x y A B Q zi rt ru w=>by
 unfold pW at w;split at w
 . next i j=>
   obtain⟨h,w⟩:=w.gate;rw[rt.int,ru.int];exact .inl ⟨i,j,rfl,rfl,h.ok,w.val zi (kT _)⟩
 . next z k=>
   obtain⟨h,w⟩:=w.gate;rw[rt.str,ru.int];exact .inr ⟨z,k,rfl,rfl,h.1,h.2.1,h.2.2,w.val zi (am3 _)⟩
 . exact w.elim
noncomputable def sZ:T->Res T
 |.int i=>.ok (.int (-i))
 |_=>.no
def fk1:R1R K cn (rU λi=>.int (-i)) sZ:=λE As H Z t x A Q zi rt w=>by
 unfold sZ at w;split at w
 . next i=>rw[rt.int];exact⟨i,rfl,w.val zi (kT _)⟩
 . exact w.elim
noncomputable def isT:T->T->Res T
 |.bl a,.bl b=>.ok (.bl (a==b))
 |.non,.non=>.ok (.bl true)
 |_,.non=>.ok (.bl false)
 |_,_=>.no
theorem Rep.notNon(h:Rep K cn H Z t v A)(n:t≠ .non):v≠ .non:=by
 cases t with
 |non=>exact D8 rfl n
 |bl _=>rw[h.bl];exact λz=>nomatch z
 |int _=>rw[h.int];exact λz=>nomatch z
 |str _=>rw[h.str];exact λz=>nomatch z
 |ty _=>simp only[Rep]at h;rw[h.1];exact λz=>nomatch z
 |err _ _=>simp only[Rep]at h;refine z31 h λa C dx zz _=>?_;clear h;subst zz;exact λz=>nomatch z
 |lst o ts=>refine z31 h.lstSq λa vs C zz _=>?_;subst zz;exact λz=>nomatch z
 |tup ts=>refine z21 h.tupS λa vs zz _=>?_;subst zz;exact λz=>nomatch z
 |ins o c ns ts=>
  cases o with
  |true=>simp only[Rep]at h;refine z51 h λa C dx vs B zz _=>?_;clear h;subst zz;exact λz=>nomatch z
  |false=>simp only[Rep]at h;refine z41 h λa C dx vs zz _=>?_;clear h;subst zz;exact λz=>nomatch z
def fb5:pV K cn ei7 isT:=λE As H Z t u x y A B Q zi rt ru w=>by
 unfold isT at w;split at w
 . next a b=>rw[rt.bl,ru.bl];exact .inr ⟨a,b,rfl,rfl,w.val zi (uL _)⟩
 . rw[rt.non,ru.non];exact .inl ⟨rfl,w.val zi (uL _)⟩
 . next h1 h2=>rw[ru.non];exact .inl ⟨rfl,by rw[D6 (rt.notNon (by rintro rfl;exact h2 rfl))];exact w.val zi (uL _)⟩
 . exact w.elim
noncomputable def jO:T->T->Res T
 |.non,.non=>.ok (.bl false)
 |_,.non=>.ok (.bl true)
 |_,_=>.no
def ex2:pV K cn (λx y H Q=>y=.non/\Q (.bl (!decide (x=.non))) H) jO:=λE As H Z t u x y A B Q zi rt ru w=>by
 unfold jO at w;split at w
 . rw[rt.non,ru.non];exact⟨rfl,w.val zi (uL _)⟩
 . next h2=>rw[ru.non];exact⟨rfl,by rw[D6 (rt.notNon (by rintro rfl;exact h2 rfl))];exact w.val zi (uL _)⟩
 . exact w.elim
noncomputable def cb7:T->Option V
 |.non=>some .non
 |.bl b=>some (.bl b)
 |.int i=>some (.int i)
 |.str z=>some (.str z)
 |_=>none
def qD(t u:T):Option Bool:=(cb7 t).bind λx=>(cb7 u).map λy=>eqV x y
mutual
noncomputable def mI:Nat->T->T->Option Bool
 |n+1,.lst _ xs,.lst _ ys=>if xs.length=ys.length then(oB n xs ys).map λes=>es.all id else some false
 |n+1,.tup xs,.tup ys=>(oB n xs ys).map λes=>es.all id&&xs.length==ys.length
 |_,t,u=>qD t u
noncomputable def oB:Nat->List T->List T->Option (List Bool)
 |n,x::xs,y::ys=>(mI n x y).bind λb=>(oB n xs ys).map λes=>b::es
 |_,_,_=>some []
end
def cf1{t:T}{x x':V}{A:ao}(rt:Rep K cn H Z t x A)(h:cb7 t=some x'):x=x'/\tR x=true:=by
 cases t<;>first
  |(cases h;done)
  |(cases h;obtain⟨rfl,_⟩:=rt;exact⟨rfl,rfl⟩)
def cu8(rt:Rep K cn H Z t x A)(ru:Rep K cn H Z u y B)(h:qD t u=some b):tR x=true/\tR y=true/\b=eqV x y:=by unfold qD at h;obtain⟨x',hx,h⟩:=M9.mp h;obtain⟨y',hy,rfl⟩:=J7.mp h;obtain⟨rfl,fx⟩:=cf1 rt hx;obtain⟨rfl,fy⟩:=cf1 ru hy;exact⟨fx,fy,rfl⟩
theorem bu9(rt:Rep K cn H Z t x A)(ru:Rep K cn H Z u y B)(h:qD t u=some b):EqD K H n x y b:=by
 have q:=cu8 rt ru h;cases n with
 |zero=>exact q
 |succ n=>exact .inl q
theorem bk3(ih:∀(t u:T){x y:V}{A B:ao}{b:Bool},Rep K cn H Z t x A->Rep K cn H Z u y B->mI n t u=some b->EqD K H n x y b):∀(ts us:aw){vs ws:a9}{A B:ao}{es:br},Reps K cn H Z ts vs A->Reps K cn H Z us ws B->oB n ts us=some es->
 es.length=min ts.length us.length/\∀(j:Nat) x y e,vs[j]?=some x->ws[j]?=some y->es[j]?=some e->EqD K H n x y e
 |x::xs,y::ys,vs,ws,A,B,es,r1,r2,h=>by
  simp only[Reps]at r1 r2;refine z43 r1 λv vs' B1 C1 zz zy a1 a2=>?_;clear r1;subst zz zy;refine z43 r2 λw ws' B2 C2 zz zy b1 b2=>?_;clear r2;subst zz zy;rw[oB,M9]at h;obtain⟨b,h1,h⟩:=h;rw[J7]at h;obtain⟨es',h2,rfl⟩:=h;obtain⟨q1,q2⟩:=bk3 ih xs ys a2 b2 h2;refine⟨by simp only[List.length_cons];omega,λj x' y' e e1 e2 e3=>?_⟩;cases j with
  |zero=>simp at e1 e2 e3;subst e1 e2 e3;exact ih x y a1 b1 h1
  |succ j=>exact q2 j x' y' e (by simpa using e1) (by simpa using e2) (by simpa using e3)
 |[],us,vs,ws,A,B,es,r1,r2,h=>by
  have e:oB n [] us=some []:=by cases us<;>rfl
  rw[e]at h;cases h;exact⟨Y1,λj x y e _ _ e3=>by simp at e3⟩
 |t::ts,[],vs,ws,A,B,es,r1,r2,h=>by have e:oB n (t::ts) []=some []:=rfl;rw[e]at h;cases h;exact⟨Y1,λj x y e _ _ e3=>by simp at e3⟩
theorem bb9(n:Nat):∀(t u:T){x y:V}{A B:ao}{b:Bool},Rep K cn H Z t x A->Rep K cn H Z u y B->mI n t u=some b->EqD K H n x y b:=by
 induction n with
 |zero=>
  intro t u x y A B b rt ru h;have e:mI 0 t u=qD t u:=by cases t<;>cases u<;>rfl
  rw[e]at h;exact bu9 rt ru h
 |succ n ih=>
  intro t u x y A B b rt ru h;by_cases h1:∃o o' xs ys,t=.lst o xs/\u=.lst o' ys
  . refine z41 h1 λo o' xs ys zz zy=>?_;clear h1;subst zz zy;refine z33 rt.lstSq λa vs C zz hs r1 _=>?_;subst zz;refine z33 ru.lstSq λb' ws D zz hs' r2 _=>?_;subst zz;rw[mI]at h;have l1:=Reps.length xs r1;have l2:=Reps.length ys r2;split at h
    . next hl=>
      rw[J7]at h;obtain⟨es,h1,rfl⟩:=h;obtain⟨q1,q2⟩:=bk3 ih xs ys r1 r2 h1;exact .inr (.inl ⟨a,b',vs,ws,rfl,rfl,hs.sq,hs'.sq,.inr ⟨X8,es,by rw[q1];omega,q2,rfl⟩⟩)
    . next hl=>
      cases h;exact .inr (.inl ⟨a,b',vs,ws,rfl,rfl,hs.sq,hs'.sq,.inl ⟨X8,rfl⟩⟩)
  . by_cases h2:∃xs ys,t=.tup xs/\u=.tup ys
    . refine z21 h2 λxs ys zz zy=>?_;clear h2;subst zz zy;refine z22 rt.tupS λa vs zz hs r1=>?_;subst zz;refine z22 ru.tupS λb' ws zz hs' r2=>?_;subst zz;rw[mI]at h;have l1:=Reps.length xs r1;have l2:=Reps.length ys r2;rw[J7]at h;obtain⟨es,h1,rfl⟩:=h;obtain⟨q1,q2⟩:=bk3 ih xs ys r1 r2 h1;exact .inr (.inr ⟨a,b',vs,ws,rfl,rfl,hs,hs',es,by rw[q1];omega,q2,by rw[l1,l2]⟩)
    . have e:mI (n+1) t u=qD t u:=by cases t<;>cases u<;>first|rfl|exact D8 ⟨_,_,_,_,rfl,rfl⟩ h1|exact D8 ⟨_,_,rfl,rfl⟩ h2
      rw[e]at h;exact bu9 rt ru h
def dJ:Nat:=6
noncomputable def ai1:T->Bool
 |.lst _ _=>true
 |.tup _=>true
 |_=>false
def cy6:T->T->Bool
 |.bl _,.int _=>false
 |.int _,.bl _=>false
 |t,u=>!ai1 t&&!ai1 u
def eqB(t u:T):Option Bool:=if ai1 t=true/\ai1 u=true then mI dJ t u else if cy6 t u=true then qD t u else none
def fI(t u:T):Res T:=match eqB t u with
 |some b=>.ok (.bl b)
 |none=>.no
theorem Rep.seqRef(h:Rep K cn H Z t v A)(i:ai1 t=true):∃a,v=.ref a:=by
 cases t with
 |lst o ts=>refine z31 h.lstSq λa vs C zz _=>?_;subst zz;exact⟨a,rfl⟩
 |tup ts=>refine z21 h.tupS λa vs zz _=>?_;subst zz;exact⟨a,rfl⟩
 |_=>cases i
def cv4 (rt : Rep K cn H Z t x A) (ru : Rep K cn H Z u y B) (hs : cy6 t u = true) (h : qD t u = some b) : dc6 x y = true ∧ b = decide (x = y) := by
  unfold qD at h
  obtain ⟨x', hx, h⟩ := M9.mp h
  obtain ⟨y', hy, rfl⟩ := J7.mp h
  cases t <;> first
    | (cases hx; done)
    | (cases u <;> first
      | (cases hy; done)
      | (cases hs; done)
      | (cases hx; cases hy; obtain ⟨rfl, _⟩ := rt; obtain ⟨rfl, _⟩ := ru; exact ⟨rfl, by first | rfl | (exact dec_int.symm) | (exact dec_bl.symm) | (exact dec_str.symm) | (symm; exact D6 (fun z => nomatch z))⟩))
def fz4:pV K cn (cq6 K dJ) fI:=λE As H Z t u x y A B Q zi rt ru w=>by
 unfold fI at w;split at w
 . next b h=>
   unfold eqB at h;split at h
   . next hs=>
     obtain⟨p,rfl⟩:=rt.seqRef hs.1;obtain⟨q,rfl⟩:=ru.seqRef hs.2;exact .inr ⟨p,q,b,rfl,rfl,bb9 dJ t u rt ru h,w.val zi (uL _)⟩
   . split at h
     . next hs=>
       obtain⟨q1,rfl⟩:=cv4 rt ru hs h;exact .inl ⟨q1,w.val zi (uL _)⟩
     . cases h
 . exact w.elim
def neT(t u:T):Res T:=if cy6 t u=true then match qD t u with
 |some b=>.ok (.bl (!b))
 |none=>.no else .no
def fg6:pV K cn rNe neT:=λE As H Z t u x y A B Q zi rt ru w=>by
 unfold neT at w;split at w
 . next hs=>
   split at w
   . next b h=>
     obtain⟨q1,rfl⟩:=cv4 rt ru hs h;exact⟨q1,w.val zi (uL _)⟩
   . exact w.elim
 . exact w.elim
noncomputable def occ(j i:Str):Bool:=!(Builtin.Str.occurrences j i 0 j.length 1).isEmpty
noncomputable def uN(t:T):List T->Option (List Bool)
 |[]=>some []
 |u::us=>(mI dJ u t).bind λb=>(uN t us).map λes=>b::es
theorem ae6(rt:Rep K cn H Z t x A):∀(us:aw){ws:a9}{B:ao}{es:br},Reps K cn H Z us ws B->uN t us=some es->es.length=ws.length/\∀(j:Nat) y e,ws[j]?=some y->es[j]?=some e->EqD K H dJ y x e
 |[],ws,B,es,r,h=>by simp only[Reps]at r;obtain⟨rfl,_⟩:=r;cases h;exact⟨rfl,λj y e e1=>by simp at e1⟩
 |u::us,ws,B,es,r,h=>by
  simp only[Reps]at r;refine z43 r λw ws' B1 C1 zz zy a1 a2=>?_;clear r;subst zz zy;rw[uN,M9]at h;obtain⟨b,h1,h⟩:=h;rw[J7]at h;obtain⟨es',h2,rfl⟩:=h;obtain⟨q1,q2⟩:=ae6 rt us a2 h2;refine⟨by simp[q1],λj y e e1 e2=>?_⟩;cases j with
  |zero=>simp at e1 e2;subst e1 e2;exact bb9 dJ u t a1 rt h1
  |succ j=>exact q2 j y e (by simpa using e1) (by simpa using e2)
def inT(neg:Bool):T->T->Res T
 |t,.lst _ us=>match uN t us with
  |some es=>.ok (.bl (if neg=true then !es.any id else es.any id))
  |none=>.no
 |t,.tup us=>match uN t us with
  |some es=>.ok (.bl (if neg=true then !es.any id else es.any id))
  |none=>.no
 |.str i,.str j=>.ok (.bl (if neg=true then !occ j i else occ j i))
 |_,_=>.no
def fw5:pV K cn (cr0 K dJ neg) (inT neg):=λE As H Z t u x y A B Q zi rt ru w=>by
 unfold inT at w;split at w
 . next t o us=>
   split at w
   . next es h=>
     refine z33 ru.lstSq λa vs C zz hs r1 _=>?_;subst zz;obtain⟨q1,q2⟩:=ae6 rt us r1 h;exact .inl ⟨a,vs,rfl,.inl hs.sq,es,q1,q2,w.val zi (uL _)⟩
   . exact w.elim
 . next t us=>
   split at w
   . next es h=>
     refine z22 ru.tupS λa vs zz hs r1=>?_;subst zz;obtain⟨q1,q2⟩:=ae6 rt us r1 h;exact .inl ⟨a,vs,rfl,.inr hs,es,q1,q2,w.val zi (uL _)⟩
   . exact w.elim
 . next i j=>rw[rt.str,ru.str];exact .inr ⟨i,j,rfl,rfl,w.val zi (uL _)⟩
 . exact w.elim
end
end TL
namespace L2
section
variable{X:Cx}(K:A1)
def ec8(hr:Room k X.A)(hn:autoParam (n<=60) Z6)(hK:autoParam (X.K=K) Z8):OpR X (compareOp .Eq) (cq6 K n):=by subst hK;exact ef8 (by have:=hr.units;omega)
def yL(hr:Room k X.A)(hn:autoParam (n<=60) Z6)(hK:autoParam (X.K=K) Z8):OpR X (compareOp .In) (cr0 K n false):=by subst hK;exact es6 (by have:=hr.units;omega)
def dv1(hr:Room k X.A)(hn:autoParam (n<=60) Z6)(hK:autoParam (X.K=K) Z8):OpR X (compareOp .NotIn) (cr0 K n true):=by subst hK;exact ci9 (by have:=hr.units;omega)
def fh6(hK:autoParam (X.K=K) Z8):IxR X (rIx K):=by subst hK;exact ea9
def ex4:V->Option Int->Option Int->Hp->VK->Prop:=λx lo hi H Q=>er6 K x lo hi H Q\/en8 K x lo hi H Q\/eg7 x lo hi H Q
def pX(hK:autoParam (X.K=K) Z8):SlR X (ex4 K):=by subst hK;exact SlR.or em0 (SlR.or ej6 ev4)
def bU(ha:PE X a ta)(he:∀whole,isTrue a X.env whole=(do let v<-whole;standAt a.pos;holding [v] (truthy v)))(hK:autoParam (X.K=K) Z8):
 PT X a (λO H Q=>ta O H λx H'=>∃k,cv0 K x H' k/\Q k H'):=by
 subst hK;exact ds4 ha he
def gC(hl:PE X l tl)(hK:autoParam (X.K=K) Z8):PI X tg l (TL.iV K tl):=by
 subst hK;intro ζ s O H R I h;refine jE (hl s O H _ I h) λv s1 x H1 I1 r1 q1=>?_;rcases q1 with⟨a,e,q⟩|⟨z,e,q⟩
 . subst e;cases r1;rcases q with⟨⟨xs,hq⟩,q⟩|⟨⟨xs,hq⟩,q⟩
   . refine z12 (I1.list hq) λits rv p hz=>?_;refine U2 p.isList ?_;refine⟨s1.heap.objs.size,[s1.heap.objs.size],_,_,H1,rfl,I1.kept (t':=s1.toks) λb o e=>A7 _ e,do0 a _,⟨_,D5 _ rfl,rfl,rfl⟩,λb hb=>?_,q⟩;have e:b=s1.heap.objs.size:=by simpa using hb
     subst e;exact I1.fpOk (D4 _) (I1.hok.fresh (D4 _))
   . refine z12 (I1.tuple hq) λits rv p hz=>?_;refine wpAny_pyIter_tuple (show s1.heap.IsTuple a its.toArray from p) ?_;refine⟨s1.heap.objs.size,[s1.heap.objs.size],_,_,H1,rfl,I1.kept (t':=s1.toks) λb o e=>A7 _ e,cd7 a _,⟨_,D5 _ rfl,rfl,rfl⟩,λb hb=>?_,q⟩;have e:b=s1.heap.objs.size:=by simpa using hb
     subst e;exact I1.fpOk (D4 _) (I1.hok.fresh (D4 _))
 . subst e;obtain⟨t,rfl⟩:=r1;have fp:∀b∈[s1.heap.objs.size],uU X ζ H1 b:=λb hb=>by
    have e:b=s1.heap.objs.size:=by simpa using hb
    subst e;exact I1.fpOk (D4 _) (I1.hok.fresh (D4 _))
   cases ha:z.cps.all (· <128)
   . exact wpAny_pyIter_wide ha ⟨s1.heap.objs.size,[s1.heap.objs.size],_,_,H1,rfl,I1.kept (t':=s1.toks) λb o e=>A7 _ e,dn0 _ z t,⟨_,D5 _ rfl,rfl,rfl⟩,fp,q⟩
   . exact wpAny_pyIter_ascii ha ⟨s1.heap.objs.size,[s1.heap.objs.size],_,_,H1,rfl,I1.kept (t':=s1.toks) λb o e=>A7 _ e,cq7 _ z t,⟨_,D5 _ rfl,rfl,rfl⟩,fp,q⟩
def gE(n:Nat)(hc:X.calm=true)(h:PGs X es t)
 (hn:autoParam ((assignEach es X.env).length=n) Z8)(hst:autoParam ((assignEach es X.env).findIdx? (·.1)=none) Z8)(hK:autoParam (X.K=K) Z8):PG X (.Tuple es k pos) (dp6 K n t):=by
 subst hK;exact ep8 hc h hn hst
def xY{o e:Expr}{es:bj}{to:TE}{t:TA}{name:Str}{apos cpos:Pos}{T id:String}{r:bh}(pa:PlainAttrs T)(slot:Slot T name id)(hty:typeOf (.builtin id)=pure (.type "method_descriptor"))(hm:MtR X id r)(ho:PE X o to)(ha:PA X (e::es) t)
 (hbase:autoParam (attributeBase o name X.env (eval o X.env)=eval o X.env) Z8)
 (hfew:((backTo cpos (starEach (e::es) X.env)).all (λx=>!x.1)&&(backToKw cpos (keywordEach [] X.env)).all (λx=>x.1.isSome)
  &&decide ((e::es).length+([]:List Keyword).length+(if([]:List Keyword).isEmpty then 0 else 1)<30))=true:=by rfl)
 (hline:autoParam ((apos.endLine==cpos.line)=true) Z8)(hs:autoParam (starEach (e::es) X.env=(false,eval e X.env)::starEach es X.env) Z8)(hplain:autoParam ((backTo cpos (starEach es X.env)).any (·.1)=false) Z8)(hK:autoParam (X.K=K) Z8):
 PE X (.Call (.Attribute o name apos) (e::es) [] cpos) (tBM K T r to t):=by
 subst hK;exact fp3 pa slot hty hm ho ha hbase hfew hline hs hplain
def bV(hK:autoParam (X.K=K) Z8):CallR X (.builtin "len") (em5 K):=by subst hK;exact dl6
def ar4(hK:autoParam (X.K=K) Z8):CallR X (.builtin "abs") eb6:=dl4
def bg9(hK:autoParam (X.K=K) Z8):CallR X (.builtin "divmod") ct4:=cu2
def kM(hc:autoParam (X.calm=true) Z8)(hK:autoParam (X.K=K) Z8):CallR X (.builtin "all") (er8 K):=by subst hK;exact dm3 hc
def dz1(hc:autoParam (X.calm=true) Z8)(hK:autoParam (X.K=K) Z8):CallR X (.builtin "any") (fa0 K):=by subst hK;exact dg3 hc
def vZ(hc:autoParam (X.calm=true) Z8)(hK:autoParam (X.K=K) Z8):CallR X (.builtin "max") (ds7 K):=by subst hK;exact de1 hc
def lJ(hc:autoParam (X.calm=true) Z8)(hK:autoParam (X.K=K) Z8):CallR X (.builtin "min") (dp4 K):=by subst hK;exact cq8 hc
def dv0:List V->Hp->VK->Prop:=λxs H Q=>∃(p:Addr)(ns:ah),xs=[.ref p]/\SqL K H p (ns.map V.int)/\ns.length<64/\∀(l:Addr)(ms:ah),H l=none->ms.Perm ns->ms.Pairwise (· <= ·)->Q (.ref l) (upd H l (.lst (ms.map V.int)))
def bv9(hK:autoParam (X.K=K) Z8):CallR X (.builtin "sorted") (dv0 K):=by subst hK;exact bp8
def dw1:List V->Hp->VK->Prop:=λxs H Q=>∃p ys,xs=[.ref p]/\(SqL K H p ys\/SqT K H p ys)/\∀l,H l=none->Q (.ref l) (upd H l (.lst ys))
def jL(hK:autoParam (X.K=K) Z8):CallR X (.type "list") (dw1 K):=by subst hK;exact ck1
def dn3(hK:autoParam (X.K=K) Z8):MtR X "str.join" (ca6 K):=by subst hK;exact ez0
end
end L2
namespace TL
open L2
section
variable{Jn:iK}{K:A1}{cn:ac}{E:XK}{As:af}{H:Hp}{Z:av}{Q:VK}
def aP:T->T->Res T
 |.lst _ ts,.int n=>match atI ts n with
  |some t=>.ok t
  |none=>.no
 |.tup ts,.int n=>match atI ts n with
  |some t=>.ok t
  |none=>.no
 |.str z,.int n=>if z.length<=sizeLine then match atI z.cps.toList n with
  |some c=>.ok (.str ⟨#[c]⟩)
  |none=>.no else .no
 |_,_=>.no
theorem Reps.atI(r:Reps K cn H Z ts vs A)(h:L2.atI ts n=some t):∃v B,L2.atI vs n=some v/\Rep K cn H Z t v B:=by unfold L2.atI at h⊢;rw[M9]at h;obtain⟨j,h1,h2⟩:=h;refine z22 (Reps.get ts r h2) λv B e rv _=>?_;exact⟨v,B,by rw[Reps.length ts r,h1];exact e,rv⟩
theorem fl1(ha:RB Jn K cn E ta a)(hb:RB Jn K cn E tb b):RB Jn K cn E (tOp (rIx K) ta tb) (aF aP a b):=λAs H Z U O F Q w=>by
 unfold aF at w;refine ha As H Z U O F _ ?_;cases e:a U with
 |ok t=>
  rw[e]at w;intro v H1 Z1 B p;refine hb As H1 Z1 U O (F.mo p.mo) _ ?_;simp only[Res.bind]at w;cases e2:b U with
  |ok u=>
   rw[e2]at w;intro v2 H2 Z2 B2 p2;have rt:=p.rep.same p2.same p2.zz;have m:=p.mo.trans p2.mo;have bP:∀{t:T}{v:V}{C:ao},WpB K cn E As H Z Q (.ok t)->Rep K cn H2 Z2 t v C->Q v H2:=λw r=>w _ H2 Z2 _ ⟨m.same,m.zz,m.zn,m.zi,r⟩;simp only at w;unfold aP at w;split at w
   . next o ts n=>
     split at w
     . next t' h=>
       refine z33 rt.lstSq λq vs C zz hs r _=>?_;subst zz;refine z21 (r.atI h) λv' D e3 rv=>?_;exact .inl ⟨q,vs,n,v',rfl,p2.rep.int,hs.sq,e3,bP w rv⟩
     . exact w.elim
   . next ts n=>
     split at w
     . next t' h=>
       refine z22 rt.tupS λq vs zz hs r=>?_;subst zz;refine z21 (r.atI h) λv' D e3 rv=>?_;exact .inr (.inl ⟨q,vs,n,v',rfl,p2.rep.int,hs,e3,bP w rv⟩)
     . exact w.elim
   . next z n=>
     split at w
     . next hz=>
       split at w
       . next c h=>exact .inr (.inr ⟨z,n,c,rt.str,p2.rep.int,hz,h,bP w (am3 _)⟩)
       . exact w.elim
     . exact w.elim
   . exact w.elim
  |ex x=>rw[e2]at w;exact WpX.ev w p.mo.ev
  |no=>rw[e2]at w;exact w
 |_=>rw[e]at w;exact w
def eR{α:Type}(xs:List α)(lo hi:a_):List α:=(xs.drop (HT.sIx xs.length 0 lo)).take (HT.sIx xs.length xs.length hi-HT.sIx xs.length 0 lo)
def nT:T->Option Int->Option Int->Res T
 |.lst _ ts,lo,hi=>if bF ts=true then .ok (.lst true (eR ts lo hi))else .no
 |.tup ts,lo,hi=>if bF ts=true/\¬(HT.sIx ts.length 0 lo=0/\HT.sIx ts.length ts.length hi=ts.length)then .ok (.tup (eR ts lo hi))else .no
 |.str z,lo,hi=>if z.length<=sizeLine then .ok (.str (Txt.slice z lo hi))else .no
 |_,_,_=>.no
def Reps.cut(r:Reps K cn H Z ts vs [])(lo hi:a_):Reps K cn H Z (eR ts lo hi) (ae4 vs lo hi) []:=by unfold eR ae4;rw[Reps.length ts r];exact Reps.take _ _ (Reps.drop _ _ r)
theorem fx5:RSR K cn (ex4 K) nT:=λE As H Z t x A lo hi Q zi rt w=>by
 cases t with
 |lst o ts=>
  simp only[nT]at w;split at w
  . next h=>
    refine z33 rt.lstSq λq vs C zz hs r _=>?_;subst zz;exact .inl ⟨q,vs,rfl,hs.sq,λp hp=>w.newL zi ((r.bareE h).cut lo hi) p hp⟩
  . exact w.elim
 |tup ts=>
  simp only[nT]at w;split at w
  . next h=>
    refine z22 rt.tupS λq vs zz hs r=>?_;subst zz;exact .inr (.inl ⟨q,vs,rfl,hs,by rw[Reps.length ts r];exact h.2,λp hp=>w.newT zi ((r.bareE h.1).cut lo hi) p hp⟩)
  . exact w.elim
 |str z=>
  simp only[nT]at w;split at w
  . next h=>rw[rt.str];exact .inr (.inr ⟨z,rfl,h,w.val zi (am3 _)⟩)
  . exact w.elim
 |_=>exact w.elim
def fy5(k:a_):T->Res T
 |.lst _ ts=>if bF ts=true/\k=some (-1)then .ok (.lst true ts.reverse)else .no
 |_=>.no
def fo5(a:a8)(s:c7):Fr->Res T:=λU=>(a U).bind λt=>(s U).bind λk=>fy5 k t
def Reps.one1(r:Reps K cn H Z [t] vs A):∃v,vs=[v]/\Rep K cn H Z t v A:=by simp only[Reps]at r;obtain⟨v,w,B,C,rfl,rfl,r,rfl,rfl⟩:=r;exact⟨v,rfl,by simpa using r⟩
def Reps.two2(r:Reps K cn H Z [t,u] vs A):∃v w B C,vs=[v,w]/\A=B++C/\Rep K cn H Z t v B/\Rep K cn H Z u w C:=by simp only[Reps]at r;obtain⟨v,w,B,C,rfl,rfl,r,v2,w2,B2,C2,rfl,rfl,r2,rfl,rfl⟩:=r;exact⟨v,v2,B,B2,rfl,Y1,r,r2⟩
noncomputable def dU:List T->Res T
 |[.str z]=>if z.length<=sizeLine then .ok (.int z.length)else .no
 |[.lst _ ts]=>.ok (.int ts.length)
 |[.tup ts]=>.ok (.int ts.length)
 |_=>.no
def fk4:wQ K cn (em5 K) dU:=λE As H Z ts xs A Q zi r w=>by
 unfold dU at w;split at w
 . next z=>
   split at w
   . next h=>obtain⟨v,rfl,rv⟩:=r.one1;rw[rv.str];exact⟨_,_,rfl,⟨h,rfl⟩,w.val zi (kT _)⟩
   . exact w.elim
 . next o ts=>
   obtain⟨v,rfl,rv⟩:=r.one1;refine z33 rv.lstSq λq vs C zz hs r' _=>?_;subst zz;exact⟨_,_,rfl,.inl ⟨vs,hs.sq,rfl⟩,by rw[Reps.length ts r'];exact w.val zi (kT _)⟩
 . next ts=>
   obtain⟨v,rfl,rv⟩:=r.one1;refine z22 rv.tupS λq vs zz hs r'=>?_;subst zz;exact⟨_,_,rfl,.inr ⟨vs,hs,rfl⟩,by rw[Reps.length ts r'];exact w.val zi (kT _)⟩
 . exact w.elim
noncomputable def ap7:List T->Res T
 |[.int i]=>.ok (.int (if i<0 then -i else i))
 |_=>.no
def fo2:wQ K cn eb6 ap7:=λE As H Z ts xs A Q zi r w=>by
 unfold ap7 at w;split at w
 . next i=>rw[r.ints1];exact⟨i,rfl,w.val zi (kT _)⟩
 . exact w.elim
noncomputable def ac6:List T->Res T
 |[.int i,.int j]=>gate (zV i j) (.ok (.tup [.int (i/j),.int (i%j)]))
 |_=>.no
def fy4(i j:Int):Reps K cn H Z [.int i,.int j] [.int i,.int j] []:=by simp only[Reps];exact⟨_,_,[],[],rfl,rfl,kT _,_,_,[],[],rfl,rfl,kT _,rfl,rfl⟩
def dq7:wQ K cn ct4 ac6:=λE As H Z ts xs A Q zi r w=>by
 unfold ac6 at w;split at w
 . next i j=>
   obtain⟨h,w⟩:=w.gate;rw[r.ints2];exact⟨i,j,rfl,h,λp hp=>w.newT zi (fy4 _ _) p hp⟩
 . exact w.elim
noncomputable def bz7:T->Option String
 |.int _=>some "int"
 |.bl _=>some "bool"
 |.str _=>some "str"
 |.lst _ _=>some "list"
 |.tup _=>some "tuple"
 |_=>none
noncomputable def da3(tx ty:String):Option Bool:=
 if(ty="int"\/ty="bool"\/ty="str"\/ty="list"\/ty="tuple")then some (tx=ty\/(tx="bool"/\ty="int"))else none
def et3(h0:bz7 t=some tx)(h:da3 tx ty=some b):iQ tx ty b:=by
 have hx:tx="int"\/tx="bool"\/tx="str"\/tx="list"\/tx="tuple":=by cases t<;>simp[bz7]at h0<;>subst h0<;>simp
 unfold da3 at h;split at h
 . next hy=>
   cases h;rcases hx with rfl|rfl|rfl|rfl|rfl<;>rcases hy with rfl|rfl|rfl|rfl|rfl<;>constructor
 . cases h
theorem da7(r:Rep K cn H Z t v A)(h:bz7 t=some tx):TyN K H v tx:=by
 cases t with
 |int i=>rw[r.int];cases h;rfl
 |bl i=>rw[r.bl];cases h;rfl
 |str i=>rw[r.str];cases h;rfl
 |lst o ts=>refine z32 r.lstSq λq vs C zz hs _=>?_;subst zz;cases h;exact .inl ⟨rfl,vs,hs.sq⟩
 |tup ts=>refine z22 r.tupS λq vs zz hs _=>?_;subst zz;cases h;exact .inr ⟨rfl,vs,hs⟩
 |_=>cases h
def am7:List T->Res T
 |[t,.ty n]=>match bz7 t with
  |some tx=>match da3 tx n with
   |some b=>.ok (.bl b)
   |none=>.no
  |none=>.no
 |_=>.no
def fr2:wQ K cn (ff5 K) am7:=λE As H Z ts xs A Q zi r w=>by
 unfold am7 at w;split at w
 . next t n=>
   split at w
   . next tx h1=>
     split at w
     . next b h2=>
       refine z43 r.two2 λv u B C zz _ r1 r2=>?_;subst zz;simp only[Rep]at r2;rw[r2.1];exact⟨v,n,tx,b,rfl,da7 r1 h1,et3 h1 h2,w.val zi (uL _)⟩
     . exact w.elim
   . exact w.elim
 . exact w.elim
noncomputable def ao5:List T->Option (List Bool)
 |[]=>some []
 |.bl b::ts=>(ao5 ts).map (b:: ·)
 |_::_=>none
theorem ar7:∀(ts:aw){vs:a9}{A:ao}{bs:br},Reps K cn H Z ts vs A->ao5 ts=some bs->vs=bs.map V.bl
 |[],vs,A,bs,r,h=>by simp only[Reps]at r;cases h;exact r.1
 |t::ts,vs,A,bs,r,h=>by
  simp only[Reps]at r;refine z43 r λv vs' B C zz zy r1 r2=>?_;clear r;subst zz zy;cases t with
  |bl b=>simp only[ao5]at h;rw[J7]at h;obtain⟨bs',h1,rfl⟩:=h;rw[ar7 ts r2 h1,r1.bl];rfl
  |_=>cases h
def lU(any:Bool):List T->Res T
 |[.lst _ ts]=>match ao5 ts with
  |some bs=>.ok (.bl (if any=true then bs.any id else bs.all id))
  |none=>.no
 |_=>.no
def fq0:wQ K cn (er8 K) (lU false):=λE As H Z ts xs A Q zi r w=>by
 unfold lU at w;split at w
 . next o ts=>
   split at w
   . next bs h=>
     obtain⟨v,rfl,rv⟩:=r.one1;refine z33 rv.lstSq λq vs C zz hs r' _=>?_;subst zz;have:=ar7 ts r' h;subst this;exact⟨q,bs,rfl,hs.sq,w.val zi (uL _)⟩
   . exact w.elim
 . exact w.elim
def fs0:wQ K cn (fa0 K) (lU true):=λE As H Z ts xs A Q zi r w=>by
 unfold lU at w;split at w
 . next o ts=>
   split at w
   . next bs h=>
     obtain⟨v,rfl,rv⟩:=r.one1;refine z33 rv.lstSq λq vs C zz hs r' _=>?_;subst zz;have:=ar7 ts r' h;subst this;exact⟨q,bs,rfl,hs.sq,w.val zi (uL _)⟩
   . exact w.elim
 . exact w.elim
noncomputable def af2:List T->Option (List Int)
 |[]=>some []
 |.int b::ts=>(af2 ts).map (b:: ·)
 |_::_=>none
theorem ap0:∀(ts:aw){vs:a9}{A:ao}{bs:ah},Reps K cn H Z ts vs A->af2 ts=some bs->vs=bs.map V.int
 |[],vs,A,bs,r,h=>by simp only[Reps]at r;cases h;exact r.1
 |t::ts,vs,A,bs,r,h=>by
  simp only[Reps]at r;refine z43 r λv vs' B C zz zy r1 r2=>?_;clear r;subst zz zy;cases t with
  |int b=>simp only[af2]at h;rw[J7]at h;obtain⟨bs',h1,rfl⟩:=h;rw[ap0 ts r2 h1,r1.int];rfl
  |_=>cases h
theorem yH:∀ns:List Int,af2 (ns.map T.int)=some ns
 |[]=>rfl
 |n::ns=>by simp[af2,yH ns]
theorem aa4:∀ns:List Bool,ao5 (ns.map T.bl)=some ns
 |[]=>rfl
 |n::ns=>by simp[ao5,aa4 ns]
theorem de3:∀ns:List Int,Reps K cn H Z (ns.map T.int) (ns.map V.int) []
 |[]=>by simp[Reps]
 |n::ns=>by simp only[B9,Reps];exact⟨_,_,[],[],rfl,rfl,kT _,de3 ns⟩
noncomputable def dt3:List Int->Int
 |[]=>0
 |n::ns=>ns.foldl (λa b=>if b>a then b else a) n
noncomputable def ds3:List Int->Int
 |[]=>0
 |n::ns=>ns.foldl (λa b=>if b<a then b else a) n
theorem bm5:∀(n:Int)(ns:ah),(ns.foldl (λa b=>if b>a then b else a) n∈n::ns)/\∀a∈n::ns,a<=ns.foldl (λa b=>if b>a then b else a) n
 |n,[]=>by simp
 |n,m::ns=>by
  simp only[List.foldl_cons];have ih:=bm5 (if m>n then m else n) ns;refine⟨?_,λa ha=>?_⟩
  . rcases B6.mp ih.1 with h|h
    . rw[h];split<;>simp
    . exact A5 _ (A5 _ h)
  . have h1:=ih.2 (if m>n then m else n) A9;rcases B6.mp ha with rfl|ha
    . split at h1<;>rename_i hc
      . simp only[hc,L9];omega
      . simp only[hc,O2];exact h1
    . rcases B6.mp ha with rfl|ha
      . split at h1<;>rename_i hc
        . simp only[hc,L9];exact h1
        . simp only[hc,O2];omega
      . exact ih.2 a (A5 _ ha)
theorem bg5:∀(n:Int)(ns:ah),(ns.foldl (λa b=>if b<a then b else a) n∈n::ns)/\∀a∈n::ns,ns.foldl (λa b=>if b<a then b else a) n<=a
 |n,[]=>by simp
 |n,m::ns=>by
  simp only[List.foldl_cons];have ih:=bg5 (if m<n then m else n) ns;refine⟨?_,λa ha=>?_⟩
  . rcases B6.mp ih.1 with h|h
    . rw[h];split<;>simp
    . exact A5 _ (A5 _ h)
  . have h1:=ih.2 (if m<n then m else n) A9;rcases B6.mp ha with rfl|ha
    . split at h1<;>rename_i hc
      . simp only[hc,L9];omega
      . simp only[hc,O2];exact h1
    . rcases B6.mp ha with rfl|ha
      . split at h1<;>rename_i hc
        . simp only[hc,L9];exact h1
        . simp only[hc,O2];omega
      . exact ih.2 a (A5 _ ha)
def zW:List T->Res T
 |[.int i,.int j]=>.ok (.int (if j>i then j else i))
 |[.lst _ ts]=>match af2 ts with
  |some (n::ns)=>.ok (.int (dt3 (n::ns)))
  |_=>.no
 |_=>.no
def mO:List T->Res T
 |[.int i,.int j]=>.ok (.int (if j<i then j else i))
 |[.lst _ ts]=>match af2 ts with
  |some (n::ns)=>.ok (.int (ds3 (n::ns)))
  |_=>.no
 |_=>.no
def ff2:wQ K cn (ds7 K) zW:=λE As H Z ts xs A Q zi r w=>by
 unfold zW at w;split at w
 . next i j=>rw[r.ints2];exact .inl ⟨i,j,rfl,w.val zi (kT _)⟩
 . next o ts=>
   split at w
   . next n ns h=>
     obtain⟨v,rfl,rv⟩:=r.one1;refine z33 rv.lstSq λq vs C zz hs r' _=>?_;subst zz;have:=ap0 ts r' h;subst this;refine .inr ⟨q,n::ns,rfl,hs.sq,List.cons_ne_nil _ _,λM h1 h2=>?_⟩;obtain⟨g1,g2⟩:=bm5 n ns;have:M=dt3 (n::ns):=Int.le_antisymm (g2 M h1) (h2 _ g1);rw[this];exact w.val zi (kT _)
   . exact w.elim
 . exact w.elim
def ft2:wQ K cn (dp4 K) mO:=λE As H Z ts xs A Q zi r w=>by
 unfold mO at w;split at w
 . next i j=>rw[r.ints2];exact .inl ⟨i,j,rfl,w.val zi (kT _)⟩
 . next o ts=>
   split at w
   . next n ns h=>
     obtain⟨v,rfl,rv⟩:=r.one1;refine z33 rv.lstSq λq vs C zz hs r' _=>?_;subst zz;have:=ap0 ts r' h;subst this;refine .inr ⟨q,n::ns,rfl,hs.sq,List.cons_ne_nil _ _,λM h1 h2=>?_⟩;obtain⟨g1,g2⟩:=bg5 n ns;have:M=ds3 (n::ns):=Int.le_antisymm (h2 _ g1) (g2 M h1);rw[this];exact w.val zi (kT _)
   . exact w.elim
 . exact w.elim
noncomputable def af7(n:Int):List Int->List Int
 |[]=>[n]
 |m::ms=>if n<=m then n::m::ms else m::af7 n ms
noncomputable def ai2:List Int->List Int
 |[]=>[]
 |n::ns=>af7 n (ai2 ns)
theorem at3(n:Int):∀ms,(af7 n ms).Perm (n::ms)
 |[]=>List.Perm.refl _
 |m::ms=>by
  unfold af7;split
  . exact List.Perm.refl _
  . exact((at3 n ms).cons m).trans (List.Perm.swap n m ms)
theorem ae2:∀ns,(ai2 ns).Perm ns
 |[]=>List.Perm.refl _
 |n::ns=>(at3 n _).trans ((ae2 ns).cons n)
theorem ap6(n:Int):∀ms:List Int,ms.Pairwise (· <= ·)->(af7 n ms).Pairwise (· <= ·)
 |[],_=>by simp[af7]
 |m::ms,h=>by
  unfold af7;rw[R6]at h;split
  . next hc=>
    rw[R6];refine⟨λa ha=>?_,R6.mpr h⟩;rcases B6.mp ha with rfl|ha
    . exact hc
    . exact N2 hc (h.1 a ha)
  . next hc=>
    rw[R6];refine⟨λa ha=>?_,ap6 n ms h.2⟩;have:=(at3 n ms).mem_iff.mp ha;rcases B6.mp this with rfl|h'
    . omega
    . exact h.1 a h'
theorem yF:∀ns,(ai2 ns).Pairwise (· <= ·)
 |[]=>List.Pairwise.nil
 |n::ns=>ap6 n _ (yF ns)
theorem aj1:∀{ms ns:ah},ms.Perm ns->ms.Pairwise (· <= ·)->ns.Pairwise (· <= ·)->ms=ns
 |[],ns,p,_,_=>(List.Perm.nil_eq p)
 |m::ms,[],p,_,_=>D8 p.length_eq Y1
 |m::ms,n::ns,p,h1,h2=>by
  rw[R6]at h1 h2;have e:m=n:=by
   have a:m∈n::ns:=p.mem_iff.mp A9;have b:n∈m::ms:=p.mem_iff.mpr A9;rcases B6.mp a with a|a
   . exact a
   . rcases B6.mp b with b|b
     . exact b.symm
     . exact Int.le_antisymm (h1.1 n b) (h2.1 m a)
  subst e;rw[aj1 ((List.perm_cons m).mp p) h1.2 h2.2]
def uR:List T->Res T
 |[.lst _ ts]=>match af2 ts with
  |some ns=>if ns.length<64 then .ok (.lst true ((ai2 ns).map .int))else .no
  |none=>.no
 |_=>.no
def dh7:wQ K cn (dv0 K) uR:=λE As H Z ts xs A Q zi r w=>by
 unfold uR at w;split at w
 . next o ts=>
   split at w
   . next ns h=>
     split at w
     . next hl=>
       obtain⟨v,rfl,rv⟩:=r.one1;refine z33 rv.lstSq λq vs C zz hs r' _=>?_;subst zz;have:=ap0 ts r' h;subst this;refine⟨q,ns,rfl,hs.sq,hl,λl ms hl hp hs=>?_⟩;have e:ms=ai2 ns:=aj1 (hp.trans (ae2 ns).symm) hs (yF ns);rw[e];exact w.newL zi (de3 _) l hl
     . exact w.elim
   . exact w.elim
 . exact w.elim
def kR:List T->Res T
 |[.lst _ ts]=>if bF ts=true then .ok (.lst true ts)else .no
 |[.tup ts]=>if bF ts=true then .ok (.lst true ts)else .no
 |_=>.no
def el8:wQ K cn (dw1 K) kR:=λE As H Z ts xs A Q zi r w=>by
 unfold kR at w;split at w
 . next o ts=>
   split at w
   . next h=>
     obtain⟨v,rfl,rv⟩:=r.one1;refine z33 rv.lstSq λq vs C zz hs r' _=>?_;subst zz;exact⟨q,vs,rfl,.inl hs.sq,λl hl=>w.newL zi (r'.bareE h) l hl⟩
   . exact w.elim
 . next ts=>
   split at w
   . next h=>
     obtain⟨v,rfl,rv⟩:=r.one1;refine z22 rv.tupS λq vs zz hs r'=>?_;subst zz;exact⟨q,vs,rfl,.inr hs,λl hl=>w.newL zi (r'.bareE h) l hl⟩
   . exact w.elim
 . exact w.elim
noncomputable def fk6:T->List T->Res T
 |.str z,[.str y]=>.ok (.bl (Txt.startswith z y))
 |_,_=>.no
noncomputable def as2:List T->Option (List Str)
 |[]=>some []
 |.str b::ts=>(as2 ts).map (b:: ·)
 |_::_=>none
theorem bx1:∀(ts:aw){vs:a9}{A:ao}{bs:am},Reps K cn H Z ts vs A->as2 ts=some bs->vs=bs.map V.str
 |[],vs,A,bs,r,h=>by simp only[Reps]at r;cases h;exact r.1
 |t::ts,vs,A,bs,r,h=>by
  simp only[Reps]at r;refine z43 r λv vs' B C zz zy r1 r2=>?_;clear r;subst zz zy;cases t with
  |str b=>simp only[as2]at h;rw[J7]at h;obtain⟨bs',h1,rfl⟩:=h;rw[bx1 ts r2 h1,r1.str];rfl
  |_=>cases h
theorem al4:∀ns:List Str,as2 (ns.map T.str)=some ns
 |[]=>rfl
 |n::ns=>by simp[as2,al4 ns]
def an1:T->List T->Res T
 |.str z,[.lst _ ts]=>match as2 ts with
  |some ys=>if(ys.map (·.length)).sum+ys.length*z.length<=16777216 then .ok (.str (Txt.join z ys))else .no
  |none=>.no
 |_,_=>.no
def eu9:RMR K cn "str" (ca6 K) an1:=λE As H Z t ts x xs A B Q zi rt r w=>by
 unfold an1 at w;split at w
 . next z o ts=>
   split at w
   . next ys h=>
     split at w
     . next hz=>
       obtain⟨v,rfl,rv⟩:=r.one1;refine z33 rv.lstSq λq vs C zz hs r' _=>?_;subst zz;have:=bx1 ts r' h;subst this;rw[rt.str];exact⟨z,q,ys,rfl,rfl,hs.sq,hz,w.val zi (am3 _)⟩
     . exact w.elim
   . exact w.elim
 . exact w.elim
end
open L2
theorem oQ(a:α)(f:α->Res β):(Res.ok a).bind f=f a:=rfl
theorem bv8(P:ci):∀(ts:aw)(k:Nat){U:Fr},P k U->(∀i t U,ts[i]?=some t->P (k+i) U->∃ρ1 ρ2,b t U=some ρ1/\(body ρ1=.nx ρ2\/body ρ1=.ct ρ2)/\P (k+i+1) ρ2)->∃ρ',cY b body ts U=.nx ρ'/\P (k+ts.length) ρ'
 |[],k,U,h0,_=>⟨U,rfl,h0⟩
 |t::ts,k,U,h0,hs=>by refine z22 (hs 0 t U rfl h0) λρ1 ρ2 h1 h2 h3=>?_;obtain⟨ρ',h4,h5⟩:=bv8 (b:=b) (body:=body) P ts (k+1) h3 (λi u U e p=>by have:=hs (i+1) u U (by simpa using e) (by rw[show k+(i+1)=k+1+i by omega];exact p);rw[show k+(i+1)+1=k+1+i+1 by omega]at this;exact this);refine⟨ρ',?_,by rw[E1,show k+(ts.length+1)=k+1+ts.length by omega];exact h5⟩;rcases h2 with h2|h2<;>simp only[cY,h1,h2,h4]
theorem bo0(P:ci)(hs:∀m U,P m U->(c U=.ok false)\/(c U=.ok true/\∃ρ2 m',(body U=.nx ρ2\/body U=.ct ρ2)/\m'<m/\P m' ρ2)):∀(n m:Nat){U:Fr},P m U->m<n->∃ρ' m',tV c body n U=.nx ρ'/\P m' ρ'/\c ρ'=.ok false
 |0,m,U,_,hm=>by omega
 |n+1,m,U,h0,hm=>by
  rcases hs m U h0 with h|⟨h,ρ2,m',h2,hl,hp⟩
  . exact⟨U,m,by simp only[tV,h,O7,O2],h0,h⟩
  . obtain⟨ρ',m'',h4,h5,h6⟩:=bo0 P hs n m' hp X8;refine⟨ρ',m'',?_,h5,h6⟩;rcases h2 with h2|h2<;>simp only[tV,h,h2,L9,h4]
def Go(P:cm):bR->Prop
 |.nx U=>P U
 |.ct U=>P U
 |_=>False
def yA(P:cm)(body:Fr->bR):Option Fr->Prop
 |some U=>Go P (body U)
 |none=>False
theorem fm3:Go P (.nx U)=P U:=rfl
theorem fn1:Go P (.ct U)=P U:=rfl
theorem du5:yA P body (some U)=Go P (body U):=rfl
def fY(P:ci)(h:cY b body ts U=o)(h0:P 0 U)(hs:∀i t U,ts[i]?=some t->P i U->yA (P (i+1)) body (b t U)):∃ρ',o=.nx ρ'/\P ts.length ρ':=by
 obtain⟨ρ',h1,h2⟩:=bv8 (b:=b) (body:=body) P ts 0 h0 (λi t U e p=>by
  have:=hs i t U e (by rw[R9]at p;exact p);rw[R9];cases e1:b t U with
  |none=>rw[e1]at this;exact this.elim
  |some ρ1=>
   rw[e1]at this;have g:Go (P (i+1)) (body ρ1):=this;cases e2:body ρ1 with
   |nx ρ2=>rw[e2]at g;exact⟨ρ1,ρ2,rfl,.inl e2,g⟩
   |ct ρ2=>rw[e2]at g;exact⟨ρ1,ρ2,rfl,.inr e2,g⟩
   |_=>rw[e2]at g;exact g.elim)
 rw[R9]at h2;exact⟨ρ',by rw[<-h,h1],h2⟩
def co5(P B:cm)(R:T->Prop):bR->Prop
 |.nx U=>P U
 |.ct U=>P U
 |.bk U=>B U
 |.rt t=>R t
 |_=>False
def bd8(P B:cm)(R:T->Prop)(body:Fr->bR):Option Fr->Prop
 |some U=>co5 P B R (body U)
 |none=>False
theorem bc0(P:ci)(B:cm)(R:T->Prop):∀(ts:aw)(k:Nat){U:Fr},P k U->(∀i t U,ts[i]?=some t->P (k+i) U->bd8 (P (k+i+1)) B R body (b t U))->
 (∃ρ',cY b body ts U=.nx ρ'/\(P (k+ts.length) ρ'\/B ρ'))\/∃t,cY b body ts U=.rt t/\R t
 |[],k,U,h0,_=>.inl ⟨U,rfl,.inl h0⟩
 |t::ts,k,U,h0,hs=>by
  have h1:=hs 0 t U rfl h0;have next:∀{ρ2:Fr},P (k+1) ρ2->(∃ρ',cY b body ts ρ2=.nx ρ'/\(P (k+(ts.length+1)) ρ'\/B ρ'))\/∃t,cY b body ts ρ2=.rt t/\R t:=by intro ρ2 p;have:=bc0 (b:=b) (body:=body) P B R ts (k+1) p (λi u U e p=>by have:=hs (i+1) u U (by simpa using e) (by rw[show k+(i+1)=k+1+i by omega];exact p);rw[show k+(i+1)+1=k+1+i+1 by omega]at this;exact this);rw[show k+1+ts.length=k+(ts.length+1) by omega]at this;exact this
  rw[E1];simp only[cY];cases e1:b t U with
  |none=>rw[e1]at h1;exact h1.elim
  |some ρ1=>
   rw[e1]at h1;have g:co5 (P (k+0+1)) B R (body ρ1):=h1;simp only;cases e2:body ρ1 with
   |nx ρ2=>rw[e2]at g;exact next g
   |ct ρ2=>rw[e2]at g;exact next g
   |bk ρ2=>rw[e2]at g;exact .inl ⟨ρ2,rfl,.inr g⟩
   |rt t=>rw[e2]at g;exact .inr ⟨t,rfl,g⟩
   |_=>rw[e2]at g;exact g.elim
def bp5(P:ci)(B:cm)(R:T->Prop)(h:cY b body ts U=o)(h0:P 0 U)(hs:∀i t U,ts[i]?=some t->P i U->bd8 (P (i+1)) B R body (b t U)):
 (∃ρ',o=.nx ρ'/\(P ts.length ρ'\/B ρ'))\/∃t,o=.rt t/\R t:=by
 have:=bc0 (b:=b) (body:=body) P B R ts 0 h0 (λi t U e p=>by rw[R9]at p⊢;exact hs i t U e p);rw[R9,h]at this;exact this
def GoW(P:cm)(body:Fr->bR)(U:Fr):Res Bool->Prop
 |.ok true=>Go P (body U)
 |.ok false=>True
 |_=>False
def cs9(P:ci)(h:ah5 c body U=o)(h0:P m U)(hm:m<10^12)(hs:∀m U,P m U->GoW (λρ2=>∃m',m'<m/\P m' ρ2) body U (c U)):∃ρ' m',o=.nx ρ'/\P m' ρ'/\c ρ'=.ok false:=by
 obtain⟨ρ',m',h1,h2,h3⟩:=bo0 (c:=c) (body:=body) P (λm U p=>by
  have g:=hs m U p;cases e:c U with
  |ok k=>
   rw[e]at g;cases k with
   |false=>exact .inl rfl
   |true=>
    have g':Go (λρ2=>∃m',m'<m/\P m' ρ2) (body U):=g;refine .inr ⟨rfl,?_⟩;cases e2:body U with
    |nx ρ2=>rw[e2]at g';obtain⟨m',q1,q2⟩:=g';exact⟨ρ2,m',.inl rfl,q1,q2⟩
    |ct ρ2=>rw[e2]at g';obtain⟨m',q1,q2⟩:=g';exact⟨ρ2,m',.inr rfl,q1,q2⟩
    |_=>rw[e2]at g';exact g'.elim
  |_=>rw[e]at g;exact g.elim) yZ m h0 (E5 hm ed1)
 exact⟨ρ',m',by rw[<-h];exact h1,h2,h3⟩
theorem ed5(i j:Int):bS (.int i) (.int j)=.ok (.int (i+j)):=rfl
theorem ek6(a b:Str):bS (.str a) (.str b)=gate (a.length+b.length<=sizeLine) (.ok (.str (a++b))):=rfl
theorem bw9(o o':Bool)(xs ys:aw):bS (.lst o xs) (.lst o' ys)=gate ((bF xs&&bF ys)=true/\xs.length+ys.length<=sizeLine) (.ok (.lst true (xs++ys))):=rfl
theorem eb8(xs ys:aw):bS (.tup xs) (.tup ys)=gate ((bF xs&&bF ys)=true/\xs.length+ys.length<=sizeLine/\xs.isEmpty=false/\ys.isEmpty=false) (.ok (.tup (xs++ys))):=rfl
theorem ec5(i j:Int):dH (.int i) (.int j)=.ok (.int (i-j)):=rfl
theorem ev8(i j:Int):pW (.int i) (.int j)=gate (mulOk i j) (.ok (.int (i*j))):=rfl
theorem eq5(z:Str)(k:Int):pW (.str z) (.int k)=gate (-(2^63)<=k/\k<2^62/\z.length*k.toNat<=sizeLine) (.ok (.str (ar2 z k.toNat))):=rfl
theorem eo3(i j:Int):kJ (.int i) (.int j)=gate (zV i j) (.ok (.int (i/j))):=rfl
theorem et6(i j:Int):cN (.int i) (.int j)=gate (0<j) (.ok (.int (i%j))):=rfl
theorem bh0(i j:Int):as4 (.int i) (.int j)=gate (am4 i j) (.ok (.int (i^j.toNat))):=rfl
theorem fe4(i:Int):sZ (.int i)=.ok (.int (-i)):=rfl
theorem fe2(i j:Int):ltT (.int i) (.int j)=.ok (.bl (decide (i<j))):=rfl
theorem fq2(i j:Int):uG (.int i) (.int j)=.ok (.bl (decide (i<=j))):=rfl
theorem fr1(i j:Int):gtT (.int i) (.int j)=.ok (.bl (decide (j<i))):=rfl
theorem fk3(i j:Int):geT (.int i) (.int j)=.ok (.bl (decide (j<=i))):=rfl
theorem fo1(a b:Bool):isT (.bl a) (.bl b)=.ok (.bl (a==b)):=rfl
theorem fc2:isT .non .non=.ok (.bl true):=rfl
theorem ft3(i:Int):isT (.int i) .non=.ok (.bl false):=rfl
theorem fz1(i:Str):isT (.str i) .non=.ok (.bl false):=rfl
theorem fh4(o:Bool)(i:aw):isT (.lst o i) .non=.ok (.bl false):=rfl
theorem fv3(i:aw):isT (.tup i) .non=.ok (.bl false):=rfl
theorem di3:jO .non .non=.ok (.bl false):=rfl
theorem dw7(i:Int):jO (.int i) .non=.ok (.bl true):=rfl
theorem db5(o:Bool)(i:aw):jO (.lst o i) .non=.ok (.bl true):=rfl
theorem du4(i:aw):jO (.tup i) .non=.ok (.bl true):=rfl
theorem fe3(i j:Int):fI (.int i) (.int j)=.ok (.bl (i==j)):=rfl
theorem fm1(i j:Str):fI (.str i) (.str j)=.ok (.bl (i==j)):=rfl
theorem fw0(i j:Bool):fI (.bl i) (.bl j)=.ok (.bl (i==j)):=rfl
theorem fa2(n:Bool)(i j:Str):inT n (.str i) (.str j)=.ok (.bl (if n=true then !occ j i else occ j i)):=rfl
theorem du9(o:Bool)(ts:aw)(n:Int):aP (.lst o ts) (.int n)=match atI ts n with|some t=>.ok t|none=>.no:=rfl
theorem cs5(ts:aw)(n:Int):aP (.tup ts) (.int n)=match atI ts n with|some t=>.ok t|none=>.no:=rfl
theorem fm0(z:Str)(n:Int):aP (.str z) (.int n)=if z.length<=sizeLine then match atI z.cps.toList n with|some c=>.ok (.str ⟨#[c]⟩)|none=>.no else .no:=rfl
theorem fs5(o:Bool)(ts:aw)(lo hi:a_):nT (.lst o ts) lo hi=if bF ts=true then .ok (.lst true (eR ts lo hi))else .no:=rfl
theorem ft5(ts:aw)(lo hi:a_):nT (.tup ts) lo hi=if bF ts=true/\¬(HT.sIx ts.length 0 lo=0/\HT.sIx ts.length ts.length hi=ts.length)then .ok (.tup (eR ts lo hi))else .no:=rfl
theorem fh5(z:Str)(lo hi:a_):nT (.str z) lo hi=if z.length<=sizeLine then .ok (.str (Txt.slice z lo hi))else .no:=rfl
theorem fh2(z:Str):dU [.str z]=if z.length<=sizeLine then .ok (.int z.length)else .no:=rfl
theorem am5(o:Bool)(ts:aw):dU [.lst o ts]=.ok (.int ts.length):=rfl
theorem ff1(ts:aw):dU [.tup ts]=.ok (.int ts.length):=rfl
theorem fb4(i:Int):ap7 [.int i]=.ok (.int (if i<0 then -i else i)):=rfl
theorem cz8(i j:Int):ac6 [.int i,.int j]=gate (zV i j) (.ok (.tup [.int (i/j),.int (i%j)])):=rfl
def dd9(i:Int):am7 [.int i,.ty "int"]=.ok (.bl true):=Y4
def dd1(i:Int):am7 [.int i,.ty "bool"]=.ok (.bl false):=Y4
def dh9(i:aw):am7 [.tup i,.ty "tuple"]=.ok (.bl true):=Y4
def ds8(o:Bool)(i:aw):am7 [.lst o i,.ty "list"]=.ok (.bl true):=Y4
def cb6(a o:Bool)(bs:br):lU a [.lst o (bs.map .bl)]=.ok (.bl (if a=true then bs.any id else bs.all id)):=by simp only[lU,aa4]
theorem eo8(i j:Int):zW [.int i,.int j]=.ok (.int (if j>i then j else i)):=rfl
theorem fc0(i j:Int):mO [.int i,.int j]=.ok (.int (if j<i then j else i)):=rfl
def fl3(o:Bool)(n:Int)(ns:ah):zW [.lst o ((n::ns).map .int)]=.ok (.int (dt3 (n::ns))):=by simp only[zW,yH]
def fg4(o:Bool)(n:Int)(ns:ah):mO [.lst o ((n::ns).map .int)]=.ok (.int (ds3 (n::ns))):=by simp only[mO,yH]
def cg1(o:Bool)(ns:ah):uR [.lst o (ns.map .int)]=if ns.length<64 then .ok (.lst true ((ai2 ns).map .int))else .no:=by simp only[uR,yH]
theorem ec7(o:Bool)(ts:aw):kR [.lst o ts]=if bF ts=true then .ok (.lst true ts)else .no:=rfl
theorem ek8(ts:aw):kR [.tup ts]=if bF ts=true then .ok (.lst true ts)else .no:=rfl
def cr3(z:Str)(o:Bool)(ys:am):an1 (.str z) [.lst o (ys.map .str)]=if(ys.map (·.length)).sum+ys.length*z.length<=16777216 then .ok (.str (Txt.join z ys))else .no:=by simp only[an1,al4]
theorem fy0(o:Bool)(ts:aw):kO (.lst o ts)=if bF ts=true then .ok ts else .no:=rfl
theorem fi0(ts:aw):kO (.tup ts)=if bF ts=true then .ok ts else .no:=rfl
theorem fg2(z:Str):kO (.str z)=.ok (z.cps.toList.map λc=>T.str ⟨#[c]⟩):=rfl
def fk2(ts:aw):uM (.lst false ts)=if bF ts=true then .ok ts else .no:=by simp only[uM,S6,W1]
theorem ff0(ts:aw):uM (.tup ts)=if bF ts=true then .ok ts else .no:=rfl
theorem fu2(z:Str):uM (.str z)=.ok (z.cps.toList.map λc=>T.str ⟨#[c]⟩):=rfl
theorem aw5(j:Int):iW [.int j]=gate (-(2^62)<=j/\j<2^62) (.ok (fL 0 j.toNat)):=rfl
theorem fd3(i j:Int):cl7 [.int i,.int j]=gate (-(2^62)<=i/\i<2^62/\-(2^62)<=j/\j<2^62) (.ok (fL i (j-i).toNat)):=rfl
theorem fg0(b:Bool):ac0 (.bl b)=.ok b:=rfl
theorem fc1(b:Int):ac0 (.int b)=.ok (b !=0):=rfl
theorem fc4:ac0 .non=.ok false:=rfl
theorem fg1(o:Bool)(b:aw):ac0 (.lst o b)=.ok (!b.isEmpty):=rfl
theorem fz2(b:Bool):toB (.bl b)=.ok b:=rfl
theorem fu3(i:Int):toI (.int i)=.ok (some i):=rfl
theorem eO:∀{l:List α},(∀a∈l,d (U.set k (some (g a)))=.ok (f a))->cL (aJ k) cO d U (l.map g)=.ok (l.map f)
 |[],_=>rfl
 |a::l,h=>by simp only[B9,cL,aJ,cO,oQ,L9,h a A9,eO (λu hu=>h u (A5 _ hu))]
theorem al9:∀{l:List α},(∀a∈l,c (U.set k (some (g a)))=.ok (p a)/\(p a=true->d (U.set k (some (g a)))=.ok (f a)))->cL (aJ k) c d U (l.map g)=.ok ((l.filter p).map f)
 |[],_=>rfl
 |a::l,h=>by
  obtain⟨h1,h2⟩:=h a A9;have ih:=al9 (k:=k) (c:=c) (d:=d) (U:=U) (g:=g) (f:=f) (p:=p) (l:=l) (λu hu=>h u (A5 _ hu));cases hp:p a with
  |true=>simp only[B9,cL,aJ,h1,hp,h2 hp,oQ,L9,List.filter_cons,ih]
  |false=>simp only[B9,cL,aJ,h1,hp,oQ,O7,O2,List.filter_cons,ih]
theorem mL{lo:Int}{n i:Nat}{t:T}(h:(fL lo n)[i]?=some t):i<n/\t=.int (lo+i):=by
 unfold fL at h;rw[E3]at h;cases q:(List.range n)[i]? with
 |none=>rw[q]at h;cases h
 |some j=>rw[q]at h;obtain⟨h1,h2⟩:=C8.mp q;simp at h1 h2;subst h2;cases h;exact⟨h1,rfl⟩
def eC(lo:Int)(n:Nat):(fL lo n).length=n:=by simp[fL]
theorem mU{α:Type}{g:α->T}(h:∀a,cQ (g a)=true):∀l:List α,bF (l.map g)=true
 |[]=>rfl
 |a::l=>by simp only[B9,bF,h a,mU h l,J4]
theorem yE{α:Type}{g:α->T}(h:∀a,frz (g a)=g a):∀l:List α,frzs (l.map g)=l.map g
 |[]=>rfl
 |a::l=>by simp only[B9,frzs,h a,yE h l]
theorem kX{α:Type}{g:α->T}(h:∀a,cK (g a)=true):∀l:List α,dI (l.map g)=true
 |[]=>rfl
 |a::l=>by simp only[B9,dI,h a,kX h l,J4]
def qF(l:ah):bF (l.map T.int)=true:=mU Ao8 l
def oO(l:ah):frzs (l.map T.int)=l.map T.int:=yE Ao8 l
def lV(l:ah):dI (l.map T.int)=true:=kX Ao8 l
def lT(l:am):bF (l.map T.str)=true:=mU Ao8 l
def yS(l:am):frzs (l.map T.str)=l.map T.str:=yE Ao8 l
def zR(l:am):dI (l.map T.str)=true:=kX Ao8 l
def eb0(z:Str):z.length=z.cps.toList.length:=G5.symm
open L2
section
variable{Jn:iK}{K:A1}{cn:ac}{E:XK}
noncomputable def eQ(cs:am)(f:Str):T->Res T
 |.ins _ c ns ts=>if cs.contains c=true then match(ns.zip ts).lookup f with
  |some t=>.ok t
  |none=>.no else .no
 |_=>.no
def kZ(K:A1)(cn:ac)(cs:am)(f:Str):Prop:=∀c∈cs,∀C,cn c=some C->Cls K C/\NoAttr K C f
theorem Reps.lookup:∀(ns:am)(ts:aw){vs:a9}{A:ao},Reps K cn H Z ts vs A->(ns.zip ts).lookup f=some t->∃v B,(ns.zip vs).lookup f=some v/\Rep K cn H Z t v B
 |[],ts,_,_,_,e=>by simp at e
 |n::ns,[],_,_,_,e=>by simp at e
 |n::ns,u::ts,vs,A,r,e=>by
  simp only[Reps]at r;refine z43 r λv r' B C zz zy h1 h2=>?_;clear r;subst zz zy;rw[V0,G1]at e⊢;cases q:f==n with
  |true=>rw[q]at e;cases e;exact⟨v,B,rfl,h1⟩
  |false=>rw[q]at e;exact Reps.lookup ns ts h2 e
theorem Rep.insS(r:Rep K cn H Z (.ins o c ns ts) v B):∃a C dx vs D,v=.ref a/\cn c=some C/\H a=some (.ins C dx (ns.zip vs))/\ns.length=vs.length/\Reps K cn H Z ts vs D:=by
 cases o with
 |true=>simp only[Rep]at r;obtain⟨a,C,dx,vs,D,rfl,_,hc,e,l,r⟩:=r;exact⟨a,C,dx,vs,D,rfl,hc,e,l,r⟩
 |false=>simp only[Rep]at r;obtain⟨a,C,dx,vs,rfl,_,hc,e,_,l,r⟩:=r;exact⟨a,C,dx,vs,[],rfl,hc,e,l,r⟩
theorem ef6(hf:kZ K cn cs f)(ha:RB Jn K cn E ta a):RB Jn K cn E (dl3 K ta f) (dQ (eQ cs f) a):=λAs H Z U O F Q w=>by
 unfold dQ at w;refine ha As H Z U O F _ ?_;cases e:a U with
 |ok t=>
  rw[e]at w;intro v H1 Z1 B p;simp only[Res.bind]at w;unfold eQ at w;split at w
  . next o c ns ts=>
    split at w
    . next hc=>
      split at w
      . next t' h=>
        refine z54 p.rep.insS λq C dx vs D zz hC eq _ r=>?_;subst zz;refine z21 (Reps.lookup ns ts r h) λv' B' e3 rv=>?_;obtain⟨k1,k2⟩:=hf c (by simpa using hc) C hC;exact⟨q,C,dx,_,v',rfl,eq,k1,k2,e3,w v' H1 Z1 B' ⟨p.same,p.zz,p.zn,p.zi,rv⟩⟩
      . exact w.elim
    . exact w.elim
  . exact w.elim
 |_=>rw[e]at w;exact w
noncomputable def hV(f:Str):List Str->Option Nat
 |[]=>none
 |n::ns=>if n=f then some 0 else(hV f ns).map (· +1)
theorem cq3:∀(ns:am)(vs:a9){k:Nat},ns.length=vs.length->hV f ns=some k->mC f y (ns.zip vs)=ns.zip (vs.set k y)
 |[],_,_,_,h=>by simp[hV]at h
 |n::ns,[],_,l,_=>by simp at l
 |n::ns,w::vs,k,l,h=>by
  unfold hV at h;rw[V0,mC];by_cases q:n=f
  . rw[C7 q]at h;cases h;rw[C7 q];rfl
  . rw[D3 q,J7]at h;obtain⟨k',h1,rfl⟩:=h;rw[D3 q,cq3 ns vs (by simpa using l) h1];rfl
theorem bh9:∀(ns:am)(vs:a9),ns.length=vs.length->hV f ns=none->mC f y (ns.zip vs)=(ns++[f]).zip (vs++[y])
 |[],[],_,_=>rfl
 |[],w::vs,l,_=>by simp at l
 |n::ns,[],l,_=>by simp at l
 |n::ns,w::vs,l,h=>by
  unfold hV at h;rw[V0,mC];by_cases q:n=f
  . rw[C7 q]at h;cases h
  . rw[D3 q,Option.map_eq_none_iff]at h;rw[D3 q,bh9 ns vs (by simpa using l) h];rfl
def fn6(j:Nat)(cs:am)(f:Str)(d:bi):Fr->Res (List Nat):=λU=>(d U).bind λp=>match U[j]? with
 |some (some t0)=>match eY p t0 with
  |some (.ins o c ns ts)=>if(o&&cs.contains c)=true then match hV f ns with
   |some k=>if k<ts.length then .ok (p++[k])else .no
   |none=>.no else .no
  |_=>.no
 |_=>.no
def wK(j:Nat)(mv:ax)(cs:am)(f:Str)(e:a8)(d:bi):Fr->bR:=λU=>match e U with
 |.ok t=>match(kills mv U)[j]? with
  |some (some t0)=>match d (kills mv U)with
   |.ok p=>match eY p t0 with
    |some (.ins o c ns us)=>if(o&&cs.contains c&&decide (ns.length<1000))=true then match hV f ns with
     |some k=>if k<us.length then cm1 j p (.ins true c ns (us.set k t)) (kills mv U)else .no
     |none=>cm1 j p (.ins true c (ns++[f]) (us++[t])) (kills mv U)
     else .no
    |_=>.no
   |.ex x=>.ex x
   |.no=>.no
  |_=>.no
 |.ex x=>.ex x
 |.no=>.no
theorem ej5(hf:kZ K cn cs f)(he:RE Jn K cn E mv te e)(hd:RP Jn K cn E j to d):RS Jn K cn E (da4 K to te f) (wK j mv cs f e d):=λAs H Z U O F D w=>by
 unfold wK at w;refine he As H Z U O F _ ?_;cases ee:e U with
 |ok t=>
  rw[ee]at w;intro y H1 Z1 C p1;simp only at w;have F1:=(F.mo p1.mo).kills mv;cases e1:(kills mv U)[j]? with
  |none=>rw[e1]at w;exact w.elim
  |some o=>
   rw[e1]at w;cases o with
   |none=>exact w.elim
   |some t0=>
    obtain⟨v0,e2,r0⟩:=F1.sl.get e1;simp only at w;have ev1:Ev As H Z (gP mv As) H1 Z1:=⟨λb o q _=>p1.same b o q,λb hb=>.inl (gA hb),p1.zz,λb h=>(p1.zn b h).imp_right .inr,λb h=>p1.same.free h⟩;refine hd (gP mv As) H1 Z1 (kills mv U) O F1 t0 v0 e1 e2 r0 _ ?_;cases ed:d (kills mv U)with
    |ok p=>
     rw[ed]at w;intro u v B H2 Z2 m2 hn pl;simp only[hn]at w;split at w
     . next o c ns us hq=>
       cases hq;split at w
       . next hc=>
         rw[E4,E4]at hc;obtain⟨⟨rfl,hc⟩,hl⟩:=hc;have hl:=of_decide_eq_true hl;have q:=pl.rep;simp only[Rep]at q;refine z55 q λa C' dx ws C0 zz zy hC ea l rs=>?_;clear q;subst zz zy;have rt:Rep K cn H2 Z2 t y C:=p1.rep.same m2.same m2.zz;have F2:=F1.mo m2;have lw:=Reps.length us rs;obtain⟨k1,k2⟩:=hf c (by simpa using hc) C' hC;refine⟨a,C',dx,_,rfl,ea,k1,k2,by rw[List.length_zip];omega,?_⟩;have ndB:(a::C0).Nodup:=(mD F1.nd j).sublist pl.sub;have cA:∀x∈C0,x∈(gP mv As).getD j []:=λx hx=>pl.sub.mem (A5 _ hx);have cOut:=p1.out F;have cz:∀x∈C,¬Z2 x:=λx hx z=>by
          rcases m2.zn x z with z|z
          . exact p1.bz x hx z
          . obtain⟨o,ho,_⟩:=p1.rep.dom t x hx;rw[ho]at z;cases z
         cases ek:hV f ns with
         |none=>
          rw[ek]at w;rw[bh9 ns ws l ek];refine bb3 (As:=As) (H:=H) (Z:=Z) (E:=E) F2 e1 e2 pl rfl rfl ea rfl (u':=.ins true c (ns++[f]) (us++[t])) (C:=C0++C) (λaC aZ=>?_) ?_ ?_ ?_ (ev1.trans m2.ev) ?_ w
          . simp only[Rep];exact⟨a,C',dx,ws++[y],C0++C,rfl,rfl,hC,fR,by simp[l],(Reps.append us rs (Reps.one rt)).upd ea rfl aC aZ⟩
          . rw[C9];exact⟨(E7.mp ndB).2,p1.nd,λx hx z hz e=>by subst e;exact cOut x hz (bB (cA x hx))⟩
          . intro x hx;rcases A6.mp hx with hx|hx
            . exact F2.nz x (bB (cA x hx))
            . exact cz x hx
          . intro x hx hA;rcases A6.mp hx with hx|hx
            . exact hx
            . exact D8 hA (cOut x hx)
          . intro x hx;rcases A6.mp hx with hx|hx
            . exact .inl (gA (bB (cA x hx)))
            . exact p1.inA x hx
         |some k=>
          rw[ek]at w;simp only at w;split at w
          . next hk=>
            rw[cq3 ns ws l ek];refine z31 (Reps.put rt us rs hk) λB1 Bo B2 zz rs'=>?_;subst zz;have i1:∀x∈B1,x∈B1++Bo++B2:=λx hx=>C6 _ (C6 _ hx);have i2:∀x∈B2,x∈B1++Bo++B2:=λx hx=>B5 _ hx;have nd1:=(E7.mp ndB).2;rw[J0,C9]at nd1;obtain⟨n1,n2,n3⟩:=nd1;rw[C9]at n2;refine bb3 (As:=As) (H:=H) (Z:=Z) (E:=E) F2 e1 e2 pl rfl rfl ea rfl (u':=.ins true c ns (us.set k t)) (C:=B1++C++B2) (λaC aZ=>?_) ?_ ?_ ?_ (ev1.trans m2.ev) ?_ w
            . simp only[Rep];exact⟨a,C',dx,ws.set k y,B1++C++B2,rfl,rfl,hC,fR,by simp[l],rs'.upd ea rfl aC aZ⟩
            . rw[J0,C9];refine⟨n1,?_,λx hx z hz e=>?_⟩
              . rw[C9];exact⟨p1.nd,n2.2.1,λx hx z hz e=>by subst e;exact cOut x hx (bB (cA x (i2 x hz)))⟩
              . subst e;rcases A6.mp hz with hz|hz
                . exact cOut x hz (bB (cA x (i1 x hx)))
                . exact n3 x hx x (B5 _ hz) rfl
            . intro x hx;rcases A6.mp hx with hx|hx
              . rcases A6.mp hx with hx|hx
                . exact F2.nz x (bB (cA x (i1 x hx)))
                . exact cz x hx
              . exact F2.nz x (bB (cA x (i2 x hx)))
            . intro x hx hA;rcases A6.mp hx with hx|hx
              . rcases A6.mp hx with hx|hx
                . exact i1 x hx
                . exact D8 hA (cOut x hx)
              . exact i2 x hx
            . intro x hx;rcases A6.mp hx with hx|hx
              . rcases A6.mp hx with hx|hx
                . exact .inl (gA (bB (cA x (i1 x hx))))
                . exact p1.inA x hx
              . exact .inl (gA (bB (cA x (i2 x hx))))
          . exact w.elim
       . exact w.elim
     . exact w.elim
    |ex x=>rw[ed]at w;exact WpX.ev w ev1
    |no=>rw[ed]at w;exact w
 |_=>rw[ee]at w;exact w
def spI(K:A1)(cn:ac)(c:Str)(n:Nat)(G:bc):Sp:=λvs H Q E=>vs.length=n+1/\∃x C dx us ts Z,vs=.ref x::us/\cn c=some C/\H x=some (.ins C dx [])/\¬Z x/\(∀a,Z a->H a≠none)/\Reps K cn H Z ts us []/\
 match G ts with
 |.ok t=>∀H' Z' B,Ev [[x]] H Z [B] H' Z'->Rep K cn H' Z' t (.ref x) B->B.Nodup->(∀b∈B,¬Z' b)->(∀a,Z' a->H' a≠none)->Q .non H'
 |.ex e=>WpX K cn E [[x]] H Z e
 |.no=>False
theorem ei2(hc:cn c=some C)(ha:wN Jn K cn E ta a):RE Jn K cn E [] (cs6 C (spI K cn c n G) [] E' ta) (aW n G a):=λAs H Z U O F Q w=>by
 unfold aW at w;refine ha As H Z U O F _ ?_;cases e:a U with
 |ok ts=>
  rw[e]at w;intro vs H1 Z1 B m r1 x dx hx hdx hne;simp only[Res.bind]at w;split at w
  . next hn=>
    have hs:Same H1 (L2.upd (L2.upd H1 dx (.own x)) x (.ins C dx [])):=λb u q=>by rw[cE (hU q hx),cE (hU q hdx)];exact q
    refine⟨by simp[Reps.length ts r1,hn],x,C,dx,vs,frzs ts,(λa=>Z1 a\/a∈B),Y1,hc,by rw[fR],λh=>?_,λa h=>?_,(Reps.frz ts r1 (λa h=>.inl h) (λa h=>.inr h)).same hs (λ_ h=>h),?_⟩
    . rcases h with h|h
      . exact m.zi x h hx
      . obtain⟨o,q,_⟩:=Reps.dom ts r1 x h;rw[hx]at q;cases q
    . intro q;have q':=hs.free q;rcases h with h|h
      . exact m.zi a h q'
      . obtain⟨o,q2,_⟩:=Reps.dom ts r1 a h;rw[q2]at q';cases q'
    cases e2:G (frzs ts)with
    |ok t=>
     rw[e2]at w;intro H2 Z2 C2 ev r2 nd bz zi2;refine⟨rfl,?_⟩;simp only at w;have sm:Same H1 H2:=λb u q=>ev.keep b u (hs b u q) (by simpa using hU q hx);have bn:∀b∈C2,H1 b=none:=λb hb=>by
      rcases ev.own b (by simpa using hb)with q|q
      . have:b=x:=by simpa using q
        rw[this];exact hx
      . exact hs.free q
     split at w
     . next hcl=>
       rw[U6]at hcl;by_cases hcl':cK t=true
       . refine w _ H2 Z1 C2 ⟨m.same.trans sm,m.zz,λa h=>m.zn a h,λa h q=>m.zi a h (sm.free q),Rep.any t hcl' r2,nd,λb hb z=>m.zi b z (bn b hb),λb hb=>.inl (m.same.free (bn b hb))⟩
       . have hno:=hcl.resolve_left hcl';have hB:=Reps.bare ts hno r1;subst hB;refine w _ H2 Z2 C2 ⟨m.same.trans sm,λa h=>ev.zz a (.inl (m.zz a h)),λa h=>?_,zi2,r2,nd,bz,λb hb=>.inl (m.same.free (bn b hb))⟩;rcases ev.zn a h with(h|h)|h|h
         . exact m.zn a h
         . cases h
         . have:a=x:=by simpa using h
           rw[this];exact .inr (m.same.free hx)
         . exact .inr (m.same.free (hs.free h))
     . exact w.elim
    |_=>rw[e2]at w;exact w.elim
  . exact w.elim
 |_=>rw[e]at w;exact w
noncomputable def mV:bR->Res T
 |.nx U=>match U[0]? with
  |some (some t)=>.ok t
  |_=>.no
 |.ex x=>.ex x
 |_=>.no
theorem dc7{CX:xQ}{Y:Value->G0->List Env->B0->Hp->XK->Cx}{c:Str}{P:E2}{w:World}{mg:aa}{base:Heap}{qual:Str}{st:Stmt}{f:Addr}{fd:FuncData}{N ps:am}{k:Nat}{d:Fr->bR}(ok:∀sp:Sp,(∀vs H Q E,sp vs H Q E->vs.length=ps.length)->(∀(cdv:Value)(A:G0)(outer:bg)(s:B0)(H:Hp)(vs:a9)(Q:VK)(E:XK),Room k (A.deeper (envOfC qual (aL st) s.heap.objs.size f cdv))->sp vs H Q E->
 ∃t,PSs (Y cdv A outer s H E) (cP st) t/\t {nx:=λ_ H'=>Q .non H',rt:=Q} (start N vs) H)->FnOk P w K mg base CX (k+1) f fd ps sp)
 (hbody:∀(y:Addr)(cdv:Value)(A:G0)(outer:bg)(s:B0)(H:Hp)(E:XK),Room k (A.deeper (envOfC qual (aL st) s.heap.objs.size f cdv))->
  ∃t,PSs (Y cdv A outer s H E) (cP st) t/\RS [(0,.ref y)] K cn E t d){n:Nat}{G:bc}(hn:ps.length=n+1)(hG:∀ts,G ts=mV (d (bZ N.length (.ins true c [] []::ts)))):FnOk P w K mg base CX (k+1) f fd ps (spI K cn c n G):=by
 have eG:G=λts=>mV (d (bZ N.length (.ins true c [] []::ts))):=funext hG;subst eG;refine ok _ (λvs H Q E h=>by rw[hn];exact h.1) λcdv A outer s H vs Q E hr h=>?_;obtain⟨hl,y,C,dx,us,ts,Z,rfl,hC,hy,hZ,zi,r,w⟩:=h;obtain⟨t,hp,ht⟩:=hbody y cdv A outer s H E hr;refine⟨t,hp,?_⟩;have lt:=Reps.length ts r;have ry:Rep K cn H Z (.ins true c [] []) (.ref y) [y]:=by simp only[Rep,Reps];exact⟨y,C,dx,[],[],rfl,rfl,hC,hy,rfl,rfl,rfl⟩
 let m:=N.length-(ts.length+1);have sl:Slots K cn H Z (bZ N.length (.ins true c [] []::ts)) (L2.start N (.ref y::us)) ([y]::List.replicate (ts.length+m) []):=by
  unfold bZ L2.start;refine⟨some (.ref y),us.map some++List.replicate m none,[y],_,?_,rfl,⟨_,rfl,ry⟩,?_⟩
  . simp only[B9,List.length_cons,lt,List.cons_append];rfl
  . exact ah4 ts r
 have fl:([y]::List.replicate (ts.length+m) []).flatten=[y]:=by rw[B8,mT];rfl
 have F0:Frm [(0,.ref y)] K cn H Z (bZ N.length (.ins true c [] []::ts)) (L2.start N (.ref y::us)) ([y]::List.replicate (ts.length+m) []):=
  ⟨sl,by rw[fl];simp,by rw[fl];intro a ha;have:a=y:=(by simpa using ha);rw[this];exact hZ,zi,λp hp=>by rw[C3]at hp;subst hp;rfl⟩
 refine ht _ H Z _ _ F0 _ ?_;cases ed:d (bZ N.length (.ins true c [] []::ts))with
 |nx U=>
  simp only[ed,mV]at w;intro σ' As' H' Z' F' ev;cases e0:U[0]? with
  |none=>rw[e0]at w;exact w.elim
  |some o=>
   rw[e0]at w;cases o with
   |none=>exact w.elim
   |some t0=>
    simp only at w;obtain⟨v,e1,r1⟩:=F'.sl.get e0;have e2:=F'.pn (0,.ref y) (C3.mpr rfl);simp only at e2;rw[e1]at e2;cases e2;refine w H' Z' (As'.getD 0 []) ⟨λa o h q=>ev.keep a o h (by rw[fl];simpa using q),λa ha=>?_,ev.zz,λa h=>?_,ev.dom⟩ r1 (mD F'.nd 0) (λb hb=>F'.nz b (bB hb)) F'.zi
    . have q:=ev.own a (bB (i:=0) (by simpa using ha));rw[fl]at q;simpa using q
    . have q:=ev.zn a h;rw[fl]at q;simpa using q
 |ex e=>simp only[ed,mV]at w;exact WpX.ev w ⟨λ_ _ q _=>q,λa ha=>(by rw[fl]at ha;exact .inl (by simpa using ha)),λ_ h=>h,λ_ h=>.inl h,λ_ h=>h⟩
 |_=>simp only[ed,mV]at w
def ep2{c:Str}{P:E2}{w:World}{mg:aa}{base:Heap}{x qual:Str}{st:Stmt}{f:Addr}{fd:FuncData}{N ps:am}{k:Nat}{d:Fr->bR}(F:Fun K x qual st f fd)(S:aV N ps (aL st))
 (hbody:∀(y:Addr)(cdv:Value)(A:G0)(outer:bg)(s:B0)(H:Hp)(E:XK),Room k (A.deeper (envOfC qual (aL st) s.heap.objs.size f cdv))->
  ∃t,PSs (kQ kS P w K mg base N qual (aL st) f cdv A outer s H E).nox (cP st) t/\RS [(0,.ref y)] K cn E t d){n:Nat}{G:bc}(hn:ps.length=n+1)(hG:∀ts,G ts=mV (d (bZ N.length (.ins true c [] []::ts)))):FnOk P w K mg base kS (k+1) f fd ps (spI K cn c n G):=dc7 (λsp len hb=>F.ok S len hb) hbody hn hG
end
end TL
namespace L2
structure jF (P:E2) (w:World) (K:A1) (mg:aa) (base:Heap) (k:Nat) (C:Addr) (m:Str) (sp:Sp):Prop where
 ex:∃f fd ps,Cls K C/\dk3 K C m f/\FnOk P w K mg base kS k f fd ps sp/\Binds K fd ps []
structure Mak (P:E2) (w:World) (K:A1) (mg:aa) (base:Heap) (k:Nat) (x:Str) (C:Addr) (sp:Sp):Prop where
 ex:∃f fd ps,Mk K C f/\FnOk P w K mg base kS k f fd ps sp/\mg x=some (.ref C)/\Binds K fd ps []
def bg8(tab:List (Addr×Sp))(m:Str)(ta:TE)(t:TA):TE:=λO H Q=>ta O H λx H1=>∃a C dx fs sp,x=.ref a/\H1 a=some (.ins C dx fs)/\(C,sp)∈tab/\fs.lookup m=none/\t O H1 λvs H2=>sp (x::vs) H2 Q E0
section
variable{X:Cx}
def df5(he:PE X o ta)(hT:∀q∈tab,jF X.prog X.w X.K X.mg X.base k q.1 m q.2)(hr:Room k X.A)(ha:PA X (e::es) t)
 (hst:autoParam (starEach (e::es) X.env=(false,eval e X.env)::starEach es X.env) Z8)(hpl:autoParam ((backTo pos (starEach es X.env)).any (·.1)=false) Z8)
 (ht:eval (.Call (.Attribute o m apos) (e::es) [] pos) X.env=(do
  let ov<-eval o X.env
  standAt apos.atName
  let(f,first)<-holding [ov] (getMethod ov m pl)
  callWith pos f first (backTo pos (starEach (e::es) X.env)) (backToKw pos (keywordEach [] X.env))):=by rfl):
 PE X (.Call (.Attribute o m apos) (e::es) [] pos) (bg8 tab m ta t):=by
 intro ζ s O H Q I h;refine PySem.W.methodCall_KW (pl:=pl) (jE (he s O H _ I h) λu s1 x H1 I1 rx qq=>?_) ht;refine z54 qq λa C dx fs sp ex ea hq l q=>?_;subst ex;obtain rfl:u=Value.ref a:=rx;refine z33 ((hT _ hq).ex) λf fd ps c hm F hb=>?_;refine ab9 I1 ea c hm l ?_;refine R4 (first:=[.ref a]) (h₀:=X.base) I.ok.mod.kin hm.kp (wP (ha ζ s1 O H1 _ I1 q) λus s2 vs H2 I2 r q2=>⟨I2.kIn,?_⟩) hst hpl;exact bt0 (us:=.ref a::us) (vs:=.ref a::vs) F hr hb .nil ax9 I2 (.cons rfl r) (by rw[K0];exact q2)
def zJ(he:PE X o ta)(hT:∀q∈tab,jF X.prog X.w X.K X.mg X.base k q.1 m q.2)(hr:Room k X.A)
 (ht:eval (.Call (.Attribute o m apos) [] [] pos) X.env=(do
  let ov<-eval o X.env
  standAt apos.atName
  let(f,first)<-holding [ov] (getMethod ov m pl)
  callWith pos f first (backTo pos (starEach [] X.env)) (backToKw pos (keywordEach [] X.env))):=by rfl):
 PE X (.Call (.Attribute o m apos) [] [] pos) (bg8 tab m ta xZ):=by
 intro ζ s O H Q I h;refine PySem.W.methodCall_KW (pl:=pl) (jE (he s O H _ I h) λu s1 x H1 I1 rx qq=>?_) ht;refine z54 qq λa C dx fs sp ex ea hq l q=>?_;subst ex;obtain rfl:u=Value.ref a:=rx;refine z33 ((hT _ hq).ex) λf fd ps c hm F hb=>?_;refine ab9 I1 ea c hm l ?_;exact PySem.W.callWith_K0 (first:=[.ref a]) I1.kIn hm.kp (bt0 (us:=[.ref a]) (vs:=[.ref a]) F hr hb .nil ax9 I1 (.cons rfl .nil) q)
def sP(d:Mak X.prog X.w X.K X.mg X.base k x C sp)(hr:Room (k+1) X.A)(ha:PA X (e::es) t)(hg:autoParam (Gl X x) Z8)
 (hdb:autoParam ((x==("__debug__":Str))=false) Z6)(he:autoParam (starEach (e::es) X.env=(false,eval e X.env)::starEach es X.env) Z8)(hpl:autoParam ((backTo pos (starEach es X.env)).any (·.1)=false) Z8):
 PE X (.Call (.Name x p) (e::es) [] pos) (cs6 C sp [] E0 t):=by
 refine z33 d.ex λf fd ps M F hm hb=>?_;exact ec2 M F hr hg hm hb .nil ax9 ha hdb he hpl
end
end L2
namespace TL
open L2
section
variable{Jn:iK}{K:A1}{cn:ac}{E:XK}
def tD(n:Nat)(G:bc)(ts:aw):Res T:=if ts.length=n then match G (frzs ts)with
 |.ok t=>if(cK t||bF ts)=true then .ok t else .no
 |_=>.no else .no
def au7(m:Mo H Z H1 Z1)(r1:Reps K cn H1 Z1 ts vs B)(w:WpE K cn E As H Z [] Q (tD n G ts)):bK K cn n G vs H1 Q E':=by
 unfold tD at w;split at w
 . next hn=>
   refine⟨by rw[Reps.length ts r1,hn],frzs ts,(λa=>Z1 a\/a∈B),λa h=>?_,Reps.frz ts r1 (λa h=>.inl h) (λa h=>.inr h),?_⟩
   . rcases h with h|h
     . exact m.zi a h
     . obtain⟨o,q,_⟩:=Reps.dom ts r1 a h;rw[q];exact(λz=>nomatch z)
   cases e2:G (frzs ts)with
   |ok t=>
    rw[e2]at w;intro v H2 Z2 C p;simp only at w;split at w
    . next hc=>
      rw[U6]at hc;have bn:∀b∈C,H1 b=none:=λb hb=>(p.bn b hb).resolve_right (λ⟨i,hi,_⟩=>by cases hi);by_cases hcl:cK t=true
      . refine w v H2 Z1 C ⟨m.same.trans p.same,m.zz,λa h=>m.zn a h,λa h=>?_,Rep.any t hcl p.rep,p.nd,λb hb z=>?_,λb hb=>.inl (m.same.free (bn b hb))⟩
        . intro q;exact m.zi a h (p.same.free q)
        . exact m.zi b z (bn b hb)
      . have hno:=hc.resolve_left hcl;have hB:=Reps.bare ts hno r1;subst hB;refine w v H2 Z2 C ⟨m.same.trans p.same,λa h=>p.zz a (.inl (m.zz a h)),λa h=>?_,p.zi,p.rep,p.nd,p.bz,λb hb=>.inl (m.same.free (bn b hb))⟩;rcases p.zn a h with(h|h)|h
        . exact m.zn a h
        . cases h
        . exact .inr (m.same.free h)
    . exact w.elim
   |_=>rw[e2]at w;exact w.elim
 . exact w.elim
theorem au6:∀(ns:am)(vs:a9),hV f ns=none->(ns.zip vs).lookup f=none
 |[],_,_=>by simp
 |n::ns,[],_=>by simp
 |n::ns,w::vs,h=>by
  unfold hV at h;rw[V0,G1];by_cases q:n=f
  . rw[C7 q]at h;cases h
  . rw[D3 q,Option.map_eq_none_iff]at h;rw[show(f==n)=false from by rw[G3];exact λz=>q z.symm];exact au6 ns vs h
def jS(n:Nat)(m:Str)(tabs:List (Str×(List T->Res T)))(o:a8)(r:ay):Fr->Res T:=λU=>(o U).bind λt=>match t with
 |.ins _ c ns _=>match hV m ns with
  |none=>match tabs.lookup c with
   |some G=>(r U).bind λts=>tD n G (t::ts)
   |none=>.no
  |some _=>.no
 |_=>.no
def ar3(K:A1)(cn:ac)(n:Nat)(tabs:List (Str×(List T->Res T)))(tab:List (Addr×Sp)):Prop:=∀c G C,tabs.lookup c=some G->cn c=some C->(C,bK K cn n G)∈tab
theorem dd3(hT:ar3 K cn n tabs tab)(ho:RB Jn K cn E to o)(ha:wN Jn K cn E ta a):RE Jn K cn E [] (bg8 tab m to ta) (jS n m tabs o a):=λAs H Z U O F Q w=>by
 unfold jS at w;refine ho As H Z U O F _ ?_;cases e:o U with
 |ok t=>
  rw[e]at w;intro v H1 Z1 B p;simp only[Res.bind]at w;split at w
  . next ow c ns us=>
    split at w
    . next hm=>
      split at w
      . next G hG=>
        refine z54 p.rep.insS λq C dx vs D zz hC eq _ r=>?_;subst zz;refine⟨q,C,dx,_,bK K cn n G,rfl,eq,hT c G C hG hC,au6 ns vs hm,ha As H1 Z1 U O (F.mo p.mo) _ ?_⟩;cases e2:a U with
        |ok ts=>rw[e2]at w;intro ws H2 Z2 D2 m2 r2;refine au7 (As:=As) (E:=E) (p.mo.trans m2) (ts:=.ins ow c ns us::ts) (B:=B++D2) ?_ w;simp only[Reps];exact⟨_,ws,B,D2,rfl,rfl,p.rep.same m2.same m2.zz,r2⟩
        |ex x=>rw[e2]at w;exact WpX.ev w p.mo.ev
        |no=>rw[e2]at w;exact w
      . exact w.elim
    . exact w.elim
  . exact w.elim
 |_=>rw[e]at w;exact w
end
end TL
namespace L2
section
variable{X:Cx}(K:A1)
end
end L2
namespace TL
open L2
section
variable{Jn:iK}{K:A1}{cn:ac}{E:XK}{As:af}{H:Hp}{Z:av}{Q:VK}
end
end TL
namespace L2
section
variable{X:Cx}
def dv8:TS:=λ_ _ _=>False
def nO{st:Stmt}:PS X st dv8:=λ_ _ _ _ _ _ h=>h.elim
def ch4:V->List V->Hp->VK->Prop:=λx vs H Q=>∃l xs i y,x=.ref l/\vs=[.int i,y]/\H l=some (.lst xs)/\0<=i/\i.toNat<=xs.length/\xs.length<sizeLine/\Q .non (upd H l (.lst (xs.take i.toNat++y::xs.drop i.toNat)))
def ck0(K:A1)(n:Nat):V->List V->Hp->VK->Prop:=λx vs H Q=>∃p ys y,x=.ref p/\vs=[y]/\SqL K H p ys/\∃(es:br)(j:Nat),es.length=ys.length/\(∀(j:Nat) z e,ys[j]?=some z->es[j]?=some e->EqD K H n z y e)/\es[j]?=some true/\(∀m,m<j->es[m]?=some false)/\Q (.int j) H
def dv4(K:A1)(n:Nat):R2:=λx y H Q=>rNe x y H Q\/(∃p q b,x=.ref p/\y=.ref q/\EqD K H n x y b/\Q (.bl (!b)) H)
def ey9(hu:X.A.units+n<cLine):OpR X (compareOp .NotEq) (dv4 X.K n):=by
 intro ζ s O H x y v u Q I rx ry h;rcases h with h|⟨p,q,b,rfl,rfl,h,hq⟩
 . exact fw3 s O H x y v u Q I rx ry h
 . cases rx;cases ry;have bP:EP X ζ O Q (.bool (!b)) s:=⟨.bl (!b),H,I,rfl,hq⟩;cases n with
   |zero=>exact D8 h.1 (λz=>by cases z)
   |succ n=>
    rcases h with⟨h1,_,_⟩|⟨p,q,xs,ys,e1,e2,s1,s2,h⟩|⟨p,q,xs,ys,e1,e2,s1,s2,es,hl,he,rfl⟩
    . exact D8 h1 (λz=>by cases z)
    . cases e1;cases e2;refine z12 (I.list s1) λits r1 p1 _=>?_;refine z12 (I.list s2) λjts r2 p2 _=>?_;have l1:=r1.length;have l2:=r2.length;rcases h with⟨hne,rfl⟩|⟨heq,es,hl,he,rfl⟩
      . exact SeqAt.RcNeAt.lists_lengths p1.isList p2.isList (by simp only[A8,bne_iff_ne,ne_eq];omega) X8 _ _ _ _ bP
      . refine SeqAt.RcNeAt.lists (e:=λj=>es.getD j true) p1.isList p2.isList (by simp only[A8];omega) X8 (λj h1 h2=>?_) _ _ _ _ ?_
        . simp only[A8]at h1 h2;simp only[List.getElem_toArray];obtain⟨x,ex,rx⟩:=iJ r1 h1;obtain⟨y,ey,ry⟩:=iJ r2 h2;have hj:j<es.length:=X8
          have eg:es.getD j true=es[j]:=by rw[A4,A2 hj];rfl
          rw[eg];exact oF I n (by show X.A.units+1+n<cLine;omega) rx ry (he j x y es[j] ex ey (A2 hj))
        . rw[A8,show its.length=es.length by omega,uT];exact bP
    . cases e1;cases e2;refine z12 (I.tuple s1) λits r1 p1 _=>?_;refine z12 (I.tuple s2) λjts r2 p2 _=>?_;have l1:=r1.length;have l2:=r2.length;refine SeqAt.RcNeAt.tuples (e:=λj=>es.getD j true) (show s.heap.IsTuple _ its.toArray from p1) (show s.heap.IsTuple _ jts.toArray from p2) X8 (λj h1 h2=>?_) _ _ _ _ ?_
      . simp only[A8]at h1 h2;simp only[List.getElem_toArray];obtain⟨x,ex,rx⟩:=iJ r1 h1;obtain⟨y,ey,ry⟩:=iJ r2 h2;have hj:j<es.length:=X8
        have eg:es.getD j true=es[j]:=by rw[A4,A2 hj];rfl
        rw[eg];exact oF I n (by show X.A.units+1+n<cLine;omega) rx ry (he j x y es[j] ex ey (A2 hj))
      . simp only[A8];rw[show min its.length jts.length=es.length by omega,uT,<-l1,<-l2];exact bP
def sQ(K:A1)(hr:Room k X.A)(hn:autoParam (n<=60) Z6)(hK:autoParam (X.K=K) Z8):OpR X (compareOp .NotEq) (dv4 K n):=by subst hK;exact ey9 (R5 (Nat.add_le_add_left (J2 hn Y2) _) hr.units)
def dm1:MtM X "list.insert" ch4:=by
 intro ζ s O H x vs v us Q I rx rv h;refine z46 h λl xs i y zz zy hH h0 h1 hz q=>?_;clear h;subst zz zy;cases rx;refine z22 rv.two λu u' zz ru ru'=>?_;subst zz;obtain⟨t,rfl⟩:=ru;obtain⟨z,its,n,r,hl,e⟩:=I.lstM hH;have hfit:¬(!Builtin.List.listFitsIndex i)=true:=by rw[fitsIndex_both X8 (by have:xs.length<2^62:=Nat.lt_trans hz Y2;omega)];decide
 refine U8 F.slot_list_insert ⟨_,e,rfl⟩ F.entry_list_insert (F.args_list_insert_3 _ _ _) (AutoSeq1.list_insert_list_int_val_1 l its.toArray n i t u' hfit (by rw[A8];omega)) ⟨e,?_⟩;refine⟨.non,_,I.lset (its':=its.take i.toNat++u'::its.drop i.toNat) hH e ?_ ((r.take i.toNat).append (.cons ru' (r.drop i.toNat))) ?_,rfl,q⟩
 . have hn:¬i<0:=X8
   simp only[hn,O2,A8,W8 (show i.toNat<=its.length by omega)];apply Array.toList_inj.mp;simp[List.take_append,List.drop_eq_nil_of_le];exact S4 Y1
 . simp;omega
def da6(hu:X.A.units+n+1<cLine):MtR X "list.index" (ck0 X.K n):=by
 intro ζ s O H x vs v us Q I rx rv h;obtain⟨p,ys,y,rfl,rfl,hq,es,j,hl,he,hj,hno,q⟩:=h;cases rx;obtain⟨u,rfl,ru⟩:=rv.one;refine z12 (I.list hq) λits r pl hz=>?_;have l1:=r.length;obtain⟨f,hf,_⟩:=an9 I r hl he;have at_:∀(m:Nat)(hm:m<its.length) b,es[m]?=some b->f its[m]=b:=λm hm b eb=>by obtain⟨z,ez,rz⟩:=iJ r hm;obtain⟨z',rz',d⟩:=hf its[m] (L8 hm);cases rz.inj rz';exact EqD.det I n _ _ _ _ d (he m z b ez eb)
 have hjl:j<its.length:=by have:=(C8.mp hj).1;omega
 obtain⟨⟨oc,od,odt,osl⟩,n0,ho,hc,hd,hdt⟩:=pl;simp only at hc hd hdt;subst hc hd hdt;refine U8 F.slot_list_index ⟨_,ho,rfl⟩ F.entry_list_index (F.args_list_index_2 _ _) (SeqAt.list_indexAt p its.toArray n0 none osl u f j (by simpa using hjl) ?_ ?_ ?_) ⟨ho,λy hy=>?_,?_⟩
 . have:j<2^62:=E5 hjl (by rw[<-l1];exact J2 hz Y2);omega
 . simpa using at_ j hjl true hj
 . intro m hm hmj;simpa using at_ m (by simpa using hm) false (hno m hmj)
 . obtain⟨z,rz,d⟩:=hf y (by simpa using hy);exact oF I n (by show X.A.units+1+n<cLine;omega) rz ru d
 . exact⟨.int j,H,I.tok _,⟨_,rfl⟩,q⟩
end
end L2
namespace TL
open L2
section
variable{Jn:iK}{K:A1}{cn:ac}{E:XK}
def qQ:Fr->bR:=λ_=>.no
def eq1:RS Jn K cn E dv8 qQ:=λ_ _ _ _ _ _ _ w=>w.elim
def cw5(K:A1)(cn:ac)(r:bh)(f:c_):Prop:=
 ∀(H:Hp)(Z:av)(a:Addr)(us ts us':aw)(ws vs:a9)(C0 C:ao),H a=some (.lst ws)->Reps K cn H Z us ws C0->Reps K cn H Z ts vs C->(C0++C).Nodup->f us ts=some us'->
  ∃ws' D,Reps K cn H Z us' ws' D/\D.Nodup/\(∀x∈D,x∈C0\/x∈C)/\∀Q:VK,(∀y,Q y (L2.upd H a (.lst ws')))->r (.ref a) vs H Q
def yC(j:Nat)(mv:ax)(f:c_)(d:bi)(e:ay):Fr->bR:=λU=>match U[j]? with
 |some (some t0)=>match d U with
  |.ok p=>match eY p t0 with
   |some (.lst true us)=>match e U with
    |.ok ts=>match f us ts with
     |some us'=>zP j p us' (kills mv U)
     |none=>.no
    |.ex x=>.ex x
    |.no=>.no
   |_=>.no
  |.ex x=>.ex x
  |.no=>.no
 |_=>.no
theorem ea6(hr:cw5 K cn r f)(hd:RP Jn K cn E j to d)(he:RA Jn K cn E mv ta e)(hj:autoParam (mv.contains j=false) Z8):RS Jn K cn E (bu7 (tBM K "list" r to ta)) (yC j mv f d e):=λAs H Z U O F D w=>by
 unfold yC at w;cases e1:U[j]? with
 |none=>rw[e1]at w;exact w.elim
 |some o=>
  rw[e1]at w;cases o with
  |none=>exact w.elim
  |some t0=>
   obtain⟨v0,e2,r0⟩:=F.sl.get e1;refine hd As H Z U O F t0 v0 e1 e2 r0 _ ?_;simp only at w;cases ed:d U with
   |ok p=>
    rw[ed]at w;intro u v B H1 Z1 m1 hn pl;simp only[hn]at w;split at w
    . next us hq=>
      cases hq;have q:=pl.rep;simp only[Rep]at q;refine z33 q λa ws C0 zz zy ea rs=>?_;clear q;subst zz zy;refine⟨.inl ⟨rfl,ws,SqL.of ea⟩,he As H1 Z1 U O (F.mo m1) _ ?_⟩;cases ee:e U with
      |ok ts=>
       rw[ee]at w;intro vs H2 Z2 C p2;simp only at w;cases ef:f us ts with
       |none=>rw[ef]at w;exact w.elim
       |some us'=>
        rw[ef]at w;simp only at w;have pl2:=pl.mo p2.mo.same p2.mo.zz;have ea2:=p2.mo.same _ _ ea;have rs2:=rs.same p2.mo.same p2.mo.zz;have m2:=m1.trans p2.mo;have F2:=(F.mo m2).kills mv;have gD:(gP mv As).getD j []=As.getD j []:=ah1 mv hj As;have pl3:Plug K cn H2 Z2 t0 v0 ((gP mv As).getD j []) p (.lst true us) (.ref a) (a::C0):=by rw[gD];exact pl2
        have ndB:(a::C0).Nodup:=(mD F.nd j).sublist pl.sub;have c0A:∀x∈C0,x∈As.getD j []:=λx hx=>pl.sub.mem (A5 _ hx);have cOut:∀x∈C,x∉(gP mv As).flatten:=λx hx hA=>by
         rcases p2.bn x hx with z|⟨i,hi,z⟩
         . obtain⟨o,ho,_⟩:=(F.mo m1).sl.dom x (gA hA);rw[ho]at z;cases z
         . exact wI F.nd hi z hA
        have c0In:∀x∈C0,x∈(gP mv As).flatten:=λx hx=>bB (i:=j) (by rw[gD];exact c0A x hx);have ndC:(C0++C).Nodup:=by rw[C9];exact⟨(E7.mp ndB).2,p2.nd,λx hx y hy e=>by subst e;exact cOut x hy (c0In x hx)⟩
        refine z23 (hr H2 Z2 a us ts us' ws vs C0 C ea2 rs2 p2.rep ndC ef) λws' D' r' nd' in' hQ=>?_;refine hQ _ λ_=>?_;refine bu8 (As:=As) (H:=H) (Z:=Z) (E:=E) F2 (by rw[af4 mv hj];exact e1) e2 pl3 rfl rfl ea2 (us':=us') (ws':=ws') (C:=D') r' nd' ?_ ?_ ?_ ?_ w
        . intro x hx;rcases in' x hx with hx|hx
          . exact F2.nz x (c0In x hx)
          . exact p2.bz x hx
        . intro x hx hA;rcases in' x hx with hx|hx
          . exact hx
          . exact D8 hA (cOut x hx)
        . exact⟨λb o q _=>m2.same b o q,λb hb=>.inl (gA hb),m2.zz,λb h=>(m2.zn b h).imp_right .inr,λb h=>m2.same.free h⟩
        . intro x hx;rcases in' x hx with hx|hx
          . exact .inl (bB (c0A x hx))
          . rcases p2.bn x hx with z|⟨i,hi,z⟩
            . exact .inr (m1.same.free z)
            . exact .inl (bB z)
      |ex x=>rw[ee]at w;exact WpX.ev w m1.ev
      |no=>rw[ee]at w;exact w.elim
    . exact w.elim
   |_=>rw[ed]at w;exact w
noncomputable def bg3(us:aw):List T->Option (List T)
 |[.lst true zs]=>if us.length+zs.length<=sizeLine then some (us++zs)else none
 |_=>none
noncomputable def ch7(us:aw):List T->Option (List T)
 |[.int i,t]=>if 0<=i/\i.toNat<=us.length/\us.length<sizeLine then some (us.take i.toNat++t::us.drop i.toNat)else none
 |_=>none
def fv4(_:aw):List T->Option (List T)
 |[]=>some []
 |_=>none
def fr0:cw5 K cn cf5 bg3:=λH Z a us ts us' ws vs C0 C ha r0 r1 nd h=>by
 unfold bg3 at h;split at h
 . next zs=>
   split at h
   . next hl=>
     cases h;simp only[Reps]at r1;refine z44 r1 λv r' B1 C1 zz zy ra zx zw=>?_;clear r1;subst zz zy zx zw;simp only[Rep]at ra;refine z33 ra λb zs' B zz zy eb rz=>?_;clear ra;subst zz zy;simp only[K0]at nd⊢;refine⟨ws++zs',C0++B,Reps.append us r0 rz,nd.sublist ((W5 b B).append_left C0),λx hx=>(A6.mp hx).imp_right (A5 _),λQ hQ=>⟨a,b,ws,zs',rfl,rfl,ha,eb,?_,hQ _⟩⟩;rw[Reps.length us r0,Reps.length zs rz];exact hl
   . cases h
 . cases h
theorem Reps.split:∀(n:Nat)(us:aw){ws:a9}{C:ao},Reps K cn H Z us ws C->∃C1 C2,C=C1++C2/\Reps K cn H Z (us.take n) (ws.take n) C1/\Reps K cn H Z (us.drop n) (ws.drop n) C2
 |0,us,ws,C,r=>⟨[],C,rfl,by simp[Reps],by simpa using r⟩
 |n+1,[],ws,C,r=>by simp only[Reps]at r;obtain⟨rfl,rfl⟩:=r;exact⟨[],[],rfl,by simp[Reps],by simp[Reps]⟩
 |n+1,t::us,ws,C,r=>by simp only[Reps]at r;refine z43 r λv r' B1 B2 zz zy h1 h2=>?_;clear r;subst zz zy;refine z22 (Reps.split n us h2) λC1 C2 zz a1 a2=>?_;subst zz;refine⟨B1++C1,C2,Y1,?_,by simpa using a2⟩;simp only[List.take_succ_cons,Reps];exact⟨v,r'.take n,B1,C1,rfl,rfl,h1,a1⟩
def fh0:cw5 K cn ch4 ch7:=λH Z a us ts us' ws vs C0 C ha r0 r1 nd h=>by
 unfold ch7 at h;split at h
 . next i t=>
   split at h
   . next hl=>
     cases h;obtain⟨h0,h1,h2⟩:=hl;simp only[Reps]at r1;obtain⟨v,r',B1,D1,rfl,rfl,ra,v2,r2,B2,D2,rfl,rfl,rb,rfl,rfl⟩:=r1;simp only[Rep]at ra;obtain⟨rfl,rfl⟩:=ra;refine z22 (Reps.split i.toNat us r0) λC1 C2 zz a1 a2=>?_;subst zz;simp only[K0,List.nil_append]at nd⊢;have pm:(C1++(B2++C2)).Perm ((C1++C2)++B2):=by rw[J0];exact List.Perm.append_left C1 List.perm_append_comm
     refine⟨ws.take i.toNat++v2::ws.drop i.toNat,C1++(B2++C2),Reps.append _ a1 ?_,pm.nodup_iff.mpr nd,λx hx=>A6.mp (pm.mem_iff.mp hx),λQ hQ=>⟨a,ws,i,v2,rfl,rfl,ha,h0,?_,?_,hQ _⟩⟩
     . simp only[Reps];exact⟨v2,ws.drop i.toNat,B2,C2,rfl,rfl,rb,a2⟩
     . rw[Reps.length us r0];exact h1
     . rw[Reps.length us r0];exact h2
   . cases h
 . cases h
def frz1:T->T
 |.lst o xs=>.lst o (frzs xs)
 |t=>t
def bl0(d:a8):Fr->Res T:=λU=>(d U).bind λt=>.ok (frz1 t)
theorem RE.frz1(h:RE Jn K cn E [] te d):RE Jn K cn E [] te (bl0 d):=λAs H Z U O F Q w=>h As H Z U O F Q (by
 unfold bl0 at w;cases e:d U with
 |ok t=>
  rw[e]at w;intro v H' Z' B p;simp only[Res.bind]at w;cases t with
  |lst o xs=>
   cases o with
   |true=>
    have q:=p.rep;simp only[Rep]at q;refine z33 q λa vs C zz zy ea rs=>?_;clear q;subst zz zy;have hC:∀x∈C,H x=none:=λx hx=>(p.bn x (A5 _ hx)).resolve_right (λ⟨i,hi,_⟩=>by cases hi);refine w (.ref a) H' (λx=>Z' x\/x∈C) [a] ⟨p.same,λx z=>.inl (p.zz x z),λx z=>?_,λx z=>?_,?_,Y1,λb hb=>?_,λb hb=>?_⟩
    . rcases z with z|z
      . exact p.zn x z
      . exact .inr (hC x z)
    . rcases z with z|z
      . exact p.zi x z
      . obtain⟨o,q,_⟩:=Reps.dom xs rs x z;rw[q];exact(λz=>nomatch z)
    . simp only[TL.frz1,Rep];exact⟨a,vs,[],rfl,rfl,ea,Reps.frz xs rs (λ_ z=>.inl z) (λ_ z=>.inr z)⟩
    . have hb:b=a:=by simpa using hb
      subst hb;rintro(z|z)
      . exact p.bz b A9 z
      . exact(E7.mp p.nd).1 z
    . have hb:b=a:=by simpa using hb
      subst hb;exact p.bn b A9
   |false=>have q:=p.rep;simp only[Rep]at q;refine z23 q λa vs zz zy ea rs=>?_;clear q;subst zz zy;refine w (.ref a) H' Z' [] ⟨p.same,p.zz,p.zn,p.zi,?_,F6,dN,dN⟩;simp only[TL.frz1,Rep];exact⟨a,vs,rfl,trivial,ea,Reps.frz xs rs (λ_ z=>z) dN⟩
  |_=>exact w v H' Z' B p
 |ex x=>rw[e]at w;exact w
 |no=>rw[e]at w;exact w)
def tF(t u:T):Res T:=if ai1 t=true/\ai1 u=true then match mI dJ t u with
 |some b=>.ok (.bl (!b))
 |none=>.no
 else neT t u
def fh1:pV K cn (dv4 K dJ) tF:=λE As H Z t u x y A B Q zi rt ru w=>by
 unfold tF at w;split at w
 . next hs=>
   obtain⟨a,rfl⟩:=rt.seqRef hs.1;obtain⟨b,rfl⟩:=ru.seqRef hs.2;cases e:mI dJ t u with
   |none=>rw[e]at w;exact w.elim
   |some k=>rw[e]at w;exact .inr ⟨a,b,k,rfl,rfl,bb9 dJ t u rt ru e,WpE.bl w zi⟩
 . exact .inl (fg6 E As H Z t u x y A B Q zi rt ru w)
noncomputable def an2:List Bool->Option Nat
 |[]=>none
 |true::_=>some 0
 |false::bs=>(an2 bs).map (· +1)
theorem cz3:∀(bs:br){j:Nat},an2 bs=some j->bs[j]?=some true/\∀m,m<j->bs[m]?=some false
 |[],_,h=>by cases h
 |true::bs,j,h=>by cases h;exact⟨rfl,λm hm=>by omega⟩
 |false::bs,j,h=>by
  simp only[an2]at h;cases e:an2 bs with
  |none=>rw[e]at h;cases h
  |some k=>
   rw[e]at h;cases h;obtain⟨h1,h2⟩:=cz3 bs e;refine⟨by simpa using h1,λm hm=>?_⟩;cases m with
   |zero=>rfl
   |succ m=>have hm:m+1<k+1:=hm;simpa using h2 m X8
def az0:T->List T->Res T
 |.lst _ us,[t]=>match uN t us with
  |some es=>match an2 es with
   |some j=>.ok (.int j)
   |none=>.no
  |none=>.no
 |_,_=>.no
def em3:RMR K cn "list" (ck0 K dJ) az0:=λE As H Z t ts x xs A B Q zi rt r w=>by
 unfold az0 at w;split at w
 . next o us t=>
   refine z33 rt.lstSq λa vs C zz s rs _=>?_;subst zz;simp only[Reps]at r;refine z44 r λv r' B1 C1 zz zy ra zx zw=>?_;clear r;subst zz zy zx zw;cases e:uN t us with
   |none=>rw[e]at w;exact w.elim
   |some es=>
    rw[e]at w;simp only at w;cases e2:an2 es with
    |none=>rw[e2]at w;exact w.elim
    |some j=>rw[e2]at w;obtain⟨h1,h2⟩:=cz3 es e2;obtain⟨g1,g2⟩:=ae6 ra us rs e;exact⟨a,vs,v,rfl,rfl,s.sq,es,j,g1,g2,h1,h2,w.val zi (kT _)⟩
 . exact w.elim
end
end TL
namespace L2
inductive DRows (w:World):List DictEntry->List (Str×Value)->Prop
 |nil:DRows w [] []
 |cons {x:Str} {t:Tok} {v:Value} {es:List DictEntry} {kvs:az}:DRows w es kvs->DRows w (⟨hashStr w x,.str x t,v⟩::es) ((x,v)::kvs)
structure DicK (w:World) (K:A1) (a:Addr) (kvs:az):Prop where
 ex:∃o es ep,K.lookup a=some o/\o.ExactDict/\o.data=.dict es ep/\DRows w es.toList kvs
 nd:(kvs.map (·.1)).Nodup
 sm:(a==sysModules)=false
theorem DRows.keys:∀{es:List DictEntry}{kvs:az},DRows w es kvs->(∀e∈es,∃k,(strKind P w).is k e.key=true/\e.hash=(strKind P w).hash k)/\Pairs (strKind P w) es kvs
 |_,_,.nil=>⟨λe h=>(nomatch h),.nil⟩
 |_,_,@DRows.cons _ x t v es kvs r=>by
  obtain⟨h1,h2⟩:=DRows.keys (P:=P) r;refine⟨λe he=>?_,.cons (strKind_is P w x t) rfl h2⟩;rcases B6.mp he with rfl|he
  . exact⟨x,strKind_is P w x t,rfl⟩
  . exact h1 e he
def DicK.dictOf{P:E2}{w:World}{K:A1}{a:Addr}{kvs:az}{h:Heap}(D:DicK w K a kvs)(X:K.In h):h.DictOf (strKind P w) a kvs:=by refine z33 D.ex λo es ep l x d r=>?_;obtain⟨h1,h2⟩:=DRows.keys (P:=P) r;exact⟨o,es,ep,X a o l,x,d,λe he=>h1 e (by simpa using he),h2,D.nd⟩
theorem zQ:∀(kvs:az),valueAt kvs x=kvs.lookup x
 |[]=>rfl
 |(y,v)::kvs=>by
  unfold valueAt;rw[List.find?_cons,G1];by_cases e:y=x
  . subst e;simp
  . have e1:(x==y)=false:=by simpa using N8 e
    have e2:decide ((y,v).1=x)=false:=D6 e;rw[e1,e2];exact zQ kvs
structure ac2 (w:World) (K:A1) (mg:aa) (d:Str) (kvs:az):Prop where
 ex:∃a,mg d=some (.ref a)/\DicK w K a kvs
def dm9(kvs:az)(ty:TE):TE:=λO H Q=>ty O H λy H1=>∃x u v,y=.str x/\kvs.lookup x=some u/\RelV v u/\Q v H1
def fb0(neg:Bool)(kvs:az)(ty:TE):TE:=λO H Q=>ty O H λy H1=>∃x,y=.str x/\Q (.bl (if neg=true then !(kvs.lookup x).isSome else(kvs.lookup x).isSome)) H1
def dw9(r:RelV (.str x) u):(strKind P w).is x u=true:=by obtain⟨t,rfl⟩:=r;exact strKind_is P w x t
def cp6(i:Expr):Prop:=∀ov iv,subscripted i false ov iv=operate [ov,iv] (getItem ov iv)
def ey3{prog:E2}{w:World}{A:G0}{E:ag}{s:B0}{env:Env}{value slice:Expr}{pos:Pos}{T id:String}{Q:ag}
 (hl:typeLookup (.type T) "__getitem__"=pure (some (.builtin id)))(hs:cp6 slice)
 (h:wpAny (model prog w) A (eval value env) (λo s₁=>wpAny (model prog w) A (eval slice env) (λi s₂=>s₂.TypeIs o T/\wpAny (model prog w) A (getItem o i) Q E s₂) E s₁) E s):
 wpAny (model prog w) A (eval (.Subscript value slice pos) env) Q E s:=by
 refine Subscript_ (J1 h (λo s₁ h₁=>J1 h₁ (λi s₂ h₂=>?_) λ_ _ x=>x) λ_ _ x=>x);obtain⟨hT,h₂⟩:=h₂;unfold subscriptTail;refine A3 ?_;rw[getitemInPython_of_ne hT.not_modules];refine A3 (wpAny_specialOf hT hl ?_);have bP:wpAny (model prog w) A (subscripted slice false o i) (λr s₃=>wpAny (model prog w) A (letTemporaryGo value o r>>=λ_=>pure r) Q E s₃) E s₂:=by rw[hs o i];exact wpAny_operating (J1 h₂ (λr s₃ h₃=>A3 (wpAny_letTemporaryGo (C5 h₃))) λ_ _ x=>x)
 first
  |exact C5 (A3 bP)
  |exact A3 (C5 (A3 bP))
  |exact A3 bP
section
variable{X:Cx}
def ck4(hD:ac2 X.w X.K X.mg d kvs)(hi:PE X i ty)(hg:Gl X d)(hdb:(d==("__debug__":Str))=false)(hs:cp6 i)(I:Inv X ζ O H s)
 (h:ty O H W)(hW:∀y H1,W y H1->∃x u,y=.str x/\kvs.lookup x=some u/\∀s1,Inv X ζ O H1 s1->R u s1):wpAny (model X.prog X.w) X.A (eval (.Subscript (.Name d p) i pos) X.env) R X.xe s:=by
 obtain⟨a,hm,D⟩:=hD.ex;refine ey3 PySem.F.slot_dict_getitem.lookup hs (sF I hg hm ?_ hdb);refine jE (hi s O H _ I h) λiv s2 y H2 I2 ry q=>?_;refine z22 (hW y H2 q) λx u ey el q2=>?_;subst ey;have dd:=D.dictOf (P:=X.prog) I2.kIn;exact⟨dd.typeIs,wpAny_getItem_of (dw9 ry) dd.mapOf (by rw[zQ];exact el) (q2 _ (I2.tok _))⟩
def xO(hD:ac2 X.w X.K X.mg d kvs)(hi:PE X i ty)(hg:autoParam (Gl X d) Z8)(hdb:autoParam ((d==("__debug__":Str))=false) Z6)(hs:autoParam (cp6 i) ZS):PE X (.Subscript (.Name d p) i pos) (dm9 kvs ty):=by intro ζ s O H Q I h;refine ck4 hD hi hg hdb hs I h λy H1 ⟨x,u,v,ey,el,rv,q⟩=>⟨x,u,ey,el,λs1 I1=>⟨v,H1,I1,rv,q⟩⟩
def co9{d:Str}{kvs:az}{i:Expr}{ty:TE}{p:Pos}(hD:ac2 X.w X.K X.mg d kvs)(hi:PE X i ty)(hg:autoParam (Gl X d) Z8)(hdb:autoParam ((d==("__debug__":Str))=false) Z6):PC X .NotIn i (.Name d p) (fb0 true kvs ty):=by intro ζ s O H Q I h;obtain⟨a,hm,D⟩:=hD.ex;refine jE (hi s O H _ I h) λiv s2 y H2 I2 ry ⟨x,ey,q⟩=>sF I2 hg hm ?_ hdb;subst ey;have dd:=D.dictOf (P:=X.prog) I2.kIn;exact wpAny_notIn_of (dw9 ry) D.sm dd.mapOf ⟨.bl (!(valueAt kvs x).isSome),H2,I2.tok _,rfl,by rw[zQ];exact q⟩
def dx1(tab:List (Str×Sp))(ty:TE)(ta:TA):TE:=λO H Q=>ty O H λy H1=>∃z sp,y=.str z/\(z,sp)∈tab/\ta O H1 λvs H2=>sp vs H2 Q E0
structure dg5 (P:E2) (w:World) (K:A1) (mg:aa) (base:Heap) (k:Nat) (d:Str) (tab:List (Str×Sp)):Prop where
 ex:∃kvs,ac2 w K mg d kvs/\∀q∈tab,∃f fd ps,kvs.lookup q.1=some (.ref f)/\FnOk P w K mg base kS k f fd ps q.2/\Binds K fd ps []/\PySem.W.keepIn K (.ref f)=true
def dh3(hD:dg5 X.prog X.w X.K X.mg X.base k d tab)(hr:Room k X.A)(hi:PE X i ty)(ha:PA X (e::es) t)(hg:autoParam (Gl X d) Z8)(hdb:autoParam ((d==("__debug__":Str))=false) Z6)(hs:autoParam (cp6 i) ZS)
 (hst:autoParam (starEach (e::es) X.env=(false,eval e X.env)::starEach es X.env) Z8)(hpl:autoParam ((backTo pos (starEach es X.env)).any (·.1)=false) Z8):PE X (.Call (.Subscript (.Name d p) i p2) (e::es) [] pos) (dx1 tab ty t):=by
 obtain⟨kvs,D,hT⟩:=hD.ex;intro ζ s O H Q I h;refine Call_ (ck4 D hi hg hdb hs I h λy H1 ⟨z,sp,ey,hq,q⟩=>?_);refine z33 (hT _ hq) λf fd ps el F hb hk=>?_;refine⟨z,.ref f,ey,el,λs1 I1=>?_⟩;refine R4 (first:=[]) (h₀:=X.base) I.ok.mod.kin hk (wP (ha ζ s1 O H1 _ I1 q) λus s2 vs H2 I2 r q2=>⟨I2.kIn,?_⟩) hst hpl;exact bt0 (us:=us) (vs:=vs) F hr hb .nil ax9 I2 r (by rw[K0];exact q2)
def dt9:List V->Hp->VK->Prop:=λxs H Q=>(∃i,xs=[.int i]/\i.natAbs.log2<1920/\Q (.str (toString i)) H)\/∃x,xs=[.str x]/\Q (.str x) H
def dq1:CallR X (.type "str") dt9:=by
 intro ζ s O H xs us Q I r h;rcases h with h|⟨x,rfl,q⟩
 . exact cs0 s O H xs us Q I r h
 . obtain⟨u,rfl,t,rfl⟩:=am9 r;exact PySem.P.str_of_str ⟨.str _,H,I,⟨_,rfl⟩,q⟩
def dt8(K:A1):List V->Hp->VK->Prop:=λxs H Q=>(∃x T tx b,xs=[x,.ty T]/\TyN K H x tx/\iQ tx T b/\Q (.bl b) H)\/∃T,xs=[.non,.ty T]/\(T="int"\/T="bool"\/T="str"\/T="list"\/T="tuple")/\Q (.bl false) H
def kN(K:A1)(hK:autoParam (X.K=K) Z8):CallR X (.builtin "isinstance") (dt8 K):=by
 subst hK;intro ζ s O H xs us Q I r h;rcases h with h|⟨T,rfl,hT,q⟩
 . exact dv3 s O H xs us Q I r h
 . refine z22 r.two λu v zz rx rT=>?_;subst zz;obtain rfl:v=Value.type T:=rT;obtain rfl:u=Value.none:=rx;have fin2:EP X ζ O Q (.bool false) {s with toks:=s.toks+1}:=⟨.bl false,H,I.tok _,rfl,q⟩;rcases hT with rfl|rfl|rfl|rfl|rfl
   . exact IsiPair.NoneType_int fin2
   . exact IsiPair.NoneType_bool fin2
   . exact IsiPair.NoneType_str fin2
   . exact IsiPair.NoneType_list fin2
   . exact IsiPair.NoneType_tuple fin2
def eD(K:A1)(he:PE X e ta)(hb:autoParam (attributeBase e f X.env (eval e X.env)=eval e X.env) Z8)(hK:autoParam (X.K=K) Z8):PE X (.Attribute e f pos) (dl3 K ta f):=by subst hK;exact ev7 he hb
def oV(K:A1)(ha:PE X o ta)(hv:PE X value tv)(hs:autoParam (swapsWith value (some (.Attribute o f pos')) pos.line X.env=pure false) Z8)(hK:autoParam (X.K=K) Z8):PS X (.Assign [.Attribute o f pos'] value pos) (da4 K ta tv f):=by subst hK;exact eg5 ha hv hs
def cm4(K:A1)(hm:X.mg "zip"=none)(ha:PA X [a,b] ta)(hg:autoParam (Gl X "zip") Z8)(hs:autoParam (starEach [a,b] X.env=[(false,eval a X.env),(false,eval b X.env)]) Z8)(hs2:autoParam (starEach [b] X.env=[(false,eval b X.env)]) Z8)(hK:autoParam (X.K=K) Z8):
 PI X (.Tuple es n tpos) (.Call (.Name "zip" p) [a,b] [] pos) (dj3 K ta):=by
 subst hK;exact eo9 hg hm ha hs hs2
def dx5(K:A1)(hm:X.mg "enumerate"=none)(ha:PA X [a] ta)(hg:autoParam (Gl X "enumerate") Z8)(hs:autoParam (starEach [a] X.env=[(false,eval a X.env)]) Z8)(hK:autoParam (X.K=K) Z8):
 PI X (.Tuple es n tpos) (.Call (.Name "enumerate" p) [a] [] pos) (ce6 K ta):=by
 subst hK;exact en1 hg hm ha hs
def ec1(K:A1){o:Expr}{to:TE}{name:Str}{apos cpos:Pos}{T id:String}{r:bh}(pa:PlainAttrs T)(slot:Slot T name id)(hty:typeOf (.builtin id)=pure (.type "method_descriptor"))(hm:MtR X id r)(ho:PE X o to)
 (hbase:autoParam (attributeBase o name X.env (eval o X.env)=eval o X.env) Z8)(hline:autoParam ((apos.endLine==cpos.line)=true) Z8)(hK:autoParam (X.K=K) Z8):PE X (.Call (.Attribute o name apos) [] [] cpos) (tBM K T r to xZ):=by
 subst hK;exact ev5 pa slot hty hm ho hbase hline
def db2(K:A1)(hr:Room k X.A)(hn:autoParam (n<=60) Z6)(hK:autoParam (X.K=K) Z8):MtR X "list.index" (ck0 K n):=by subst hK;exact da6 (R5 X8 hr.units)
end
structure iZ (K:A1) (C:Addr) (m qual:Str) (st:Stmt):Prop where
 ex:∃f fd,dk3 K C m f/\Fun K m qual st f fd
structure xU (K:A1) (mg:aa) (x:Str) (C:Addr) (qual:Str) (st:Stmt):Prop where
 ex:∃f fd,Mk K C f/\Fun K "__init__" qual st f fd
 mg:mg x=some (.ref C)
def er0{K:A1}{C f:Addr}{m qual:Str}{st:Stmt}{oc:Value}{od an:bb}{osl:bp}{kV doc pm cdv ct:Value}(a:PySem.W.findIn K (.ref C) m=some (some (.ref f)))(b:PySem.W.isFn K (.ref f)=true)
 (l:K.lookup f=some ⟨oc,od,.func (PySem.W.fnOf m qual (jB st) (cP st) (aL st) .none kV doc pm an cdv ct),osl⟩)(c:PySem.W.codeIn K cdv qual=true)(k:PySem.W.keepIn K (.ref f)=true):iZ K C m qual st:=
 ⟨f,_,⟨a,b,k⟩,ab5 l c k⟩
def ef1{K:A1}{h:Heap}{mg:aa}(X:K.In h)(G:h.Ns mainGlobals mg){x:Str}{C f:Addr}{qual:Str}{st:Stmt}{oc:Value}{od an:bb}{osl:bp}{kV doc pm cdv ct:Value}(g:PySem.W.nsIn K mainGlobals x=some (some (.ref C)))
 (mk:PySem.W.makesIn K C=true)(a:PySem.W.findIn K (.ref C) "__init__"=some (some (.ref f)))(b:PySem.W.isFn K (.ref f)=true)(kc:PySem.W.keepIn K (.ref C)=true)
 (l:K.lookup f=some ⟨oc,od,.func (PySem.W.fnOf "__init__" qual (jB st) (cP st) (aL st) .none kV doc pm an cdv ct),osl⟩)(c:PySem.W.codeIn K cdv qual=true)(k:PySem.W.keepIn K (.ref f)=true):xU K mg x C qual st:=
 ⟨⟨f,_,⟨mk,a,b,kc⟩,ab5 l c k⟩,Q7 X G g⟩
def ef5{K:A1}{C:Addr}(a:PySem.W.plainGet K C Str.empty=true)(b:PySem.W.hasDictIn K C=true)(c:PySem.W.plainOver K C=true)(d:PySem.W.findIn K (.ref C) "__setattr__"=some (some (.builtin "object.__setattr__"))):Cls K C:=⟨a,b,c,d⟩
def bs2{w:World}{K:A1}{h:Heap}{mg:aa}(X:K.In h)(G:h.Ns mainGlobals mg){d:Str}{a:Addr}{es:Array DictEntry}{ep:Nat}{kvs:az}(g:PySem.W.nsIn K mainGlobals d=some (some (.ref a)))
 (l:K.lookup a=some ⟨.type "dict",none,.dict es ep,#[]⟩)(r:DRows w es.toList kvs)(nd:(kvs.map (·.1)).Nodup)(sm:(a==sysModules)=false):ac2 w K mg d kvs:=
 ⟨a,Q7 X G g,⟨_,es,ep,l,⟨rfl,rfl,rfl⟩,rfl,r⟩,nd,sm⟩
end L2
namespace TL
open L2
section
variable{Jn:iK}{K:A1}{cn:ac}{E:XK}
def GD(K:A1)(cn:ac)(kts:List (Str×T))(kvs:az):Prop:=Paired (λ(p:Str×T)(q:Str×Value)=>p.1=q.1/\∃v,RelV v q.2/\∀H Z,Rep K cn H Z p.2 v []) kts kvs
theorem GD.lookup(g:GD K cn kts kvs)(z:Str):match kts.lookup z with
 |some t=>∃u v,kvs.lookup z=some u/\RelV v u/\∀H Z,Rep K cn H Z t v []
 |none=>kvs.lookup z=none:=by
 unfold GD at g;induction g with
 |nil=>rfl
 |@cons a b l1 l2 h _ ih=>
  obtain⟨x,t⟩:=a;obtain⟨y,u⟩:=b;obtain⟨rfl,v,rv,r⟩:=h;rw[G1,G1];by_cases e:(z==x)=true
  . rw[e];exact⟨u,v,rfl,rv,r⟩
  . rw[Bool.not_eq_true]at e;rw[e];exact ih
noncomputable def ab2(kts:List (Str×T)):T->Res T
 |.str z=>match kts.lookup z with
  |some t=>.ok t
  |none=>.no
 |_=>.no
noncomputable def dv6(neg:Bool)(kts:List (Str×T)):T->Res T
 |.str z=>.ok (.bl (if neg=true then !(kts.lookup z).isSome else(kts.lookup z).isSome))
 |_=>.no
theorem ej0(g:GD K cn kts kvs)(ha:RB Jn K cn E ty a):RE Jn K cn E [] (dm9 kvs ty) (dQ (ab2 kts) a):=λAs H Z U O F Q w=>by
 unfold dQ at w;refine ha As H Z U O F _ ?_;cases e:a U with
 |ok t=>
  rw[e]at w;intro v H1 Z1 B p;simp only[Res.bind]at w;cases t with
  |str z=>
   have hz:=p.rep.str;subst hz;have gl:=g.lookup z;simp only[ab2]at w;cases el:kts.lookup z with
   |none=>rw[el]at w;exact w.elim
   |some t=>rw[el]at w gl;refine z22 gl λu v hl rv r=>?_;exact⟨z,u,v,rfl,hl,rv,WpE.val (WpE.mo F w p.mo) p.zi (r _ _)⟩
  |_=>exact w.elim
 |_=>rw[e]at w;exact w
theorem ea1(g:GD K cn kts kvs)(ha:RB Jn K cn E ty a):RE Jn K cn E [] (fb0 neg kvs ty) (dQ (dv6 neg kts) a):=λAs H Z U O F Q w=>by
 unfold dQ at w;refine ha As H Z U O F _ ?_;cases e:a U with
 |ok t=>
  rw[e]at w;intro v H1 Z1 B p;simp only[Res.bind]at w;cases t with
  |str z=>
   have hz:=p.rep.str;subst hz;have gl:=g.lookup z;have es:(kvs.lookup z).isSome=(kts.lookup z).isSome:=by
    cases el:kts.lookup z with
    |none=>rw[el]at gl;rw[show kvs.lookup z=none from gl];rfl
    |some t=>rw[el]at gl;refine z21 gl λu v hl _=>?_;rw[hl];rfl
   refine⟨z,rfl,?_⟩;rw[es];exact WpE.bl (WpE.mo F w p.mo) p.zi
  |_=>exact w.elim
 |_=>rw[e]at w;exact w
def ar9(n:Nat)(tabs:List (Str×(List T->Res T)))(i:a8)(r:ay):Fr->Res T:=λU=>(i U).bind λt=>match t with
 |.str z=>match tabs.lookup z with
  |some G=>(r U).bind λts=>tD n G ts
  |none=>.no
 |_=>.no
def du8(K:A1)(cn:ac)(n:Nat)(tabs:List (Str×(List T->Res T))):List (Str×Sp):=tabs.map λp=>(p.1,bK K cn n p.2)
theorem bj0:∀{l:List (Str×α)},l.lookup z=some a->(z,a)∈l
 |[],h=>by cases h
 |(y,b)::l,h=>by
  rw[G1]at h;by_cases e:(z==y)=true
  . rw[e]at h;cases h;have:z=y:=by simpa using e
    subst this;exact A9
  . rw[Bool.not_eq_true]at e;rw[e]at h;exact A5 _ (bj0 h)
theorem dn4(hi:RB Jn K cn E ty i)(ha:wN Jn K cn E ta a):RE Jn K cn E [] (dx1 (du8 K cn n tabs) ty ta) (ar9 n tabs i a):=λAs H Z U O F Q w=>by
 unfold ar9 at w;refine hi As H Z U O F _ ?_;cases e:i U with
 |ok t=>
  rw[e]at w;intro v H1 Z1 B p;simp only[Res.bind]at w;cases t with
  |str z=>
   have hz:=p.rep.str;subst hz;simp only at w;cases el:tabs.lookup z with
   |none=>rw[el]at w;exact w.elim
   |some G=>
    rw[el]at w;refine⟨z,bK K cn n G,rfl,K8.mpr ⟨(z,G),bj0 el,rfl⟩,?_⟩;refine ha As H1 Z1 U O (F.mo p.mo) _ ?_;simp only at w;cases e2:a U with
    |ok ts=>rw[e2]at w;intro vs H2 Z2 B2 m2 r2;exact au7 (p.mo.trans m2) r2 w
    |ex x=>rw[e2]at w;exact WpX.ev w p.mo.ev
    |no=>rw[e2]at w;exact w.elim
  |_=>exact w.elim
 |_=>rw[e]at w;exact w
noncomputable def yY:List T->Res T
 |[.int i]=>gate (i.natAbs.log2<1920) (.ok (.str (toString i)))
 |[.str x]=>.ok (.str x)
 |_=>.no
def ee9:wQ K cn dt9 yY:=λE As H Z ts xs A Q zi r w=>by
 unfold yY at w;split at w
 . next i=>
   obtain⟨v,rfl,rv⟩:=r.one1;have:=rv.int;subst this;obtain⟨h,w⟩:=w.gate;exact .inl ⟨i,rfl,h,w.val zi (am3 _)⟩
 . next x=>
   obtain⟨v,rfl,rv⟩:=r.one1;have:=rv.str;subst this;exact .inr ⟨x,rfl,w.val zi (am3 _)⟩
 . exact w.elim
def lO:List T->Res T
 |[.non,.ty n]=>if(n="int"\/n="bool"\/n="str"\/n="list"\/n="tuple")then .ok (.bl false)else .no
 |ts=>am7 ts
def er7:wQ K cn (dt8 K) lO:=λE As H Z ts xs A Q zi r w=>by
 unfold lO at w;split at w
 . next n=>
   refine z43 r.two2 λv u B C zz zy rv ru=>?_;subst zz zy;have:=rv.non;subst this;simp only[Rep]at ru;obtain⟨rfl,rfl⟩:=ru;split at w
   . next hn=>exact .inr ⟨n,rfl,hn,WpE.bl w zi⟩
   . exact w.elim
 . exact .inl (fr2 E As H Z _ xs A Q zi r w)
inductive TupR:List T->List Value->Prop
 |nil:TupR [] []
 |str {x:Str} {t:Tok} {ts:aw} {us:aq}:TupR ts us->TupR (.str x::ts) (.str x t::us)
 |int {x:Int} {t:Tok} {ts:aw} {us:aq}:TupR ts us->TupR (.int x::ts) (.int x t::us)
theorem TupR.vals(h:TupR ts us):∃vs,Vals vs us/\∀H Z,Reps K cn H Z ts vs []:=by
 induction h with
 |nil=>exact⟨[],.nil,λ_ _=>Reps.nil⟩
 |@str x t ts us _ ih=>obtain⟨vs,h1,h2⟩:=ih;refine⟨.str x::vs,.cons ⟨t,rfl⟩ h1,λH Z=>?_⟩;simp only[Reps];exact⟨_,_,[],[],rfl,rfl,am3 x,h2 H Z⟩
 |@int x t ts us _ ih=>obtain⟨vs,h1,h2⟩:=ih;refine⟨.int x::vs,.cons ⟨t,rfl⟩ h1,λH Z=>?_⟩;simp only[Reps];exact⟨_,_,[],[],rfl,rfl,kT x,h2 H Z⟩
def mG(l:K.lookup a=some ⟨.type "tuple",oc,.seq us.toArray n,sl⟩)(r:TupR ts us)(hz:us.length<=sizeLine):
 (x,T.tup ts).1=(x,Value.ref a).1/\∃v,RelV v (x,Value.ref a).2/\∀H Z,Rep K cn H Z (x,T.tup ts).2 v []:=by
 obtain⟨vs,h1,h2⟩:=r.vals (K:=K) (cn:=cn);refine⟨rfl,.ref a,rfl,λH Z=>?_⟩;simp only[Rep];exact⟨a,vs,rfl,.inr ⟨_,us.toArray,n,l,rfl,rfl,by simpa using hz,by simpa using h1⟩,h2 H Z⟩
def cV{P:E2}{w:World}{mg:aa}{base:Heap}{C:Addr}{m qual:Str}{st:Stmt}{N ps:am}{k:Nat}{d:Fr->bR}(F:iZ K C m qual st)(c:Cls K C)(S:aV N ps (aL st))
 (hb:∀(kV doc pm:Value)(an:bb)(cdv ct:Value)(us:aq),us.length=ps.length->bindArgs (PySem.W.fnOf m qual (jB st) (cP st) (aL st) .none kV doc pm an cdv ct) ⟨us,[]⟩=pure (ps.zip us))
 (hbody:∀(f:Addr)(cdv:Value)(A:G0)(outer:bg)(s:B0)(H:Hp)(E:XK),Room k (A.deeper (envOfC qual (aL st) s.heap.objs.size f cdv))->
  ∃t,PSs (kQ kS P w K mg base N qual (aL st) f cdv A outer s H E).nox (cP st) t/\RS [] K cn E t d){n:Nat}{G:bc}(hn:ps.length=n)(hG:∀ts,G ts=bP (d (bZ N.length ts))){k':Nat}(hk:k+1<=k'):jF P w K mg base k' C m (bK K cn n G):=by
 refine z21 F.ex λf fd M F=>?_;exact⟨f,fd,ps,c,M,(bt1 F S (λcdv A outer s H E hr=>hbody f cdv A outer s H E hr) hn hG).mono hk,F.binds hb⟩
def kW{P:E2}{w:World}{mg:aa}{base:Heap}{x c:Str}{C:Addr}{qual:Str}{st:Stmt}{N ps:am}{k:Nat}{d:Fr->bR}(F:xU K mg x C qual st)(S:aV N ps (aL st))
 (hb:∀(kV doc pm:Value)(an:bb)(cdv ct:Value)(us:aq),us.length=ps.length->bindArgs (PySem.W.fnOf "__init__" qual (jB st) (cP st) (aL st) .none kV doc pm an cdv ct) ⟨us,[]⟩=pure (ps.zip us))
 (hbody:∀(f y:Addr)(cdv:Value)(A:G0)(outer:bg)(s:B0)(H:Hp)(E:XK),Room k (A.deeper (envOfC qual (aL st) s.heap.objs.size f cdv))->
  ∃t,PSs (kQ kS P w K mg base N qual (aL st) f cdv A outer s H E).nox (cP st) t/\RS [(0,.ref y)] K cn E t d){n:Nat}{G:bc}(hn:ps.length=n+1)(hG:∀ts,G ts=mV (d (bZ N.length (.ins true c [] []::ts)))):Mak P w K mg base (k+1) x C (spI K cn c n G):=by
 refine z21 F.ex λf fd M F'=>?_;exact⟨f,fd,ps,M,ep2 F' S (λy cdv A outer s H E hr=>hbody f y cdv A outer s H E hr) hn hG,F.mg,F'.binds hb⟩
end
end TL
namespace L2
def db4:bootBuiltins "set"=some (.type "set"):=X9
def aw8(ss:am):Nat:=(mQ (λi=>ss.getD i Str.empty) ss.length).length
def ca5(K:A1):List V->Hp->VK->Prop:=λxs H Q=>∃p ss,xs=[.ref p]/\SqL K H p (ss.map V.str)/\ss.length<=1000/\Q (.int (aw8 ss)) H
section
variable{X:Cx}
theorem cy9(K:A1)(hm:X.mg "len"=none)(hm2:X.mg "set"=none)(ha:PA X [e] t)(hc:autoParam (X.calm=true) Z8)(hg:autoParam (Gl X "len") Z8)(hg2:autoParam (Gl X "set") Z8)(he:autoParam (starEach [e] X.env=[(false,eval e X.env)]) Z8)(hK:autoParam (X.K=K) Z8):
 PE X (.Call (.Name "len" p) [.Call (.Name "set" p2) [e] [] pos2] [] pos) (tCB (ca5 K) t):=by
 subst hK;intro ζ s O H Q I h;refine K6 (oM I hg hm boot_len ?_);refine PyProof.Rows.callWith_builtin1 (PyProof.Rows.args_cons ?_) rfl rfl;refine K6 (oM I hg2 hm2 db4 ?_);refine J9 (wP (ha ζ s O H _ I h) λus s1 vs H1 I1 r1 q1=>?_) he rfl;obtain⟨l,ss,rfl,hq,hl,q⟩:=q1;cases r1 with
 |cons r rr=>
  cases rr;cases r;obtain⟨its,rv,pl,_⟩:=I1.list hq;have e1:its.length=ss.length:=by have:=rv.length;simpa using this.symm
  refine by5 (val:=λi=>ss.getD i Str.empty) (I.ok.hd hc) pl.isList (λi v hv=>?_) (by rw[A8,e1];unfold scanBound;omega) λh' tk hS kk=>PyProof.Rows.args_nil ?_
  . have hi:i<its.length:=by have:=(V3.mp hv).1;simpa using this
    obtain⟨x,ex,rx⟩:=iJ rv hi;have ev:v=its[i]:=by have:=(V3.mp hv).2;simpa using this.symm
    rw[E3]at ex;cases eg:ss[i]? with
    |none=>rw[eg]at ex;cases ex
    |some z=>rw[eg]at ex;cases ex;obtain⟨t,et⟩:=rx;refine⟨t,?_⟩;rw[ev,et,A4,eg];rfl
  . have I2:Inv X ζ O H1 {s1 with heap:=h',toks:=tk}:=I1.kept λb u eb=>kk b u (D0 eb) eb;obtain⟨o,es,ep,tb,ho,hx,hd,_,_,hs,hf,hn⟩:=hS;refine call_len_set ho hx hd hf (by have:es.size<4096:=hs;omega) ?_;refine⟨.int (aw8 ss),H1,I2.tok _,⟨tk+1,?_⟩,q⟩;rw[hn,A8,e1];rfl
end
end L2
namespace TL
open L2
section
variable{Jn:iK}{K:A1}{cn:ac}{E:XK}
def af1:List T->Res T
 |[.lst _ ts]=>match as2 ts with
  |some ss=>if ss.length<=1000 then .ok (.int (aw8 ss))else .no
  |none=>.no
 |_=>.no
def dn6:wQ K cn (ca5 K) af1:=λE As H Z ts xs A Q zi r w=>by
 unfold af1 at w;split at w
 . next o ts=>
   obtain⟨v,rfl,rv⟩:=r.one1;refine z33 rv.lstSq λa vs C zz s rs _=>?_;subst zz;split at w
   . next ss hs=>
     split at w
     . next hl=>
       have:=bx1 ts rs hs;subst this;exact⟨a,ss,rfl,s.sq,hl,w.val zi (kT _)⟩
     . exact w.elim
   . exact w.elim
 . exact w.elim
theorem bg0:∀(l acc:am),(acc++l).Nodup->l.foldl vI acc=acc++l
 |[],acc,_=>by simp
 |x::l,acc,h=>by
  have hx:x∉acc:=λhx=>by rw[C9]at h;exact h.2.2 x hx x A9 rfl
  have hs:vI acc x=acc++[x]:=by
   unfold vI;rw[D3];intro q;rw[O5]at q;obtain⟨y,hy,e⟩:=q;have:y=x:=by simpa using e
   subst this;exact hx hy
  rw[R1,hs,bg0 l (acc++[x]) (by simpa using h)];simp
def cx6(l:am):(List.range l.length).map (λi=>l.getD i Str.empty)=l:=by
 apply List.ext_getElem?;intro i;by_cases h:i<l.length
 . rw[E3,O0 h,A2 h];simp[A4,A2 h]
 . rw[O9 (by simpa using h),O9 X8]
def cw2(h:ss.Nodup):aw8 ss=ss.length:=by unfold aw8 mQ;rw[cx6,bg0 ss [] (by simpa using h)];simp
def db3{ss:am}(o:Bool)(h:ss.Nodup)(hl:ss.length<=1000):af1 [.lst o (ss.map .str)]=.ok (.int ss.length):=by simp only[af1,al4,C7 hl,cw2 h]
end
open L2
section
variable{P:E2}{w:World}{K:A1}{cn:ac}{mg:aa}{base:Heap}{k n:Nat}
def kI:kZ K cn [] f:=λ_ h=>nomatch h
def bO(h:cn c=some C)(k:Cls K C)(n:NoAttr K C f)(r:kZ K cn cs f):kZ K cn (c::cs) f:=λd hd D hD=>by
 rcases B6.mp hd with rfl|hd
 . rw[h]at hD;cases hD;exact⟨k,n⟩
 . exact r d hd D hD
def ag2:ar3 K cn n [] []:=λc G C h=>by cases h
def cX(h:cn c=some C)(r:ar3 K cn n tabs tab):ar3 K cn n ((c,G)::tabs) ((C,bK K cn n G)::tab):=λd G' D hl hD=>by
 rw[G1]at hl;by_cases e:(d==c)=true
 . rw[e]at hl;cases hl;have:d=c:=by simpa using e
   subst this;rw[h]at hD;cases hD;exact A9
 . rw[Bool.not_eq_true]at e;rw[e]at hl;exact A5 _ (r d G' D hl hD)
def aq1:∀q∈([]:List (Addr×Sp)),jF P w K mg base k q.1 m q.2:=dN
def cU(h:jF P w K mg base k C m sp)(r:∀q∈tab,jF P w K mg base k q.1 m q.2):∀q∈(C,sp)::tab,jF P w K mg base k q.1 m q.2:=λq hq=>by
 rcases B6.mp hq with rfl|hq
 . exact h
 . exact r q hq
def MD(P:E2)(w:World)(K:A1)(mg:aa)(base:Heap)(k:Nat)(kvs:az)(tab:List (Str×Sp)):Prop:=∀q∈tab,∃f fd ps,kvs.lookup q.1=some (.ref f)/\FnOk P w K mg base kS k f fd ps q.2/\Binds K fd ps []/\PySem.W.keepIn K (.ref f)=true
def dx6:MD P w K mg base k kvs []:=dN
def mK(e:kvs.lookup z=mg x)(d:dY P w K mg base j x ps sp)(h:j<=k)(r:MD P w K mg base k kvs tab):MD P w K mg base k kvs ((z,sp)::tab):=λq hq=>by
 rcases B6.mp hq with rfl|hq
 . refine z23 d.ex λf fd F hm hk hb=>?_;exact⟨f,fd,ps,e.trans hm,F.mono h,hb,hk⟩
 . exact r q hq
def ei1(D:ac2 w K mg d kvs)(r:MD P w K mg base k kvs tab):dg5 P w K mg base k d tab:=⟨kvs,D,r⟩
end
end TL
namespace L2
def fd4{K:A1}{h:Heap}{mg:aa}{kvs:az}{z x:Str}{u:Value}(X:K.In h)(G:h.Ns mainGlobals mg)(a:PySem.W.nsIn K mainGlobals x=some (some u))(e:kvs.lookup z=some u):kvs.lookup z=mg x:=e.trans (Q7 X G a).symm
end L2
namespace TL
open L2
def ft4(h1:-(2^64)<i)(h2:i<2^64):mulOk i j:=.inl ⟨h1,h2⟩
def ca7(h1:-(2^64)<j)(h2:j<2^64):mulOk i j:=.inr (.inl ⟨h1,h2⟩)
def eh2(i:Int):lO [.int i,.ty "int"]=.ok (.bl true):=dd9 i
def et0(i:Int):lO [.int i,.ty "bool"]=.ok (.bl false):=dd1 i
def ez1(i:aw):lO [.tup i,.ty "tuple"]=.ok (.bl true):=dh9 i
def ct3(o:Bool)(i:aw):lO [.lst o i,.ty "list"]=.ok (.bl true):=ds8 o i
theorem ez7(i:Int):yY [.int i]=gate (i.natAbs.log2<1920) (.ok (.str (toString i))):=rfl
theorem ej9(x:Str):yY [.str x]=.ok (.str x):=rfl
theorem ey8(i j:Int):tF (.int i) (.int j)=.ok (.bl (!(i==j))):=rfl
theorem el9(i j:Str):tF (.str i) (.str j)=.ok (.bl (!(i==j))):=rfl
theorem ew4(i j:Bool):tF (.bl i) (.bl j)=.ok (.bl (!(i==j))):=rfl
open PySem L2
def di7(h:n<=100000):(n<=sizeLine)=True:=eq_true (J2 h Y2)
def dj4(h:n<=100000):(n<sizeLine)=True:=eq_true (R5 h Y2)
def uS{m:Int}(h:0<=m):∃k:Nat,m=k:=⟨m.toNat,X8⟩
end TL
namespace TL
open PySem L2
def fl0(h1:0<j)(h2:j<1073741824):zV i j:=⟨h1,h2⟩
def fy3(h1:0<=j)(h2:j<=1000000)(h3:i.natAbs<2^64):am4 i j:=⟨h1,h2,h3⟩
end TL
namespace L2
open PySem
def fw2{K}(h:PySem.W.findIn K (.ref C) f=some none):NoAttr K C f:=h
end L2
namespace L2
section
variable{X:Cx}
theorem bq4(r:Vals xs its):∀k:Nat,Vals (List.replicate k xs).flatten (List.replicate k its).flatten
 |0=>Paired.nil
 |k+1=>by rw[G8,G8,B8,B8];exact r.append (bq4 r k)
theorem bh8(its:aq):∀(k:Nat)(acc:aq),List.foldl (λx1 x2=>x1++x2) acc.toArray (List.replicate k its.toArray)=(acc++(List.replicate k its).flatten).toArray
 |0,acc=>by simp
 |k+1,acc=>by
  rw[G8,R1,G8,B8];have e:acc.toArray++its.toArray=(acc++its).toArray:=Y1
  rw[e,bh8 its k,J0]
theorem cz9(its:aq)(k:Nat):List.foldl (λx1 x2=>x1++x2) #[] (List.replicate (if its.toArray.isEmpty=true then 0 else k) its.toArray)=((List.replicate k its).flatten).toArray:=by
 cases its with
 |nil=>
  have e:(List.replicate k ([]:List Value)).flatten=[]:=by
   induction k with
   |zero=>rfl
   |succ k ih=>rw[G8,B8,ih];rfl
  rw[e];simp
 |cons v its=>have e:=bh8 (v::its) k [];simp only[List.nil_append]at e;simpa using e
def dw8(K:A1):R2:=λx y H Q=>∃l xs k,x=.ref l/\y=.int k/\SqS K H l xs/\-(2^63)<=k/\k<2^63/\xs.length*k.toNat<=2^24/\∀p,H p=none->Q (.ref p) (upd H p (.lst (List.replicate k.toNat xs).flatten))
def ad6(K:A1)(hK:autoParam (X.K=K) Z8):OpR X (binaryOp .Mult) (dw8 K):=by
 subst hK;intro ζ s O H x y v u Q I rx ry h;refine z36 h λl xs k zz zy hH h1 h2 hz q=>?_;clear h;subst zz zy;cases rx;obtain⟨t,rfl⟩:=ry;refine z22 (I.listS hH) λits n r e _=>?_;have hl:=r.length;have hs:its.toArray.size*k.toNat<=2^24:=by rw[A8,<-hl];exact hz
 refine wpAny_binaryOp_repeat_ref (T:="list") (U:="int") Y2 ⟨_,e,rfl⟩ (λs'=>typeIs_int s' k t) noFill_list_mul F.fills_int_mul F.slot_int_rmul repeat_list F.slot_int_index.lookup
  (U8 F.slot_int_rmul (typeIs_int s k t) F.entry_int_rmul (F.args_int_rmul_2 _ _) (int___rmul___int_list k t l its.toArray n) ⟨e,rfl,⟨_,e,rfl⟩,U8 F.slot_list_mul ⟨_,e,rfl⟩ F.entry_list_mul (F.args_list_mul_2 _ _)
   (AutoListH.list___mul___list_int_3 l its.toArray n k t (by simp[Builtin.List.listFitsIndex];omega) X8 (by simp[Builtin.List.listTooLong,sizeLine];simpa using hs)) ⟨e,?_⟩⟩)
 rw[cz9];refine⟨.ref _,_,I.lnew (t':=s.toks) (bq4 r k.toNat) ?_,rfl,q _ I.fresh⟩;have hm:∀(m:Nat),(List.replicate m xs).flatten.length=m*xs.length:=by intro m;simp
 have hn:=F9;rw[hm,Nat.mul_comm];omega
end
end L2
namespace TL
open PySem L2
section
variable{K:A1}{cn:ac}
noncomputable def pD:T->T->Res T
 |.lst _ xs,.int k=>gate (bF xs=true/\-(2^63)<=k/\k<2^63/\xs.length*k.toNat<=2^24) (.ok (.lst true (List.replicate k.toNat xs).flatten))
 |_,_=>.no
theorem ba5(r:Reps K cn H Z xs vs []):∀k:Nat,Reps K cn H Z (List.replicate k xs).flatten (List.replicate k vs).flatten []
 |0=>Reps.nil
 |k+1=>by rw[G8,G8,B8,B8];exact Reps.append xs r (ba5 r k)
def ee6:pV K cn (dw8 K) pD:=λE As H Z t u x y A B Q zi rt ru w=>by
 unfold pD at w;split at w
 . next o xs k=>
   obtain⟨h,w⟩:=w.gate;refine z33 rt.lstSq λa vs C zz hs r1 _=>?_;subst zz;rw[ru.int];exact⟨a,vs,k,rfl,rfl,hs,h.2.1,h.2.2.1,by rw[Reps.length xs r1];exact h.2.2.2,λp hp=>w.newL zi (ba5 (r1.bareE h.1) k.toNat) p hp⟩
 . exact w.elim
noncomputable def fd5(us:aw):List T->Option (List T)
 |[.int i]=>if 0<=i/\i.toNat<us.length/\us.length<=sizeLine then some (us.eraseIdx i.toNat)else none
 |_=>none
end
end TL
namespace TL
open L2
section
variable{Jn:iK}{K:A1}{cn:ac}{E:XK}
def fb1{mv mw L:ax}{te:TE}{tr:TA}{a:a8}{r:ay}(ha:RE Jn K cn E mv te a)(hr:RA Jn K cn E mw tr r)(e:mv++mw=L)(hd:(mv.all λi=>!mw.contains i)=true):RA Jn K cn E L (nU te tr) (aD a r):=e▸eb3 ha hr hd
def ew5{ks ls L:ax}{n:Nat}{g:TG}{gs:TGs}{b:bq}{bs:ce}(h1:RG Jn K cn ks g b)(h2:RGs Jn K cn ls n gs bs)(e:ks++ls=L):RGs Jn K cn L (n+1) (cl6 g gs) (aY b bs):=e▸dz4 h1 h2
end
end TL
namespace TL
open L2
section
variable{Jn:iK}{K:A1}{cn:ac}{E:XK}
theorem Slots.keep(hz:∀a,Z a->Z' a):∀{U:Fr}{O:St}{As:af},Slots K cn H Z U O As->(∀a o,H a=some o->(a∈As.flatten\/Z a\/sM o=true)->H' a=some o)->Slots K cn H' Z' U O As
 |[],_,_,h,_=>h
 |o::U,_,_,h,k=>by
  refine z43 h λw σ' A As' zz zy h1 h2=>?_;clear h;subst zz zy;refine⟨w,σ',A,As',rfl,rfl,?_,Slots.keep hz h2 λa o q c=>k a o q (c.imp_left λc=>by rw[B8,A6];exact .inr c)⟩;cases o with
  |none=>exact h1
  |some t=>obtain⟨v,e,r⟩:=h1;exact⟨v,e,Rep.keep t r (λa o q c=>k a o q (c.imp_left λc=>by rw[B8,A6];exact .inl c)) hz⟩
def bx7(d:a8):Fr->bR:=λU=>match d U with
 |.ok t=>if cQ t=true then .rm U t else .no
 |.ex x=>.ex x
 |.no=>.no
theorem er2(he:RB Jn K cn E te d):RS Jn K cn E (di5 te) (bx7 d):=λAs H Z U O F D w=>by
 unfold bx7 at w;refine he As H Z U O F _ ?_;cases e:d U with
 |ok t=>
  rw[e]at w;intro v H1 Z1 B p;simp only at w;split at w
  . next hn=>
    have hB:=Rep.bare t hn p.rep;subst hB;exact w v O As H1 Z1 (F.mo p.mo) p.mo.ev p.rep
  . exact w.elim
 |_=>rw[e]at w;exact w
def spM(K:A1)(cn:ac)(G:bv):Sp:=λvs H Q _=>∃v0 v1 v2,vs=[v0,v1,v2]/\∃t0 t1 t2 Z B1 B2,(∀a,Z a->H a≠none)/\Rep K cn H Z t0 v0 []/\Rep K cn H Z t1 v1 B1/\Rep K cn H Z t2 v2 B2/\(B1++B2).Nodup/\(∀a∈B1++B2,¬Z a)/\
 ∃t u1 u2,G t0 t1 t2=.ok (t,u1,u2)/\∀v H' Z' C1 C2,Ev [B1,B2] H Z [C1,C2] H' Z'->Rep K cn H' Z' t v []->Rep K cn H' Z' u1 v1 C1->Rep K cn H' Z' u2 v2 C2->(C1++C2).Nodup->Q v H'
noncomputable def br2:bR->Res (T×T×T)
 |.nx U=>match U[1]?,U[2]? with
  |some (some a),some (some b)=>.ok (.non,a,b)
  |_,_=>.no
 |.rm U t=>match U[1]?,U[2]? with
  |some (some a),some (some b)=>.ok (t,a,b)
  |_,_=>.no
 |_=>.no
def dt7 {P : E2} {w : World} {mg : Str → Option Value} {base : Heap} {x qual : Str} {st : Stmt} {f : Addr} {fd : FuncData} {N ps : List Str} {k : Nat} {d : Fr → bR} (F : Fun K x qual st f fd) (S : aV N ps (aL st))
    (hbody : ∀ (v1 v2 : V) (cdv : Value) (A : G0) (outer : List Env) (s : B0) (H : Hp) (E : XK), Room k (A.deeper (envOfC qual (aL st) s.heap.objs.size f cdv)) →
      ∃ t, PSs (kQ kS P w K mg base N qual (aL st) f cdv A outer s H E).nox (cP st) t ∧ RS [(1, v1), (2, v2)] K cn E t d) {G : T → T → T → Res (T × T × T)} (hn : ps.length = 3) (hG : ∀ t0 t1 t2, G t0 t1 t2 = br2 (d (bZ N.length [t0, t1, t2]))) : FnOk P w K mg base kS (k + 1) f fd ps (spM K cn G) := by
  refine F.ok S (fun vs H Q E h => by refine z31 h fun _ _ _ zz _ => ?_; clear h; subst zz; rw [hn]; rfl) fun cdv A outer s H vs Q E hr h => ?_;obtain ⟨v0, v1, v2, rfl, t0, t1, t2, Z, B1, B2, zi, r0, r1, r2, nd, nz, t, u1, u2, eg, w⟩ := h;obtain ⟨tt, hp, ht⟩ := hbody v1 v2 cdv A outer s H E hr;refine ⟨tt, hp, ?_⟩;let m := N.length - 3;have sl : Slots K cn H Z (bZ N.length [t0, t1, t2]) (L2.start N [v0, v1, v2]) ([] :: B1 :: B2 :: List.replicate m []) := by unfold bZ L2.start;exact ⟨some v0, _, [], _, rfl, rfl, ⟨_, rfl, r0⟩, some v1, _, B1, _, rfl, rfl, ⟨_, rfl, r1⟩, some v2, _, B2, _, rfl, rfl, ⟨_, rfl, r2⟩, ai5 m⟩
  have fl : ([] :: B1 :: B2 :: List.replicate m []).flatten = B1 ++ B2 := by rw [B8, B8, B8, mT]; simp
  have fl2 : ∀ C1 C2 : List Addr, [C1, C2].flatten = C1 ++ C2 := fun C1 C2 => by simp
  have F0 : Frm [(1, v1), (2, v2)] K cn H Z (bZ N.length [t0, t1, t2]) (L2.start N [v0, v1, v2]) ([] :: B1 :: B2 :: List.replicate m []) :=
    ⟨sl, by rw [fl]; exact nd, by rw [fl]; exact nz, zi, fun p hp => by
      rcases B6.mp hp with rfl | hp
      . rfl
      . rw [C3] at hp;subst hp;rfl⟩
  refine ht _ H Z _ _ F0 _ ?_;rw [hG] at eg;have done : ∀ {U : Fr} {σ' : St} {As' : List (List Addr)} {H' : Hp} {Z' : Addr → Prop} {v : V}, Frm [(1, v1), (2, v2)] K cn H' Z' U σ' As' → Ev ([] :: B1 :: B2 :: List.replicate m []) H Z As' H' Z' → Rep K cn H' Z' t v [] → U[1]? = some (some u1) → U[2]? = some (some u2) → Q v H' := by
    intro U σ' As' H' Z' v F' ev rv e1 e2;obtain ⟨x1, s1, q1⟩ := F'.sl.get e1;obtain ⟨x2, s2, q2⟩ := F'.sl.get e2;have p1 := F'.pn (1, v1) (A9);have p2 := F'.pn (2, v2) (A5 _ (C3.mpr rfl));simp only at p1 p2;rw [s1] at p1;rw [s2] at p2;cases p1;cases p2;refine w v H' Z' _ _ ⟨fun a o h q => ev.keep a o h (by rw [fl]; rw [fl2] at q; exact q), fun a ha => ?_, ev.zz, fun a h => ?_, ev.dom⟩ rv q1 q2 ?_
    . rw [fl2, A6] at ha;have q := ev.own a (ha.elim bB bB);rw [fl] at q;rw [fl2];exact q
    . have q := ev.zn a h;rw [fl] at q;rw [fl2];exact q
    . rw [C9];refine ⟨mD F'.nd 1, mD F'.nd 2, fun a ha b hb e => ?_⟩;subst e;have := xV F'.nd ha hb;cases this
  cases ed : d (bZ N.length [t0, t1, t2]) with
  | nx U =>
    rw [ed] at eg;intro σ' As' H' Z' F' ev;simp only [br2] at eg;split at eg
    . next a b e1 e2 =>
      cases eg;exact done F' ev (by simp [Rep]) e1 e2
    . cases eg
  | rm U t' =>
    rw [ed] at eg;intro v σ' As' H' Z' F' ev rv;simp only [br2] at eg;split at eg
    . next a b e1 e2 =>
      cases eg;exact done F' ev rv e1 e2
    . cases eg
  | _ => rw [ed] at eg; cases eg
def dg2{P:E2}{w:World}{mg:aa}{base:Heap}{x:Str}{st:Stmt}{N ps:am}{k:Nat}{d:Fr->bR}(F:dR K mg x st)(S:aV N ps (aL st))
 (hb:∀(kV doc pm:Value)(an:bb)(cdv ct:Value)(us:aq),us.length=ps.length->bindArgs (PySem.W.fnOf x x (jB st) (cP st) (aL st) .none kV doc pm an cdv ct) ⟨us,[]⟩=pure (ps.zip us))
 (hbody:∀(v1 v2:V)(f:Addr)(cdv:Value)(A:G0)(outer:bg)(s:B0)(H:Hp)(E:XK),Room k (A.deeper (envOfC x (aL st) s.heap.objs.size f cdv))->
  ∃t,PSs (kQ kS P w K mg base N x (aL st) f cdv A outer s H E).nox (cP st) t/\RS [(1,v1),(2,v2)] K cn E t d){G:bv}(hn:ps.length=3)(hG:∀t0 t1 t2,G t0 t1 t2=br2 (d (bZ N.length [t0,t1,t2]))):dY P w K mg base (k+1) x ps (spM K cn G):=by
 refine z21 F.ex λf fd F hm=>?_;exact⟨f,fd,dt7 F S (λv1 v2 cdv A outer s H E hr=>hbody v1 v2 f cdv A outer s H E hr) hn hG,hm,F.kp,F.binds hb⟩
def bb0(G:bv)(j0 j1 j2:Nat)(U:Fr):Option (T×T×T):=match U[j0]? with
 |some (some t0)=>match U[j1]? with
  |some (some t1)=>match U[j2]? with
   |some (some t2)=>match G (frz t0) t1 t2 with
    |.ok (t,u1,u2)=>if(cK t&&cQ t&&cK u1&&cK u2)=true then some (t,u1,u2)else none
    |_=>none
   |_=>none
  |_=>none
 |_=>none
def aw0(i j0 j1 j2:Nat)(G:bv):Fr->bR:=λU=>match bb0 G j0 j1 j2 U with
 |some (t,u1,u2)=>.nx (((U.set j1 (some u1)).set j2 (some u2)).set i (some t))
 |none=>.no
def bp4{α:Type}{l:List α}{i:Nat}{x:α}(h:l[i]?=some x):l.set i x=l:=by
 apply List.ext_getElem?;intro j;by_cases e:i=j
 . subst e;rw[List.getElem?_set_self',h];rfl
 . rw[G7 e]
theorem dy4{i j0 j1 j2:Nat}{G:bv}(h01:j0≠j1)(h02:j0≠j2)(h12:j1≠j2)(hJ:vG Jn i=true)(h1:vG Jn j1=true)(h2:vG Jn j2=true):RS Jn K cn E (ba2 (cc7 (spM K cn G) (nU (ad5 j0) (nU (ad5 j1) (nU (ad5 j2) xZ)))) (as5 i)) (aw0 i j0 j1 j2 G):=λAs H Z U O F D w=>by
 unfold aw0 at w;cases ec:bb0 G j0 j1 j2 U with
 |none=>rw[ec]at w;exact w.elim
 |some q=>
  obtain⟨t,u1,u2⟩:=q;rw[ec]at w;unfold bb0 at ec;split at ec
  . next t0 e0=>
    split at ec
    . next t1 e1=>
      split at ec
      . next t2 e2=>
        split at ec
        . next t' u1' u2' eG=>
          split at ec
          . next hc=>
            cases ec;simp only[E4]at hc;obtain⟨⟨⟨ct,nt⟩,c1⟩,c2⟩:=hc;obtain⟨v0,s0,r0⟩:=F.sl.get e0;obtain⟨v1,s1,r1⟩:=F.sl.get e1;obtain⟨v2,s2,r2⟩:=F.sl.get e2;have inF:∀{j:Nat}{a:Addr},a∈As.getD j []->a∈As.flatten:=λh=>bB h;have dA:∀a∈As.flatten,H a≠none:=λa ha=>by obtain⟨o,q,_⟩:=F.sl.dom a ha;rw[q];exact λz=>nomatch z
            refine⟨v0,s0,v1,s1,v2,s2,v0,v1,v2,rfl,frz t0,t1,t2,(λa=>Z a\/a∈As.getD j0 []),As.getD j1 [],As.getD j2 [],λa h=>h.elim (F.zi a) λh=>dA a (inF h),Rep.frz t0 r0 (λa h=>.inl h) (λa h=>.inr h),r1.same (Same.refl _) (λa h=>.inl h),r2.same (Same.refl _) (λa h=>.inl h),?_,?_,t,u1,u2,eG,?_⟩
            . rw[C9];refine⟨mD F.nd j1,mD F.nd j2,λa ha b hb e=>?_⟩;subst e;exact h12 (xV F.nd ha hb)
            . intro a ha z;rw[A6]at ha;rcases z with z|z
              . exact F.nz a (ha.elim inF inF) z
              . rcases ha with ha|ha
                . exact h01 (xV F.nd z ha)
                . exact h02 (xV F.nd z ha)
            . intro v H' Z' C1 C2 ev rt q1 q2 ndC;have fl2:∀C1 C2:List Addr,[C1,C2].flatten=C1++C2:=λC1 C2=>by simp
              show D.nx (O.set i (some v)) H';have F1:=(F.kill j1).kill j2;have out:∀a∈((As.set j1 []).set j2 []).flatten,a∈As.flatten/\a∉As.getD j1 []/\a∉As.getD j2 []:=λa ha=>by
               have m1:a∈(As.set j1 []).flatten:=(eJ ha).elim (λq=>nomatch q) id;have m0:a∈As.flatten:=(eJ m1).elim (λq=>nomatch q) id;refine⟨m0,λh=>?_,λh=>?_⟩
               . exact wI (mv:=[j1]) F.nd (C3.mpr rfl) h m1
               . refine wI (mv:=[j2]) (F.kill j1).nd (C3.mpr rfl) (i:=j2) ?_ ha;rw[A4,G7 h12,<-A4];exact h
              have kp:∀a o,H a=some o->(a∈((As.set j1 []).set j2 []).flatten\/Z a\/sM o=true)->H' a=some o:=λa o q c=>ev.keep a o q λhx=>by
               rw[fl2,A6]at hx;rcases c with c|c|c
               . exact hx.elim (out a c).2.1 (out a c).2.2
               . exact F.nz a (hx.elim inF inF) c
               . obtain⟨o',q',c'⟩:=F.sl.dom a (hx.elim inF inF);rw[q]at q';cases q';rw[c]at c';cases c'
              have dom':∀a,H a≠none->H' a≠none:=λa h q=>h (ev.dom a q);have F2:Frm Jn K cn H' Z ((U.set j1 none).set j2 none) O ((As.set j1 []).set j2 []):=⟨F1.sl.keep (λ_ h=>h) kp,F1.nd,F1.nz,λa h=>dom' a (F.zi a h),F1.pn⟩;have own:∀a∈C1++C2,(a∈As.getD j1 []\/a∈As.getD j2 [])\/H a=none:=λa ha=>by have q:=ev.own a (by rw[fl2];exact ha);rw[fl2,A6]at q;exact q
              have cz:∀a∈C1++C2,¬Z a:=λa ha z=>by
               rcases own a ha with q|q
               . exact F.nz a (q.elim inF inF) z
               . exact F.zi a z q
              have co:∀a∈C1++C2,a∉((As.set j1 []).set j2 []).flatten:=λa ha hm=>by
               rcases own a ha with q|q
               . exact q.elim (out a hm).2.1 (out a hm).2.2
               . exact dA a (out a hm).1 q
              rw[C9]at ndC;have F3:=F2.set (Rep.any u1 c1 q1) ndC.1 (λb hb=>cz b (C6 _ hb)) j1 (λb hb hm=>D8 hm (co b (C6 _ hb))) h1;have F4:=F3.set (Rep.any u2 c2 q2) ndC.2.1 (λb hb=>cz b (B5 _ hb)) j2 (λb hb hm=>by
               rcases eJ hm with q|q
               . exact D8 rfl (ndC.2.2 b q b hb)
               . exact D8 q (co b (B5 _ hb))) h2
              have F5:=F4.set (Rep.any t ct rt) F6 dN i dN hJ;have eσ:((O.set j1 (some v1)).set j2 (some v2))=O:=by rw[bp4 s1,bp4 s2]
              rw[eσ]at F5;have eρ:((((U.set j1 none).set j2 none).set j1 (some u1)).set j2 (some u2))=(U.set j1 (some u1)).set j2 (some u2):=by rw[List.set_comm _ _ h12,List.set_set,List.set_comm _ _ (N8 h12),List.set_set]
              rw[eρ]at F5;refine w _ _ H' Z F5 ⟨λa o q n=>ev.keep a o q λhx=>?_,λa ha=>?_,λ_ h=>h,λ_ h=>.inl h,ev.dom⟩
              . rw[fl2,A6]at hx;exact n (hx.elim inF inF)
              . rcases eJ ha with q|q
                . cases q
                . rcases eJ q with q|q
                  . rcases own a (B5 _ q)with q|q
                    . exact .inl (q.elim inF inF)
                    . exact .inr q
                  . rcases eJ q with q|q
                    . rcases own a (C6 _ q)with q|q
                      . exact .inl (q.elim inF inF)
                      . exact .inr q
                    . exact .inl (out a q).1
          . cases ec
        . cases ec
      . cases ec
    . cases ec
  . cases ec
end
end TL
namespace L2
section
variable{X:Cx}
def dv9(K:A1):List V->Hp->VK->Prop:=λxs H Q=>∃(p:Addr)(ns:ah),xs=[.ref p]/\SqL K H p (ns.map V.int)/\Q (.int ns.sum) H
def da0(K:A1)(hc:autoParam (X.calm=true) Z8)(hK:autoParam (X.K=K) Z8):CallR X (.builtin "sum") (dv9 K):=by
 subst hK;intro ζ s O H xs us Q I r h;refine z22 h λp ns zz hp q=>?_;clear h;subst zz;obtain⟨u,rfl,ru⟩:=r.one;obtain rfl:u=Value.ref p:=ru;refine z12 (I.list hp) λits rv pl _=>?_;have hi:IntsAre its ns:=xI rv;have hl:=pl.isList;obtain⟨zs,e⟩:=hi.allInts.items;have hns:ns=zs.toList.map (·.1):=by rw[<-hi.numsOf,<-nums_intItems,<-e]
 rw[e]at hl;refine sum_intListG (I.ok.hd hc) hl λh' tk t' hk=>?_;have es:preSum (numAt zs) zs.size=ns.sum:=by rw[preSum_eq,S4 Y1,<-hns]
 rw[es];exact⟨.int _,H,I.kept hk,⟨t',rfl⟩,q⟩
def cb1:List V->Hp->VK->Prop:=λxs H Q=>∃n:Int,xs=[.int n]/\0<=n/\n<=16777216/\∀l,H l=none->Q (.ref l) (upd H l (.lst ((List.range n.toNat).map λi=>V.int (i:Nat))))
theorem ab7:∀{xs:a9}{us:aq},xs.length=us.length->(∀(j:Nat) x u,xs[j]?=some x->us[j]?=some u->RelV x u)->Vals xs us
 |[],[],_,_=>.nil
 |x::xs,u::us,h,k=>.cons (k 0 x u rfl rfl) (ab7 (by simpa using h) λj y v e1 e2=>k (j+1) y v (by simpa using e1) (by simpa using e2))
theorem cm5(hm:X.mg "list"=none)(hm2:X.mg "range"=none)(ha:PA X [e] t)(hc:autoParam (X.calm=true) Z8)(hg:autoParam (Gl X "list") Z8)(hg2:autoParam (Gl X "range") Z8)(he:autoParam (starEach [e] X.env=[(false,eval e X.env)]) Z8):
 PE X (.Call (.Name "list" p) [.Call (.Name "range" p2) [e] [] pos2] [] pos) (tCB cb1 t):=by
 intro ζ s O H Q I h;refine K6 (oM I hg hm iR ?_);refine J9 (PyProof.Rows.args_cons ?_) rfl rfl;refine K6 (oM I hg2 hm2 boot_range ?_);refine J9 (wP (ha ζ s O H _ I h) λus s1 vs H1 I1 r1 q1=>?_) he rfl;refine z13 q1 λn zz h0 h1 q=>?_;clear q1;subst zz;cases r1 with
 |cons r rr=>
  cases rr;obtain⟨tk,rfl⟩:=r;refine call_range_1 (PyProof.Rows.args_nil ?_);have ers:Builtin.Range.rangeSize 0 n 1=((n.toNat:Nat):Int):=by rw[rangeSize_one];split<;>omega
  refine call_list_range (I.ok.hd hc) (IsRange.new ..) (small_one X8 X8 X8 X8) ers X8 λh' tk' acc c' hk ho hi=>?_;have I2:=I1.kept (t':=s1.toks+1+1) (h':=s1.heap.push {cls:=Value.type "range",data:=.fields #[Value.int 0 s1.toks,Value.int n tk,Value.int 1 (s1.toks+1)]}) λb ob q=>A7 _ q;refine⟨.ref _,_,I2.laid (t':=tk') (o:=.lst ((List.range n.toNat).map λi=>V.int (i:Nat))) hk (D4 _) ?_,rfl,q _ (I2.hok.fresh (D4 _))⟩;obtain⟨hs,hv⟩:=hi;refine⟨by rw[B7,P7];unfold sizeLine;omega,acc.toList,c',ab7 (by rw[B7,P7,G5,hs]) λj x u e1 e2=>?_,by simpa using ho⟩;rw[E3]at e1;cases eg:(List.range n.toNat)[j]? with
  |none=>rw[eg]at e1;cases e1
  |some i=>
   rw[eg]at e1;cases e1;have hj:i=j:=by have:=C8.mp eg;obtain⟨hl,e⟩:=this;rw[List.getElem_range]at e;exact e.symm
   subst hj;obtain⟨tt,et⟩:=hv i u (by rw[<-X4];exact e2);rw[et];exact⟨tt,Y1⟩
end
end L2
namespace TL
open PySem L2
section
variable{K:A1}{cn:ac}
def br8:List T->Res T
 |[.lst _ ts]=>match af2 ts with
  |some ns=>.ok (.int ns.sum)
  |none=>.no
 |_=>.no
def fa1:wQ K cn (dv9 K) br8:=λE As H Z ts xs A Q zi r w=>by
 unfold br8 at w;split at w
 . next o ts=>
   split at w
   . next ns h=>
     obtain⟨v,rfl,rv⟩:=r.one1;refine z33 rv.lstSq λq vs C zz hs r' _=>?_;subst zz;have:=ap0 ts r' h;subst this;exact⟨q,ns,rfl,hs.sq,w.val zi (kT _)⟩
   . exact w.elim
 . exact w.elim
noncomputable def ab6:List T->Res T
 |[.int n]=>gate (0<=n/\n<=16777216) (.ok (.lst true (((List.range n.toNat).map Int.ofNat).map .int)))
 |_=>.no
def eq8:wQ K cn cb1 ab6:=λE As H Z ts xs A Q zi r w=>by
 unfold ab6 at w;split at w
 . next n=>
   by_cases g:0<=n/\n<=16777216
   . rw[gM g]at w;rw[r.ints1];refine⟨n,rfl,g.1,g.2,λl hl=>?_⟩;have:=w.newL zi (de3 _) l hl;rw[J3]at this;exact this
   . unfold gate at w;rw[D3 g]at w;exact w.elim
 . exact w.elim
def fu1(o:Bool)(ns:ah):br8 [.lst o (ns.map .int)]=.ok (.int ns.sum):=by simp only[br8,yH]
theorem dj0(n:Int):ab6 [.int n]=gate (0<=n/\n<=16777216) (.ok (.lst true (((List.range n.toNat).map Int.ofNat).map .int))):=rfl
end
end TL
namespace L2
section
variable{X:Cx}
structure IsC (K:A1) (C:Addr):Prop where
 ha:PySem.W.findIn K (.ref C) "__class__"=some (some (.builtin "object.__class__"))
 hn:PySem.W.specialIn K (.builtin "object.__class__") "__get__"=some (some (.builtin "getset_descriptor.__get__"))
 htk:PySem.W.takesIn K (.builtin "object.__class__")=some true
 hm:PySem.W.mroIn K C (.type "object")=some true
def fm6{K:A1}{C:Addr}(a:PySem.W.findIn K (.ref C) "__class__"=some (some (.builtin "object.__class__")))(b:PySem.W.specialIn K (.builtin "object.__class__") "__get__"=some (some (.builtin "getset_descriptor.__get__")))(c:PySem.W.takesIn K (.builtin "object.__class__")=some true)
 (d:PySem.W.mroIn K C (.type "object")=some true):IsC K C:=⟨a,b,c,d⟩
def fl4(K:A1)(C D:Addr)(b:Bool):Prop:=PySem.W.kitOne K (.ref C) (.ref D)=some b
def fd6{K:A1}{C D:Addr}{b:Bool}(h:PySem.W.kitOne K (.ref C) (.ref D)=some b):fl4 K C D b:=h
def eb9{K:A1}{h:Heap}{mg:aa}(X:K.In h)(G:h.Ns mainGlobals mg){x:Str}{C:Addr}(a:PySem.W.nsIn K mainGlobals x=some (some (.ref C))):mJ mg x (.ref C):=⟨_,Q7 X G a,rfl⟩
end
end L2
namespace TL
open L2
section
variable{Jn:iK}{K:A1}{cn:ac}{E:XK}
def aw1(cn:ac)(tabs:List (Str×Bool))(tab:List (Addr×Bool)):Prop:=∀c b C,tabs.lookup c=some b->cn c=some C->(C,b)∈tab
def dj1(h:cn c=some C)(r:aw1 cn tabs tab):aw1 cn ((c,b)::tabs) ((C,b)::tab):=λc' b' C' hl hc=>by
 rw[G1]at hl;by_cases e:c'=c
 . subst e;rw[h]at hc;cases hc;simp at hl;subst hl;exact A9
 . rw[show(c'==c)=false from by rw[G3];exact e]at hl;exact A5 _ (r c' b' C' hl hc)
noncomputable def cm7:T->Option V
 |.non=>some .non
 |.bl b=>some (.bl b)
 |.int i=>some (.int i)
 |.str x=>some (.str x)
 |_=>none
def fg5(c f:Str)(a:ay):Fr->Res T:=λU=>(a U).bind λts=>match ts with
 |[t]=>match cm7 t with
  |some v=>.ok (.err c [(f,v)])
  |none=>.no
 |_=>.no
def fq3(c:Str):Fr->Res T:=λ_=>.ok (.err c [])
def ee5(c f:Str)(a:ay):Fr->bR:=λU=>match a U with
 |.ok [t]=>match cm7 t with
  |some v=>.ex ⟨c,[(f,v)]⟩
  |none=>.no
 |.ex x=>.ex x
 |_=>.no
def bw2(c:Str):Fr->bR:=λ_=>.ex ⟨c,[]⟩
def dz0(hc:cn c=some C):RS Jn K cn E (cu4 C E) (bw2 c):=λAs H Z U O F D w=>
 w C none H Z ⟨⟨λ_ _ q _=>q,λa h=>by simp at h,λ_ h=>h,λ_ h=>.inl h,λ_ h=>h⟩,hc,F.zi,.inl ⟨rfl,rfl⟩⟩
def lE(n:Nat)(G:bc)(ts:aw):Res T:=if ts.length=n then match G (frzs ts)with
 |.ok t=>if(cK t||bF ts)=true then .ok t else .no
 |.ex x=>.ex x
 |.no=>.no else .no
theorem bt4(m:Mo H Z H1 Z1)(r1:Reps K cn H1 Z1 ts vs B)(hl:ts.length=n)
 (w:∀t,lE n G ts=.ok t->WpE K cn E As H Z [] Q (.ok t))(hno:lE n G ts≠ .no)(hx:∀x,lE n G ts=.ex x->∀C a H' Z',XPost K cn [] H1 (λa=>Z1 a\/a∈B) x C a H' Z'->EX (.ref C) a H'):bK K cn n G vs H1 Q EX:=by
 cases e:G (frzs ts)with
 |ok t=>
  by_cases hc:(cK t||bF ts)=true
  . refine au7 (E:=E) (As:=As) m r1 ?_;have e1:tD n G ts=.ok t:=by unfold tD;rw[C7 hl,e];simp only;rw[C7 hc]
    rw[e1];exact w t (by unfold lE;rw[C7 hl,e];simp only;rw[C7 hc])
  . exact D8 (by unfold lE;rw[C7 hl,e];simp only;rw[D3 hc]) hno
 |ex x=>
  refine⟨by rw[Reps.length ts r1,hl],frzs ts,(λa=>Z1 a\/a∈B),λa h=>?_,Reps.frz ts r1 (λa h=>.inl h) (λa h=>.inr h),?_⟩
  . rcases h with h|h
    . exact m.zi a h
    . obtain⟨o,q,_⟩:=Reps.dom ts r1 a h;rw[q];exact(λz=>nomatch z)
  rw[e];exact hx x (by unfold lE;rw[C7 hl,e])
 |no=>exact D8 (by unfold lE;rw[C7 hl,e]) hno
def XPost.up(m:Mo H Z H1 Z1)(sm:∀b o,H1 b=some o->H2 b=some o/\b∉As1.flatten)(p:XPost K cn As1 H2 Z2 x C a H' Z'):XPost K cn As H Z x C a H' Z1:=by have s2:Same H1 H':=λb o q=>p.ev.keep b o (sm b o q).1 (sm b o q).2;exact⟨⟨λb o q _=>s2 b o (m.same b o q),λa h=>by simp at h,m.zz,λa z=>(m.zn a z).imp_right .inr,λa q=>m.same.free (s2.free q)⟩,p.cls,λa z q=>m.zi a z (s2.free q),p.flds⟩
def ax8(n:Nat)(G:bc)(r:ay):Fr->Res T:=λU=>(r U).bind λts=>lE n G ts
theorem eh4(ha:wN Jn K cn E ta a):RE Jn K cn E [] (by7 (bK K cn n G) E ta) (ax8 n G a):=λAs H Z U O F Q w=>by
 unfold ax8 at w;refine ha As H Z U O F _ ?_;cases e:a U with
 |ok ts=>
  rw[e]at w;intro vs H1 Z1 B m r1;simp only[Res.bind]at w;have hl:ts.length=n:=by
   by_cases h:ts.length=n
   . exact h
   . unfold lE at w;rw[D3 h]at w;exact w.elim
  refine bt4 (E:=E) (As:=As) m r1 hl (λt q=>by rw[q]at w;exact w) (λq=>by rw[q]at w;exact w) (λx q C a H' Z' p=>?_);rw[q]at w;exact w C a H' Z1 (p.up m λb o q=>⟨q,Y1⟩)
 |_=>rw[e]at w;exact w
def cy5(n:Nat)(G:bc)(cs:am)(k:Nat)(a:ay)(ds:Fr->bR)(g:T->Fr->Fr):Fr->bR:=λU=>match a U with
 |.ok ts=>(match lE n G ts with
  |.ok t=>.nx (g t U)
  |.ex x=>if cs.contains x.c=true then(match ds (U.set k (some (.err x.c x.fs)))with
   |.nx ρ'=>.nx (kills [k] ρ')
   |_=>.no)else .no
  |.no=>.no)
 |.ex x=>.ex x
 |.no=>.no
theorem ez9{n:Nat}{G:bc}{cs:am}{CE:Addr}{k:Nat}{ta:TA}{ts:TS}{a:ay}{ds:Fr->bR}{g:T->Fr->Fr}{gv:V->St->St}
 (hg:∀As H Z U O t v B,Frm Jn K cn H Z U O As->Rep K cn H Z t v B->B.Nodup->(∀b∈B,¬Z b)->(∀b∈B,b∉As.flatten)->∃As',Frm Jn K cn H Z (g t U) (gv v O) As'/\∀a∈As'.flatten,a∈As.flatten\/a∈B)
 (hcs:∀c C,cs.contains c=true->cn c=some C->PySem.W.mroIn K C (.ref CE)=some true)(hJ:vG Jn k=true)(ha:wN Jn K cn E ta a)(hs:RS Jn K cn E ts ds):RS Jn K cn E (eh5 (bK K cn n G) K CE k ta ts gv) (cy5 n G cs k a ds g):=λAs H Z U O F D w=>by
 unfold cy5 at w;refine ha As H Z U O F _ ?_;cases e:a U with
 |ok us=>
  rw[e]at w;intro vs H1 Z1 B m r1;simp only at w;have hl:us.length=n:=by
   by_cases h:us.length=n
   . exact h
   . have:lE n G us=.no:=by unfold lE;rw[D3 h]
     rw[this]at w;exact w.elim
  refine bt4 (E:=E) (As:=As) m r1 hl (λt q=>?_) (λq=>by rw[q]at w;exact w) (λx q C a H' Z' p=>?_)
  . rw[q]at w;intro v H2 Z2 C p;obtain⟨As',F',h'⟩:=hg As H2 Z2 U O t v C (F.mo p.mo) p.rep p.nd p.bz (λb hb hA=>by
     obtain⟨o,e1,_⟩:=F.sl.dom b hA;rcases p.bn b hb with q|⟨i,hi,_⟩
     . rw[e1]at q;cases q
     . cases hi)
    refine w _ As' H2 Z2 F' ⟨λa o h n=>p.same a o h,λa ha=>?_,p.zz,λa h=>(p.zn a h).imp_right .inr,λa h=>p.same.free h⟩;rcases h' a ha with q|q
    . exact .inl q
    . rcases p.bn a q with q|⟨i,hi,_⟩
      . exact .inr q
      . cases hi
  . rw[q]at w;simp only at w;split at w
    . next hc=>
      have s1:Same H1 H':=λb o q=>p.ev.keep b o q Y1;have m2:Mo H1 Z1 H' Z1:=⟨s1,λ_ h=>h,λ_ h=>.inl h,λa z q=>m.zi a z (s1.free q)⟩;refine⟨C,rfl,hcs _ _ hc p.cls,λea hea=>?_⟩;have s2:Same H' (upd H' ea (uE ea C a)):=λb u q=>by rw[cE (hU q hea)];exact q
      have m3:Mo H Z (upd H' ea (uE ea C a)) Z1:=(m.trans m2).trans ⟨s2,λ_ h=>h,λ_ h=>.inl h,λa z q=>m2.zi a z (s2.free q)⟩;have re:Rep K cn (upd H' ea (uE ea C a)) Z1 (.err x.c x.fs) (.ref ea) []:=by simp only[Rep];exact⟨ea,C,a,rfl,trivial,p.cls,fR,p.flds.imp_right λ⟨d,q1,q2⟩=>⟨d,q1,s2 _ _ q2⟩⟩
      have F2:=(F.mo m3).set re F6 dN k (λb hb=>by cases hb) hJ;refine hs _ _ _ _ _ F2 (dS D k) ?_;have ev0:Ev As H Z (As.set k []) (upd H' ea (uE ea C a)) Z1:=⟨λb o q _=>m3.same b o q,λb hb=>.inl ((eJ hb).elim (λz=>nomatch z) id),m3.zz,λb z=>(m3.zn b z).imp_right .inr,λb q=>m3.same.free q⟩;split at w
      . next ρ' ed=>
        rw[ed];intro σ' As' H3 Z3 F3 ev3;refine w _ _ H3 Z3 (F3.clr [k] (by unfold yB;simp[hJ])) ?_;refine(ev0.trans ev3).trans ⟨λ_ _ q _=>q,λb hb=>.inl (gA hb),λ_ h=>h,λ_ h=>.inl h,λ_ h=>h⟩
      . exact w.elim
    . exact w.elim
 |_=>rw[e]at w;exact w
def ee2:∀As H Z U O t v B,Frm Jn K cn H Z U O As->Rep K cn H Z t v B->B.Nodup->(∀b∈B,¬Z b)->(∀b∈B,b∉As.flatten)->∃As',Frm Jn K cn H Z ((λ_ U=>U:T->Fr->Fr) t U) ((λ_ O=>O:V->St->St) v O) As'/\∀a∈As'.flatten,a∈As.flatten\/a∈B:=
 λAs _ _ _ _ _ _ _ F _ _ _ _=>⟨As,F,λ_ h=>.inl h⟩
noncomputable def qR(tabs:List (Str×Bool)):T->Res T
 |.err c _=>match tabs.lookup c with
  |some b=>.ok (.bl b)
  |none=>.no
 |.non=>.ok (.bl false)
 |_=>.no
theorem ew1(hT:aw1 cn tabs tab)(ha:RB Jn K cn E ta d):RE Jn K cn E [] (tCB (dy9 tab D) (nU ta (nU (tC D) xZ))) (dQ (qR tabs) d):=λAs H Z U O F Q w=>by
 unfold dQ at w;refine ha As H Z U O F _ ?_;cases e:d U with
 |ok t=>
  rw[e]at w;intro v H1 Z1 B p;simp only[Res.bind,qR]at w;split at w
  . next c fs=>
    split at w
    . next b hb=>
      refine z34 (by have:=p.rep;simpa only[Rep]using this:∃a C dx,v=.ref a/\B=[]/\cn c=some C/\H1 a=some (uE a C dx)/\af8 H1 dx fs) λq C dx zz0 _ hC h1 h2=>?_;subst zz0;exact⟨.ref q,rfl,.inr ⟨q,C,dx,fs,b,rfl,h1,h2,hT c b C hb hC,w (.bl b) H1 Z1 [] ⟨p.same,p.zz,p.zn,p.zi,⟨rfl,rfl⟩,F6,dN,dN⟩⟩⟩
    . exact w.elim
  . have:v=.non:=by have:=p.rep;simp only[Rep]at this;exact this.1
    subst this;exact⟨.non,rfl,.inl ⟨rfl,w (.bl false) H1 Z1 [] ⟨p.same,p.zz,p.zn,p.zi,⟨rfl,rfl⟩,F6,dN,dN⟩⟩⟩
  . exact w.elim
 |_=>rw[e]at w;exact w
end
end TL
namespace L2
open PySem PySem.Spec PyProof.Rows PySem.W
structure fp5 (K:A1) (mg:aa) (x:Str) (C:Addr) (f qual:Str) (st:Stmt):Prop where
 flds:ErrF K C f
 glob:mg x=some (.ref C)
 kp:keepIn K (.ref C)=true
 ex:∃g fd,findIn K (.ref C) "__init__"=some (some (.ref g))/\isFn K (.ref g)=true/\Fun K "__init__" qual st g fd
def cb5(K:A1)(C:Addr):Bool:=match clsIn K C with
 |some cd=>br9 cd.mro&&cd.mro.contains (.type "object")&&cd.mro.contains (.type "BaseException")
 |none=>false
def cs3{K:A1}{C:Addr}(a:ax5 K C=true)(b:cb5 K C=true)(c:findIn K (.ref C) "__getattribute__"=some (some (.builtin "BaseException.__getattribute__")))(d:findIn K (.ref C) "__getattr__"=some none)(e:findIn K (.ref C) "__class__"=some (some (.builtin "object.__class__")))
 (f:specialIn K (.builtin "object.__class__") "__get__"=some (some (.builtin "getset_descriptor.__get__")))(g:takesIn K (.builtin "object.__class__")=some true)(h:mroIn K C (.type "object")=some true):ErrG K C:=by
 refine⟨a,?_,c,d,e,f,g,h⟩;unfold cb5 at b;split at b
 . rename_i cd q;simp only[E4]at b;exact⟨cd,q,b.1.1,b.1.2,b.2⟩
 . cases b
def fj6{K:A1}{h:Heap}{mg:aa}(X:K.In h)(G:h.Ns mainGlobals mg){x:Str}{C g:Addr}{f qual:Str}{st:Stmt}{oc:Value}{od an:bb}{osl:bp}{kV doc pm cdv ct:Value}(gl:nsIn K mainGlobals x=some (some (.ref C)))(eg:ErrG K C)
 (sa:findIn K (.ref C) "__setattr__"=some (some (.builtin "object.__setattr__")))(no:findIn K (.ref C) f=some none)(kc:keepIn K (.ref C)=true)(a:findIn K (.ref C) "__init__"=some (some (.ref g)))(b:isFn K (.ref g)=true)
 (l:K.lookup g=some ⟨oc,od,.func (PySem.W.fnOf "__init__" qual (jB st) (cP st) (aL st) .none kV doc pm an cdv ct),osl⟩)(c:codeIn K cdv qual=true)(k:keepIn K (.ref g)=true):fp5 K mg x C f qual st:=
 ⟨⟨eg,sa,no⟩,mg_of X G gl,kc,g,_,a,b,ab5 l c k⟩
def ey1{K:A1}{h:Heap}{mg:aa}(X:K.In h)(G:h.Ns mainGlobals mg){x:Str}{C:Addr}(gl:nsIn K mainGlobals x=some (some (.ref C)))(eg:ErrG K C)(kc:keepIn K (.ref C)=true)(e:bu0 K C=true):cm6 K mg x C:=⟨eg,mg_of X G gl,kc,e⟩
def ee1{K:A1}{h:Heap}{mg:aa}(X:K.In h)(G:h.Ns mainGlobals mg){x:Str}{C:Addr}(gl:nsIn K mainGlobals x=some (some (.ref C)))(b:mroIn K C (.type "BaseException")=some true)(t:typeIn K (.ref C)=some (.type "type")):cj5 K mg x C:=⟨mg_of X G gl,b,t⟩
def cs7(K:A1)(C:Addr)(D:V)(b:Bool):Prop:=kitOne K (.ref C) (ax4 D)=some b
def bm8(K:A1)(D:V):Prop:=kitOne K (.type "NoneType") (ax4 D)=some false
def dj9(K:A1)(C D:Addr):Prop:=mroIn K C (.ref D)=some true
def eu2{K:A1}{C:Addr}{D:V}{b:Bool}(h:kitOne K (.ref C) (ax4 D)=some b):cs7 K C D b:=h
def ef0{K:A1}{D:V}(h:kitOne K (.type "NoneType") (ax4 D)=some false):bm8 K D:=h
def dz5{K:A1}{C D:Addr}(h:mroIn K C (.ref D)=some true):dj9 K C D:=h
def em2{K:A1}{C:Addr}(k:bm8 K (.ref C)):IsN K (.ref C):=⟨rfl,k⟩
def ey4{K:A1}{n:String}(k:bm8 K (.ty n)):IsN K (.ty n):=⟨rfl,k⟩
def bo6:bootBuiltins "ValueError"=some (.type "ValueError"):=X9
end L2
namespace TL
open L2
section
variable{K:A1}{cn:ac}
def en2{P:av}:∀(c:Str)(C:Addr),([]:List Str).contains c=true->cn c=some C->P C:=λ_ _ h=>nomatch h
def du6{P:av}{c₀:Str}{C₀:Addr}{cs:am}(hc:cn c₀=some C₀)(p:P C₀)(r:∀(c:Str)(C:Addr),cs.contains c=true->cn c=some C->P C):∀(c:Str)(C:Addr),(c₀::cs).contains c=true->cn c=some C->P C:=λc C h e=>by
 rw[V2,U6]at h;rcases h with h|h
 . have:c=c₀:=by simpa using h
   subst this;rw[hc]at e;cases e;exact p
 . exact r c C h e
def di4(ha:wN Jn K cn E ta a):RE Jn K cn E [] (by7 (bK K cn n G) E0 ta) (aW n G a):=dx0 ha
def aw4{P:E2}{w:World}{mg:aa}{base:Heap}{x:Str}{st:Stmt}{N ps:am}{k:Nat}{d:Fr->bR}(F:dR K mg x st)(S:aV N ps (aL st))
 (hb:∀(kV doc pm:Value)(an:bb)(cdv ct:Value)(us:aq),us.length=ps.length->bindArgs (PySem.W.fnOf x x (jB st) (cP st) (aL st) .none kV doc pm an cdv ct) ⟨us,[]⟩=pure (ps.zip us))
 (hbody:∀(f:Addr)(cdv:Value)(A:G0)(outer:bg)(s:B0)(H:Hp)(E:XK),Room k (A.deeper (envOfC x (aL st) s.heap.objs.size f cdv))->
  ∃t,PSs (kQ (CX1 P w) P w K mg base N x (aL st) f cdv A outer s H E) (cP st) t/\RS [] K cn E t d){n:Nat}{G:bc}(hn:ps.length=n)(hG:∀ts,G ts=bP (d (bZ N.length ts))):ad8 P w K mg base (k+1) x ps (bK K cn n G):=by
 refine z21 F.ex λf fd F hm=>?_;exact⟨f,fd,dt5 F S (λcdv A outer s H E hr=>hbody f cdv A outer s H E hr) hn hG,hm,F.kp,F.binds hb⟩
end
end TL
namespace L2
end L2
namespace TL
open L2
section
variable{P:E2}{w:World}{mg:aa}{base:Heap}{k:Nat}{Jn:iK}{K:A1}{cn:ac}{E:XK}
def ej1(n:Nat)(tabs:List (Str×(List T->Res T)))(i:a8)(r:ay):Fr->Res T:=λU=>(i U).bind λy=>match y with
 |.str z=>match tabs.lookup z with
  |some G=>(r U).bind λts=>lE n G ts
  |none=>.no
 |_=>.no
def bt9{D:V}{cs:ao}{bs:br}(h:∀c∈cs,ErrG K c)(k:∀q∈cs.zip bs,cs7 K q.1 D q.2):∀q∈cs.zip bs,IsE K q.1 D q.2:=λq hq=>⟨h q.1 (R0 hq).1,k q hq⟩
def CnL(cn:ac):List Str->List Addr->Prop
 |[],_=>True
 |_::_,[]=>False
 |n::ns,c::cs=>cn n=some c/\CnL cn ns cs
theorem yJ:∀{ns:am}{cs:ao}{bs:br},CnL cn ns cs->aw1 cn (ns.zip bs) (cs.zip bs)
 |_::_,_::_,_::_,h=>dj1 h.1 (yJ h.2)
 |[],_,_,_=>λ_ _ _ h=>by cases h
 |_::_,_,[],_=>λ_ _ _ h=>by cases h
 |_::_,[],_::_,h=>h.elim
end
end TL
namespace L2
open PySem PySem.Spec PyProof.Rows PySem.W
def bu2(K:A1)(C:Addr)(Cs:ao)(b:Bool):Prop:=kitAny K (.ref C) (Cs.map Value.ref)=some b
def bt7(K:A1)(Cs:ao):Prop:=kitAny K (.type "NoneType") (Cs.map Value.ref)=some false
def cb4{K:A1}{C:Addr}{Cs:ao}{b:Bool}(h:kitAny K (.ref C) (Cs.map Value.ref)=some b):bu2 K C Cs b:=h
def be8{K:A1}{Cs:ao}(h:kitAny K (.type "NoneType") (Cs.map Value.ref)=some false):bt7 K Cs:=h
def dm8(tab:List (Addr×Bool))(Cs:ao):List V->Hp->VK->Prop:=λxs H Q=>∃v p,xs=[v,.ref p]/\H p=some (.tup (Cs.map V.ref))/\((v=.non/\Q (.bl false) H)\/∃e C dx fs b,v=.ref e/\H e=some (uE e C dx)/\af8 H dx fs/\(C,b)∈tab/\Q (.bl b) H)
theorem bc5:∀{Cs:ao}{us:aq},Vals (Cs.map V.ref) us->us=Cs.map Value.ref
 |[],_,r=>by rw[K4]at r;cases r;rfl
 |C::Cs,_,r=>by
  rw[B9]at r;cases r with
  |@cons a b as bs h t=>rw[bc5 t,show b=Value.ref C from h];rfl
def bj5(N:bt7 X.K Cs)(hT:∀q∈tab,ErrG X.K q.1/\bu2 X.K q.1 Cs q.2):CallR X (.builtin "isinstance") (dm8 tab Cs):=by
 intro ζ s O H xs us Q I r h;obtain⟨v,p,rfl,hp,h⟩:=h;obtain⟨u,c,rfl,rx,rD⟩:=r.two;obtain rfl:c=Value.ref p:=rD;obtain⟨_,its,rv,o,h1,h2,n,h3⟩:=(show ObjOk X.prog X.w H s.heap p (.tup (Cs.map V.ref)) from I.hok p _ hp);have ei:=bc5 rv;obtain⟨oc,od,oda,os⟩:=o;have e1:oc=.type "tuple":=h2;have e3:oda=.seq its.toArray n:=h3;subst e1 e3 ei;rcases h with⟨rfl,q⟩|⟨e,C,dx,fs,b,rfl,he,hd,hq,q⟩
 . cases(show u=Value.none from rx);exact kia_tup kitx_none I.kIn True.intro h1 N (λz=>nomatch z) λtk=>⟨.bl false,H,I.tok _,rfl,q⟩
 . cases(show u=Value.ref e from rx);have o:=hT _ hq;exact kia_tup (cd1 o.1) I.kIn (bn9 I he hd) h1 o.2 (λz=>nomatch z) λtk=>⟨.bl b,H,I.tok _,rfl,q⟩
theorem PS.nox{X:Cx}{st:Stmt}{t:TS}(h:PS X.nox st t):PS X st t:=λζ s O H D I hw=>
 J1 (h s O H D (I.wish _) hw) (λ_ _ q=>q.unwish) λ_ _ z=>False.elim z
def cd6(tc:TA)(Cs:ao):Prop:=∀O H Q,Q (Cs.map V.ref) H->tc O H Q
def dq6:cd6 xZ []:=λ_ _ _ h=>h
def ci8(h:cd6 tc Cs):cd6 (nU (tC (.ref C)) tc) (C::Cs):=λO H Q q=>h O H _ q
end L2
namespace TL
open L2
section
variable{Jn:iK}{K:A1}{cn:ac}{E:XK}
theorem eu0(hT:aw1 cn tabs tab)(hc:cd6 tc Cs)(hl:Cs.length<=100)(ha:RB Jn K cn E ta d):RE Jn K cn E [] (tCB (dm8 tab Cs) (nU ta (nU (dk5 tc) xZ))) (dQ (qR tabs) d):=λAs H Z U O F Q w=>by
 unfold dQ at w;refine ha As H Z U O F _ ?_;cases e:d U with
 |ok t=>
  rw[e]at w;intro v H1 Z1 B p;refine hc O H1 _ ⟨by rw[B7,F9];omega,λa ha=>?_⟩;have m:=Mo.new (.tup (Cs.map V.ref)) ha p.zi;have e1:L2.upd H1 a (.tup (Cs.map V.ref)) a=some (.tup (Cs.map V.ref)):=by unfold L2.upd;exact C7 rfl
  have m2:=p.mo.trans m;have bP:∀b:Bool,WpE K cn E As H Z [] Q (.ok (.bl b))->Q (.bl b) (L2.upd H1 a (.tup (Cs.map V.ref))):=λb w=>w (.bl b) _ Z1 [] ⟨m2.same,m2.zz,m2.zn,m2.zi,by simp[Rep],F6,dN,dN⟩;have r:=p.rep.same m.same m.zz;simp only[Res.bind,qR]at w;split at w
  . next c fs=>
    split at w
    . next b hb=>
      refine z34 (by simpa only[Rep]using r:∃q C dx,v=.ref q/\B=[]/\cn c=some C/\L2.upd H1 a (.tup (Cs.map V.ref)) q=some (uE q C dx)/\af8 (L2.upd H1 a (.tup (Cs.map V.ref))) dx fs) λq C dx zz _ hC h1 h2=>?_;subst zz;exact⟨.ref q,a,rfl,e1,.inr ⟨q,C,dx,fs,b,rfl,h1,h2,hT c b C hb hC,bP b w⟩⟩
    . exact w.elim
  . have:v=.non:=by have:=p.rep;simp only[Rep]at this;exact this.1
    subst this;exact⟨.non,a,rfl,e1,.inl ⟨rfl,bP false w⟩⟩
  . exact w.elim
 |_=>rw[e]at w;exact w
noncomputable def av7(us:aw):List T->Option (List T)
 |[]=>if us.isEmpty=true then none else some us.dropLast
 |_=>none
def ev9:cw5 K cn ex7 av7:=λH Z a us ts us' ws vs C0 C ha r0 r1 nd h=>by
 unfold av7 at h;split at h
 . split at h
   . cases h
   . next hne=>
     cases h;simp only[Reps]at r1;obtain⟨rfl,rfl⟩:=r1;have hlen:=Reps.length us r0;refine z22 (Reps.split (us.length-1) us r0) λC1 C2 zz a1 a2=>?_;subst zz;have h1:0<us.length:=U7.mpr (by simpa using hne);refine⟨ws.dropLast,C1,?_,?_,λx hx=>.inl (C6 _ hx),λQ hQ=>⟨a,ws,ws[ws.length-1],rfl,rfl,ha,A2 X8,hQ _⟩⟩
     . rw[List.dropLast_eq_take,List.dropLast_eq_take,hlen];exact a1
     . rw[J0]at nd;exact nd.sublist (V6 _ _)
 . cases h
end
end TL

end
noncomputable section
open TL L2
def Ae0(i:Nat){X}{x}{q}:=@L2.pv X x q i
def Ae1:=@Ae0 0
def Ae2:=@Ae0 1
def Ae3:=@Ae0 2
def Ae4:=@Ae0 3
def Ae5:=@Ae0 4
def Ae6:=@Ae0 5
def Ae7:=@Ae0 6
def Ae8:=@Ae0 7
def Ae9:=@Ae0 8
def Af0:=@Ae0 9
def Af1:=@Ae0 10
def Af2:=@Ae0 11
abbrev Al9:=dC (.int 0)
abbrev Am0:=dC (.int 1)
abbrev Am1:=dC (.int 2)
abbrev Am2:=dC .non
abbrev Am3:List PySem.Str:=["Ink","Reign","Under","Between","After","Same","Within","Apart"]
abbrev Af9:=bH [] (dC (.bl false))
abbrev Ag0:=aF aP (aB 1) (dC (.int 2))
abbrev Ag1:=aF aP (aB 1) (dC (.int 1))
abbrev Ag2:=aD (aF aP (aF aP (aB 3) (aB 5)) (aB 6)) (aD (aF bS (aF aP (aF aP (aB 3) (aB 5)) (aB 7)) (aF aP (aF aP (aB 3) (aB 7)) (aB 6))) aI)
abbrev Ag3:=aF cN (aB 0) (dC (.int 4))
abbrev Ag4:=bX dU (aD (aB 0) aI)
abbrev Ag5:=aF aP (aB 1) (dC (.int 0))
abbrev Ag6:=aD (aF aP (aF aP (aB 3) (aB 5)) (aB 6)) (aD (aF aP (aB 4) (dC (.int 2))) aI)
abbrev Ag7:=dQ (eQ ["Archive"] "letters") (aB 0)
abbrev Ag8:=dQ (eQ ["Archive"] "present") (aB 0)
abbrev Ag9:=dQ (eQ ["Archive"] "first") (aB 0)
abbrev Ah0:=cI (kF (bE (aF (inT false) (aB 10) (aB 4))) (kF (bE (aF (inT true) (aB 11) (aB 4))) (bE (aF fI (aF aP (aB 0) (aB 11)) (aF bS (aF aP (aB 0) (aB 10)) (aB 8)))))) (iX 4 [] cG (aU (aB 11))) bN
abbrev Ah1:=aY (aJ 2) (aY (aJ 3) fV)
abbrev Ah2:=aD (aB 0) (aD (aB 1) aI)
abbrev Ah3:=aD (aF aP (aB 8) (dC (.int 3))) (aD (aB 1) (aD (dD (aD (aU (aB 9)) (aD (aU (aB 11)) aI))) (aD (aF dH (aF aP (aB 10) (aB 9)) (aF aP (aB 10) (aB 11))) aI)))
abbrev Ah4:=bX kR (aD (aB 3) aI)
abbrev Ah5:=aF aP (aB 0) (dC (.int 0))
abbrev Ah6:=aF aP (aB 3) (dC (.int 0))
abbrev Ah7:=aF aP (aB 4) (dC (.int 0))
abbrev Ah8:=aF bS Ag5 (aF cN (aF bS (aF aP (aB 8) (dC (.int 4))) (aF pW (aF pW (dC (.int 7)) (aF aP (aB 8) (dC (.int 5)))) (aB 12))) (aF bS (aB 5) (dC (.int 1))))
abbrev Ah9:=aY (aJ 2) (aY (aJ 3) (aY (aJ 4) (aY (aJ 5) fV)))
abbrev Ai0:=aD (aB 0) (aD (dC (.ty "list")) aI)
abbrev Ai1:=aD (aF bS (aB 2) (dC (.int 1))) aI
abbrev Ai2:=aF aP (aB 2) (dC (.int 1))
abbrev Ai3:=aF aP (aB 2) (dC (.int 0))
abbrev Ai4:=aY (aJ 6) (aY (aJ 7) fV)
abbrev Ai5:=pS (bE (aF fI (aB 4) (dC (.int 1)))) (bE (aF ltT (aF cN (aF aP (aB 8) (dC (.int 2))) (dC (.int 5))) (dC (.int 2))))
abbrev Ai6:=cI (bE (aF tF (aF aP (aB 5) (dC (.int 0))) (aB 4))) Af9 bN
abbrev Ai7:=bE (aF jO (aB 2) (dC .non))
abbrev Ai8:=aF aP (aB 0) (dC (.int 2))
abbrev Ai9:=aF aP (aB 1) (dC (.int 3))
abbrev Aj0:=aD (aU (aB 5)) (aD (aU (aB 6)) aI)
abbrev Aj1:=aY (aJ 6) (aY (aJ 7) (aY (aJ 8) (aY (aJ 9) fV)))
abbrev Aj2:=aD (aB 4) (aD (aB 3) aI)
abbrev Aj3:=aD (aF aP (aB 4) (dC (.int 1))) (aD (aB 2) aI)
abbrev Aj4:=bG [] (aU (aF aP (aB 5) (dC (.int 1)))) (aJ 4)
abbrev Aj5:=aF aP (aB 0) (aB 3)
abbrev Aj6:=aF bS (aF pD (fE (aD (aF dH Ag8 Ag9) aI)) (aB 1)) (fE (aD (aF dH (dC (.int 0)) Ag9) aI))
abbrev Aj7:=aD (aF aP (aB 8) (dC (.int 3))) (aD (aB 1) (aD (aB 9) (aD (aF aP (aB 10) (aB 9)) aI)))
abbrev Aj8:=dD (aD (aU (aB 2)) aI)
abbrev Aj9:=fO (aY (aJ 1) (aY (aJ 2) fV))
abbrev Ak0:=bE (aF fI Ag3 (dC (.int 0)))
abbrev Ak1:=aF aP (aB 0) (dC (.int 3))
abbrev Ak2:=aF aP (aB 0) (dC (.int 1))
abbrev Ak3:=aF bS (aB 1) (dC (.int 1))
abbrev Ak4:=bE (aF fI (aF cN (aF aP (aB 8) (dC (.int 5))) (dC (.int 8))) (dC (.int 5)))
abbrev Ak5:=bE (aF fI (aB 8) (dC (.str "letter")))
abbrev Ak6:=aD (dC (.int 0)) aI
abbrev Ak7:=aF aP (aB 0) (aB 2)
abbrev Ak8:=aD (aB 0) (aD (aB 3) (aD (aB 4) aI))
abbrev Ak9:=bE (aF uG (bX ap7 (aD (aF dH (aF aP (aB 0) (aB 7)) (aB 1)) aI)) (aB 2))
abbrev Al0:=aD (aB 2) (aD (aB 3) aI)
abbrev Al1:=aY (aJ 3) (aY (aJ 4) fV)
abbrev Al2:=aD (aB 5) (aD (aB 1) aI)
abbrev Al3:=aF bS (aF dH Ag1 Ag5) (dC (.int 1))
abbrev Al4:=aF dH Ag4 (dC (.int 1))
abbrev Al5:=aF (inT false) (aF aP (aB 2) (aB 4)) (rM nT (aB 2) iB (iY (aB 4)))
abbrev Al6:=dBM av8 az0 (dQ (eQ ["Archive"] "letters") (aB 1)) (aD (aB 9) aI)
abbrev Al7:=aF bS (aB 5) (aF cN (aF aP (aB 0) (dC (.int 4))) (dC (.int 40)))
abbrev Al8:=bE (aF gtT (aB 3) (dC (.int 0)))
set_option maxHeartbeats 4000000
open TL
def YQ(t:String):Lean.MacroM (Array (Lean.TSyntax `Lean.Parser.Tactic.tacticSeq)):=(t.splitOn " ").toArray.mapM λs=>do
 let p:=s.splitOn "/";let x:=Lean.mkIdent p[0]!.toName
 match p[1]!.toList with
 |[]=>`(Lean.Parser.Tactic.tacticSeq|exact $x:ident)
 |['9']=>`(Lean.Parser.Tactic.tacticSeq|exact $x:ident ‹_›)
 |k=>do
  let h←k.toArray.mapM λ_=>`(?_)
  let mut a←if k.head! == '@' then `(tactic|apply $x) else `(tactic|refine $x $h*)
  for c in k do if c != '@' then a←`(tactic|($a;walk_at $(Lean.Syntax.mkStrLit (if c == 'r' then "r" else "r"++c.toString))))
  `(Lean.Parser.Tactic.tacticSeq|$a:tactic)
local macro_rules | `(tactic| walk_at "gt") => `(tactic| first | assumption | exact ft4 Y2 Y2 | exact ca7 Y2 Y2 | exact fl0 Y2 Y2 | exact fy3 Y2 Y2 Y2 | decide | omega | (refine And.intro ?_ ?_; omega; omega))
local macro_rules|`(tactic|walk_at "e")=>do let l←("gM di7 dj4 sSeq bG bH cI bp7 fW bN bl8 fo4 aB dC aU aF dQ tG sL fq5 aa6 dIf bE eS fK kF pS fE dD aD aI bX aW dBM rM iY iB iC gK eZ cO bi9 fo5 fd2 kills aJ fO aY fV bP bZ oQ cG frz frzs cQ bF cK dI bx8 av8 qF oO lV lT yS zR iX tU eY jW zP GoW co5 bd8 ed5 ek6 bw9 eb8 ec5 ev8 eq5 eo3 et6 bh0 fe4 fe2 fq2 fr1 fk3 fo1 fc2 ft3 fz1 fh4 fv3 di3 dw7 db5 du4 fe3 fm1 fw0 fa2 du9 cs5 fm0 fs5 ft5 fh5 fh2 am5 ff1 fb4 cz8 dd9 dd1 dh9 ds8 cb6 eo8 fc0 fl3 fg4 cg1 ec7 ek8 cr3 fy0 fi0 fg2 fk2 ff0 fu2 aw5 fd3 fg0 fc1 fc4 fg1 fz2 fu3 fm3 fn1 du5 eh2 et0 ez1 ct3 ez7 ej9 ey8 el9 ew4 dQ ab2 dv6 bx9 cf7 ai7 bl0 frz1 mV qQ yC ee5 bw2 fg5 fq3 cy5 ax8 lE ej1 cm7 bg3 ch7 fv4 fd5 av7 bx7 br2 fu1 dj0 wK cm1 tD ar9 B7 Option.map_some Option.isSome_some List.isEmpty_cons List.isEmpty_nil Option.isSome_none B9 K4 List.length_cons List.length_nil List.replicate_succ List.replicate_zero List.cons_append List.nil_append List.set_cons_zero List.set_cons_succ List.getElem?_cons_zero List.getElem?_cons_succ Nat.reduceAdd Nat.reduceSub Bool.not_true S6 Bool.and_true W1 Bool.and_false Bool.false_and Bool.or_true Bool.true_or Bool.or_false Bool.false_or L9 O2 O7 reduceIte reduceCtorEq decide_true decide_false and_self and_true true_and J4".splitOn " ").toArray.mapM λs=>`(Lean.Parser.Tactic.simpLemma|$(Lean.mkIdent s.toName):ident);`(tactic|simp (disch:=walk_at "gt")only[$l,*, *])
namespace Nk23
open PySem L2 TL
noncomputable section
noncomputable def dL(i:Nat):Stmt:=PySem.Challenge.pw_inkyears_k23_least_costs.main.body.getD i (.Pass ⟨0,0,0,0⟩)
abbrev kt_NUMBERS:List (Str×T):=[("dark",.tup [.int 0,.int 1000000]),("place",.tup [.int 1,.int 100]),("year",.tup [.int (-4000),.int 4000]),("later",.tup [.int 0,.int 300]),("gap",.tup [.int (-300),.int 300])]
abbrev kt_PARTS:List (Str×T):=[("ink",.tup [.str "letter",.str "ink",.str "dark",.str "dark"]),("reign",.tup [.str "letter",.str "reign",.str "place"]),("under",.tup [.str "letter",.str "reign"]),("between",.tup [.str "letter",.str "year",.str "year"]),("after",.tup [.str "letter",.str "letter"]),("same",.tup [.str "letter",.str "letter"]),("within",.tup [.str "letter",.str "letter",.str "later"]),("apart",.tup [.str "letter",.str "letter",.str "gap",.str "gap"])]
def b1(k:Nat):List Bool:=(List.range 1).map (· ==k)
noncomputable abbrev eN:List Str:=["Stuck"]
abbrev wJ:List (Str×Bool):=eN.zip (List.replicate 1 true)
abbrev aa8:List (Str×Bool):=eN.zip (List.replicate 1 true)
abbrev dh6:List (Str×Bool):=eN.zip [false]
abbrev dg7:List (Str×Bool):=eN.zip [false]
def xB:Fr->bR:=
 (sSeq (cI (bE (aF ltT (aB 1) Ag4)) (bH [] (aU (aF aP (aB 0) (aB 1)))) bN)
 (bH [] Al9))
def kK:List T->Res T:=λts=>bP (xB (bZ 2 ts))
def vF:Fr->bR:=
 (sSeq (bG [] (fE (aD (dC (.str "a")) (aD (dC (.str "ab")) (aD (dC (.str "abc")) (aD (dC (.str "b")) (aD (dC (.str "ba")) (aD (dC (.str "zzzzzzzz")) (aD (dC (.str "zzzzzzzy")) (aD (dC (.str "q")) aI))))))))) (aJ 1))
 (bH [] (aF bS (rM nT (aB 1) (iY (aF cN (aB 0) (dC (.int 8)))) iB) (rM nT (aB 1) iB (iY (aF cN (aB 0) (dC (.int 8))))))))
noncomputable def vT:List T->Res T:=λts=>bP (vF (bZ 2 ts))
def vN:Fr->bR:=
 (sSeq (bG [] (aF bS (aF bS (aF cN (aB 0) (dC (.int 1000000021))) (aF pW (dC (.int 4099)) (aB 1))) (dC (.int 77))) (aJ 0))
 (sSeq (bG [] (bX ac6 (aD (aF cN (aF pW (aB 0) (dC (.int 30011))) (dC (.int 2140000027))) (aD (dC (.int 46133)) aI))) (fO Ah1))
 (sSeq (bG [] (aF bS (aF bS (aF bS (aF pW (aB 2) (aB 3)) (aF pW (dC (.int 6007)) (aB 2))) (aF pW (dC (.int 271)) (aB 3))) (aB 1)) (aJ 4))
 (bH [] (aF cN (aF pW (aB 4) (aF bS (aF cN (aB 4) (dC (.int 1009))) (dC (.int 7919)))) (dC (.int 1700000009)))))))
def fS:List T->Res T:=λts=>bP (vN (bZ 5 ts))
def uZ:Fr->bR:=
 (sSeq (bG [] (aF cN (aW 2 kK (aD (aB 0) Ak6)) (aF as4 (dC (.int 10)) (dC (.int 15)))) (aJ 2))
 (sSeq (bG [] (aU (aF aP (fE (aD Al9 (aD Am0 (aD (dC (.int 3)) (aD (dC (.int 8)) (aD (dC (.int 20)) (aD (dC (.int 20)) (aD (dC (.int 60)) (aD (dC (.int 300)) aI))))))))) (aF cN (aB 2) (dC (.int 8))))) (aJ 3))
 (sSeq (bG [] (aU (aF aP (fE (aD (dQ sZ (dC (.int 3000))) (aD (aF dH (dC (.int 3000)) (aB 3)) (aD (dQ sZ (dC (.int 10))) (aD (dC (.int 1400)) aI))))) (aF cN (aF kJ (aB 2) (dC (.int 8))) (dC (.int 4))))) (aJ 4))
 (sSeq (bG [] (rM nT (aW 1 vT (aD (aF kJ (aB 2) (dC (.int 32))) aI)) iB (iY (aF bS Am0 (aF cN (aF kJ (aB 2) (dC (.int 256))) (aB 1))))) (aJ 5))
 (sSeq (bG [] (fE aI) (aJ 6))
 (sSeq (fW (gK iW (aD (aF bS Am1 (aF cN (aW 2 fS (aD (aB 2) (aD (dC (.int 6)) aI))) (dC (.int 5)))) aI)) (aJ 7) (sSeq (bG [] (aF bS (dC (.int 400)) (aF cN (aF kJ (aB 2) (dC (.int 2048))) (dC (.int 9)))) (aJ 8))
 (sSeq (bG [] (fE (aD (aU (aB 8)) aI)) (aJ 9))
 (sSeq (fW (gK iW (aD (aF cN (aW 2 fS (aD (aB 2) (aD (aB 7) aI))) (aF aP (fE (aD (dC (.int 12)) (aD (dC (.int 60)) aI))) (aF kJ (aF cN (aF kJ (aB 2) (dC (.int 18432))) (dC (.int 4))) (dC (.int 3))))) aI)) (aJ 10) (sSeq (bG [] (bX zW (aD Al9 (aD (aF dH (aB 8) (aF cN (aW 2 fS (aD (aB 2) (aD (aF bS (aF pW (dC (.int 10)) (aB 10)) (aB 7)) aI))) (dC (.int 13)))) aI))) (aJ 8))
 (iX 9 [] cG (aU (aB 8)))))
 (iX 6 [9] cG (dD (aD (aU (aF aP (fE (aD (dC (.str "oak")) (aD (dC (.str "soot")) (aD (dC (.str "oa")) (aD (dC (.str "ink")) (aD (dC (.str "oakoak")) (aD (dC (.str "s")) aI))))))) (aB 7))) (aD (aB 9) aI))))))))
 (sSeq (bG [] (aF bS (aF dH (aB 4) (dC (.int 5))) (aF cN (aW 2 fS (aD (aB 2) (aD (dC (.int 3)) aI))) (aF bS (aB 3) (dC (.int 9))))) (aJ 11))
 (sSeq (bG [] (fE (aD (dD (aD (dC (.str "ann")) (aD (aU (aB 11)) (aD (aF bS Am0 (aF cN (aW 2 fS (aD (aB 2) (aD (dC (.int 4)) aI))) (dC (.int 30)))) aI)))) (aD (dD (aD (dC (.str "anna")) (aD (aF bS (aB 11) (dC (.int 3))) (aD (aF bS Am0 (aF cN (aW 2 fS (aD (aB 2) (aD (dC (.int 5)) aI))) (dC (.int 100)))) aI)))) aI))) (aJ 12))
 (sSeq (fW (gK iW (aD (aF cN (aW 2 fS (aD (aB 2) (aD (dC (.int 7)) aI))) (dC (.int 7))) aI)) (aJ 7) (sSeq (bG [] (aF dH (aF bS (aB 11) (aF cN (aW 2 fS (aD (aB 2) (aD (aF bS (dC (.int 8)) (aB 7)) aI))) (dC (.int 9)))) (dC (.int 4))) (aJ 11))
 (yC 12 [] ch7 cG (aD Am0 (aD (dD (aD (aU (aF aP (fE (aD (dC (.str "an")) (aD (dC (.str "b")) (aD (dC (.str "annab")) (aD (dC (.str "zz")) (aD (dC (.str "nn")) (aD (dC (.str "a")) aI))))))) (aB 7))) (aD (aU (aB 11)) (aD (aF bS Am0 (aF cN (aW 2 fS (aD (aB 2) (aD (aF bS (dC (.int 14)) (aB 7)) aI))) (dC (.int 60)))) aI)))) aI)))))
 (bH [5,6,12] (dD (aD (aU (aB 4)) (aD (aF bS (aB 4) (aB 3)) (aD (aB 5) (aD (aB 6) (aD (aB 12) aI))))))))))))))))
def vM:List T->Res T:=λts=>bP (uZ (bZ 13 ts))
def zL:Fr->bR:=
 (sSeq (bG [] (aF cN (bX ap7 (aD (aB 0) aI)) (aF as4 (dC (.int 10)) (dC (.int 60)))) (aJ 2))
 (sSeq (bG [] (fE aI) (aJ 3))
 (sSeq (fW (gK iW (aD (aB 1) aI)) (aJ 4) (cI (pS (bE (aF ltT (aB 0) Al9)) (bE (aF geT (aB 0) (aF as4 (dC (.int 10)) (dC (.int 18)))))) (sSeq (iX 3 [] cG (aF cN (aB 2) (dC (.int 10007))))
 (bG [] (aF kJ (aB 2) (dC (.int 10007))) (aJ 2))) (iX 3 [] cG (aW 2 fS (aD (aF bS (aW 2 fS (aD (aB 0) (aD (aB 4) aI))) (aB 0)) (aD (aB 4) aI))))))
 (bH [3] (aB 3)))))
def rW:List T->Res T:=λts=>bP (zL (bZ 5 ts))
def sO:Fr->bR:=
 (bH [] (eZ [2] (iC kO (aW 2 rW (aD (aB 0) (aD (bX dU (aD Ag0 aI)) aI)))) (aJ 2) cO (aF bS Ag5 (aF cN (aB 2) Al3))))
def tS:List T->Res T:=λts=>bP (sO (bZ 3 ts))
def wY:Fr->bR:=
 (sSeq (bG [] (fE (aD (aU (aF aP Ag0 (aB 2))) (aD (aU (aF aP Ag0 (aB 3))) aI))) (aJ 4))
 (sSeq (cI (pS (bE (aF fI (aB 2) (aB 3))) (bE (aF fI (aF cN Ai8 Am1) Al9))) (sSeq (bG [] (aF bS (aF dH Ag5 (dC (.int 30))) (aF cN Ak1 (aF bS (aF dH Ag1 Ag5) (dC (.int 61))))) (aJ 5))
 (sSeq (bG [] Al7 (aJ 6))
 (bH [] (dD (aD (dC (.str "between")) (aD (aF bS (rM nT (aB 4) iB (iY Am0)) (fE Aj0)) (aD Aj8 (aD (dD Aj0) aI)))))))) bN)
 (sSeq (bG [] (aF dH (aF cN Ak1 (dC (.int 601))) (dC (.int 300))) (aJ 5))
 (sSeq (bG [] (bX mO (aD (dC (.int 300)) (aD Al7 aI))) (aJ 6))
 (bH [] (dD (aD (dC (.str "apart")) (aD (aF bS (aB 4) (fE Aj0)) (aD (dD (aD (aU (aB 2)) (aD (aU (aB 3)) aI))) (aD (dD Aj0) aI))))))))))
def tT:List T->Res T:=λts=>bP (wY (bZ 7 ts))
def sN:Fr->bR:=
 (sSeq (bG [] (aU (aF aP Ag0 (aB 2))) (aJ 4))
 (sSeq (bG [] (aF kJ (aB 0) (dC (.int 4))) (aJ 5))
 (sSeq (cI Ak0 (sSeq (bG [] (aU (aF aP Ai9 (aF cN (aB 5) (bX dU (aD Ai9 aI))))) (fO Ai4))
 (sSeq (bG [] (aF cN (aF kJ (aB 5) Am1) (dC (.int 5))) (aJ 8))
 (sSeq (bG [] (aU (aF aP (aB 7) (bX mO (aD (aF dH Ag1 (aB 3)) (aD (aF dH (bX dU (aD (aB 7) aI)) Am0) aI))))) (aJ 9))
 (sSeq (bG [] (bX zW (aD Al9 (aD (aF dH (aF bS (aB 9) (aF cN (aF kJ (aB 5) (dC (.int 10))) (aF bS (aF pW Am1 (aB 8)) Am0))) (aB 8)) aI))) (aJ 9))
 (sSeq (bG [] (fE aI) (aJ 10))
 (sSeq (fW (gK iW (aD Al3 aI)) (aJ 11) (cI (bE (aF uG (bX ap7 (aD (aF dH (aF aP (aB 7) (bX mO (aD (aB 11) (aD (aF dH (bX dU (aD (aB 7) aI)) Am0) aI)))) (aB 9)) aI)) (aB 8))) (iX 10 [] cG (aU (aB 11))) bN))
 (bH [] (dD (aD (dC (.str "ink")) (aD (fE (aD (aU (aB 4)) (aD (aU (aB 6)) (aD (aU (aB 9)) (aD (aU (aB 8)) aI))))) (aD Aj8 (aD (dD (aD (aF dH Ag1 (aF aP (aB 10) (dQ sZ Am0))) (aD (aF dH Ag1 (aF aP (aB 10) Al9)) aI))) aI)))))))))))) bN)
 (sSeq (bG [] (aF cN (aF kJ (aB 5) Am1) (bX dU (aD (aF aP (aB 1) (dC (.int 4))) aI))) (aJ 12))
 (sSeq (fW (iC uM (bi9 (aF bS (rM nT (aF aP (aB 1) (dC (.int 4))) (iY (aB 12)) iB) (rM nT (aF aP (aB 1) (dC (.int 4))) iB (iY (aB 12)))))) (fO (aY (aJ 13) (aY (aJ 14) (aY (aJ 15) fV)))) (cI (kF (bE (aF fI Ag3 Am0)) (bE (tG uG ltT (aB 14) (aB 3) (aF bS (aB 14) (aB 15))))) (sSeq (cI (bE (aF fI (aF cN (aB 5) Am1) Al9)) (bH [] (dD (aD (dC (.str "reign")) (aD (fE (aD (aU (aB 4)) (aD (aU (aB 13)) (aD (aF bS (aF dH (aB 3) (aB 14)) Am0) aI)))) (aD Aj8 (aD (dD (aD (aU (aB 3)) (aD (aU (aB 3)) aI))) aI)))))) bN)
 (bH [] (dD (aD (dC (.str "under")) (aD (fE (aD (aU (aB 4)) (aD (aU (aB 13)) aI))) (aD Aj8 (aD (dD (aD (aU (aB 14)) (aD (aF dH (aF bS (aB 14) (aB 15)) Am0) aI))) aI))))))) bN))
 (sSeq (bG [] (bX zW (aD (dQ sZ (dC (.int 4000))) (aD (aF dH (aB 3) (aF cN (aB 5) (dC (.int 9)))) aI))) (aJ 16))
 (sSeq (bG [] (bX mO (aD (dC (.int 4000)) (aD (aF bS (aB 3) (aF cN (aF kJ (aB 5) (dC (.int 9))) (dC (.int 9)))) aI))) (aJ 17))
 (bH [] (dD (aD (dC (.str "between")) (aD (fE (aD (aU (aB 4)) (aD (aU (aB 16)) (aD (aU (aB 17)) aI)))) (aD Aj8 (aD (dD (aD (aU (aB 16)) (aD (aU (aB 17)) aI))) aI)))))))))))))
def oC:List T->Res T:=λts=>bP (sN (bZ 18 ts))
def tH:Fr->bR:=
 (sSeq (bG [] (eZ [9] (iC kO (aB 2)) (aJ 9) cO (aU (aF aP Ag0 (aB 9)))) (aJ 4))
 (sSeq (bG [] (aF kJ (aB 0) (dC (.int 4))) (aJ 5))
 (sSeq (cI (kF (bE (aF fI (aB 3) Al9)) Ak0) (bH [4] (dD (aD (dC (.str "same")) (aD (aB 4) (aD (aU (aB 2)) (aD (dD (aD Al9 Ak6)) aI)))))) bN)
 (sSeq (cI (kF Al8 (bE (aF ltT Ag3 Am1))) (bH [4] (dD (aD (dC (.str "after")) (aD (aB 4) (aD (aU (aB 2)) (aD (dD (aD Am0 (aD Am2 aI))) aI)))))) bN)
 (sSeq (cI (kF (bE (aF geT (aB 3) Al9)) (bE (aF fI Ag3 Am1))) (sSeq (bG [] (bX mO (aD (dC (.int 300)) (aD (aF bS (aB 3) (aF cN (aB 5) (dC (.int 4)))) aI))) (aJ 6))
 (bH [] (dD (aD (dC (.str "within")) (aD (aF bS (aB 4) (fE (aD (aU (aB 6)) aI))) (aD (aU (aB 2)) (aD (dD (aD Al9 (aD (aU (aB 6)) aI))) aI))))))) bN)
 (sSeq (bG [] (bX zW (aD (dQ sZ (dC (.int 300))) (aD (aF dH (aB 3) (aF cN (aB 5) (dC (.int 6)))) aI))) (aJ 7))
 (sSeq (bG [] (bX mO (aD (dC (.int 300)) (aD (aF bS (aB 3) (aF cN (aF kJ (aB 5) (dC (.int 6))) (dC (.int 6)))) aI))) (aJ 8))
 (bH [] (dD (aD (dC (.str "apart")) (aD (aF bS (aB 4) (fE (aD (aU (aB 7)) (aD (aU (aB 8)) aI)))) (aD (aU (aB 2)) (aD (dD (aD (aU (aB 7)) (aD (aU (aB 8)) aI))) aI)))))))))))))
def oA:List T->Res T:=λts=>bP (tH (bZ 10 ts))
def qL:Fr->bR:=
 (sSeq (bG [] (bX dU (aD Ag0 aI)) (aJ 4))
 (sSeq (bG [] (aF dH Ag1 Ag5) (aJ 5))
 (sSeq (bG [] (fE aI) (aJ 6))
 (sSeq (fW (iC uM (aB 0)) (aJ 7) (sSeq (bG [] (aW 2 rW (aD (aB 7) (aD (dC (.int 6)) aI))) (aJ 8))
 (sSeq (bG [] (aF cN (aF aP (aB 8) Al9) (aB 4)) (aJ 9))
 (sSeq (bG [] Ah4 (aJ 10))
 (sSeq (cI (kF (eS (aB 2)) (bE (aF fI (aF cN (aF aP (aB 8) Am0) (dC (.int 3))) Al9))) (bG [] (eZ [12] (gK iW (aD (aB 4) aI)) (aJ 12) cO Ah8) (aJ 10)) bN)
 (sSeq (bG [] (aF cN (aF bS (aF bS (aB 9) Am0) (aF cN (aF kJ (aF aP (aB 8) Am0) (dC (.int 3))) (bX zW (aD Am0 (aD (aF dH (aB 4) Am0) aI))))) (aB 4)) (aJ 11))
 (cI (kF (eS (aB 2)) Ak4) (iX 6 [] cG (aW 4 tT (aD (aB 8) (aD (aB 1) (aD (aB 9) (aD (aB 11) aI)))))) (cI Ai5 (iX 6 [] cG (aW 4 oC Aj7)) (iX 6 [] cG (aW 4 oA Ah3))))))))))
 (bH [6] (aB 6))))))
def qY:List T->Res T:=λts=>bP (qL (bZ 13 ts))
def xD:Fr->bR:=
 (bH [] (sL (bX lO (aD (aB 0) (aD (dC (.ty "int")) aI))) (aa6 (bX lO (aD (aB 0) (aD (dC (.ty "bool")) aI))))))
def wZ:List T->Res T:=λts=>bP (xD (bZ 1 ts))
def nY:Fr->bR:=
 (bH [] (sL (aW 1 wZ (aD (aB 0) aI)) (tG uG uG (aB 1) (aB 0) (aB 2))))
def eE:List T->Res T:=λts=>bP (nY (bZ 3 ts))
def vD:Fr->bR:=
 (sSeq (cI (fK (eS (aW 3 eE (aD (aB 0) (aD (dQ sZ (dC (.int 3000))) (aD (dC (.int 3000)) aI)))))) Af9 bN)
 (sSeq (cI (fK (eS (aW 3 eE (aD (aB 1) (aD (dQ sZ (dC (.int 3000))) (aD (dC (.int 3000)) aI)))))) Af9 bN)
 (bH [] (tG uG uG Al9 (aF dH (aB 1) (aB 0)) (dC (.int 300))))))
def vL:List T->Res T:=λts=>bP (vD (bZ 2 ts))
def sV:Fr->bR:=
 (bH [] (sL (tG uG uG Am0 Ag4 (aB 2)) (bX (lU false) (aD (eZ [3] (iC kO (aB 0)) (aJ 3) cO (aF (inT false) (aB 3) (aB 1))) aI))))
def uH:List T->Res T:=λts=>bP (sV (bZ 4 ts))
def yT:Fr->bR:=
 (bH [] (aW 3 uH (aD (aB 0) (aD (dC (.str "abcdefghijklmnopqrstuvwxyz")) (aD (dC (.int 8)) aI)))))
def vW:List T->Res T:=λts=>bP (yT (bZ 1 ts))
def vQ:Fr->bR:=
 (sSeq (cI (fK (bE (tG uG uG (aB 1) Ag4 (aB 2)))) Af9 bN)
 (bH [] (sL (bX (lU false) (aD (eZ [3] (iC kO (aB 0)) (aJ 3) cO (aW 1 vW (aD (aB 3) aI))) aI)) (aF fI (bX af1 (aD (aB 0) aI)) Ag4))))
def nL:List T->Res T:=λts=>bP (vQ (bZ 4 ts))
def wW:Fr->bR:=
 (sSeq (cI (fK (bE (tG uG uG Am0 Ag4 (dC (.int 60))))) Af9 bN)
 (sSeq (cI (fK (eS (bX (lU false) (aD (eZ [1] (iC kO (aB 0)) (aJ 1) cO (aW 3 eE (aD (aB 1) (aD Al9 (aD (dC (.int 1000000)) aI))))) aI)))) Af9 bN)
 (bH [] (bX (lU false) (aD (eZ [2] (gK cl7 (aD Am0 (aD Ag4 aI))) (aJ 2) cO (aF uG Ak7 (aF aP (aB 0) (aF dH (aB 2) Am0)))) aI)))))
def uF:List T->Res T:=λts=>bP (wW (bZ 3 ts))
def xK:Fr->bR:=
 (sSeq (cI (fK (eS (aW 3 nL (aD (eZ [1,2] (iC kO (aB 0)) Aj9 cO (aU (aB 1))) (aD Al9 (aD (dC (.int 6)) aI)))))) Af9 bN)
 (bH [] (bX (lU false) (aD (eZ [1,2] (iC kO (aB 0)) Aj9 cO (aW 1 uF (aD (aB 2) aI))) aI))))
def wT:List T->Res T:=λts=>bP (xK (bZ 3 ts))
def xJ:Fr->bR:=
 (bH [] (sL (aW 3 eE (aD (aB 0) (aD (dQ sZ (dC (.int 4000))) (aD (dC (.int 4000)) aI)))) (aW 3 eE (aD (aB 1) (aD Am0 (aD (dC (.int 100)) aI))))))
def sU:List T->Res T:=λts=>bP (xJ (bZ 2 ts))
def uA:Fr->bR:=
 (sSeq (cI (fK (eS (aW 3 nL (aD (eZ [1,2,3] (iC kO (aB 0)) (fO (aY (aJ 1) Ah1)) cO (aU (aB 1))) (aD Al9 (aD (dC (.int 8)) aI)))))) Af9 bN)
 (bH [] (bX (lU false) (aD (eZ [1,2,3] (iC kO (aB 0)) (fO (aY (aJ 1) Ah1)) cO (aW 2 sU Al0)) aI))))
def tJ:List T->Res T:=λts=>bP (uA (bZ 4 ts))
def lY:Fr->bR:=
 (sSeq (cI (fK (eS (aW 2 vL (aD (aB 1) (aD (aB 2) aI))))) qQ bN)
 (sSeq (cI (fK (eS (aW 3 nL (aD (aB 3) (aD Am0 (aD (dC (.int 8)) aI)))))) qQ bN)
 (sSeq (cI (fK (eS (aW 1 wT (aD (aB 4) aI)))) qQ bN)
 (sSeq (cI (fK (eS (aW 1 tJ (aD (aB 5) aI)))) qQ bN)
 (sSeq (wK 0 [] ["Archive"] "first" (aU (aB 1)) cG)
 (sSeq (wK 0 [] ["Archive"] "present" (aU (aB 2)) cG)
 (sSeq (wK 0 [] ["Archive"] "letters" Ah4 cG)
 (sSeq (wK 0 [] ["Archive"] "inks" (eZ [6,7] (iC kO (aB 4)) (fO Ai4) cO (dD (aD (aU (aB 6)) (aD (bX kR (aD (aB 7) aI)) aI)))) cG)
 (wK 0 [] ["Archive"] "reigns" (eZ [6,8,9] (iC kO (aB 5)) (fO (aY (aJ 6) (aY (aJ 8) (aY (aJ 9) fV)))) cO (dD (aD (aU (aB 6)) (aD (aU (aB 8)) (aD (aU (aB 9)) aI))))) cG)))))))))
def sJ:List T->Res T:=λts=>mV (lY (bZ 10 (.ins true "Archive" [] []::ts)))
def qU:Fr->bR:=
 (sSeq (bG [] (eZ [2,3] (iC kO Ak1) (fO Ah1) cO (dD (aD (aU (aB 2)) (aD Ah4 aI)))) (aJ 1))
 (bH [] (aW 5 sJ (aD Ah5 (aD Ak2 (aD (bX kR (aD Ai8 aI)) (aD (aB 1) (aD (bX kR (aD (aF aP (aB 0) (dC (.int 4))) aI)) aI))))))))
def qO:List T->Res T:=λts=>bP (qU (bZ 4 ts))
def rE:Fr->bR:=
 (sSeq (cI (bE (aF fI (aB 1) (dC (.str "letter")))) (bH [] (aF (inT false) (aB 2) Ag7)) bN)
 (sSeq (cI (bE (aF fI (aB 1) (dC (.str "ink")))) (bH [] (aF (inT false) (aB 2) (eZ [3] (iC kO (dQ (eQ ["Archive"] "inks") (aB 0))) (aJ 3) cO (aU Ah6)))) bN)
 (sSeq (cI (bE (aF fI (aB 1) (dC (.str "reign")))) (bH [] (aF (inT false) (aB 2) (eZ [4] (iC kO (dQ (eQ ["Archive"] "reigns") (aB 0))) (aJ 4) cO (aU Ah7)))) bN)
 (bH [] (aW 3 eE (aD (aB 2) (aD (aF aP (dQ (ab2 kt_NUMBERS) (aB 1)) Al9) (aD (aF aP (dQ (ab2 kt_NUMBERS) (aB 1)) Am0) aI))))))))
def iA:List T->Res T:=λts=>bP (rE (bZ 5 ts))
def zM:Fr->bR:=
 (sSeq (cI (pS (bE (dQ (dv6 true kt_PARTS) (aB 1))) (bE (aF tF (bX dU (aD (aB 2) aI)) (bX dU (aD (dQ (ab2 kt_PARTS) (aB 1)) aI))))) Af9 bN)
 (bH [] (bX (lU false) (aD (eZ [3,4] (gK (bx9 false) (aD (dQ (ab2 kt_PARTS) (aB 1)) (aD (aB 2) aI))) (fO Al1) cO (aW 3 iA Ak8)) aI))))
def wB:List T->Res T:=λts=>bP (zM (bZ 5 ts))
def lC:Fr->bR:=
 (sSeq (fW (iC uM (dQ (eQ ["Archive"] "inks") (aB 0))) (fO Ah1) (cI (bE (aF fI (aB 2) (aB 1))) (bH [] Ah4) bN))
 (bH [] Am2))
def gS:List T->Res T:=λts=>bP (lC (bZ 4 ts))
def yW:Fr->bR:=
 (sSeq (bG [] Al4 (aJ 4))
 (sSeq (bG [] (eZ [7] (gK iW (aD (aF bS (bX mO Aj2) Am0) aI)) (aJ 7) Ak9 (aU (aB 7))) (aJ 5))
 (sSeq (cI (bE (aF fI (bX dU (aD (aB 5) aI)) Al9)) (bH [] Am2) bN)
 (sSeq (bG [] (aU (aF aP (aB 5) (aF dH (bX dU (aD (aB 5) aI)) Am0))) (aJ 6))
 (bH [] (dD (aD (aU (aF aP (aB 5) Al9)) (aD (dIf (bE (aF fI (aB 6) (aB 4))) (aU (aB 3)) (aU (aB 6))) aI))))))))
def wE:List T->Res T:=λts=>bP (yW (bZ 8 ts))
def ax1:Fr->bR:=
 (bH [] (dBM bx8 an1 (dC (.str " ")) (aD (eZ [1] (iC kO (aB 0)) (aJ 1) cO (bX yY (aD (aB 1) aI))) aI)))
def ao1:List T->Res T:=λts=>bP (ax1 (bZ 2 ts))
def cF:Fr->bR:=
 (sSeq (bG [] (eZ [7,8] (gK (bx9 false) (aD (aB 3) (aD (dQ (ab2 kt_PARTS) (aB 2)) aI))) (fO (aY (aJ 7) (aY (aJ 8) fV))) Ak5 (aU (aB 7))) (aJ 6))
 (sSeq (wK 0 []  Am3  "spoken" (eZ [9] (iC kO (aB 6)) (aJ 9) cO Al6) cG)
 (sSeq (wK 0 []  Am3  "low" (aU (aB 4)) cG)
 (sSeq (wK 0 []  Am3  "high" (aU (aB 5)) cG)
 (wK 0 []  Am3  "text" (aW 1 ao1 (aD (aF bS (fE (aD (aU (aB 2)) aI)) Ah4) aI)) cG)))))
abbrev tm_table:List (Str×(List T->Res T)):=[("Archive",gS)]
def ao7:List T->Res T:=λts=>mV (cF (bZ 10 (.ins true "Ink" [] []::ts)))
def tP:Fr->bR:=
 (sSeq (bG [] (aW 4 wE (aD (jS 2 "table" tm_table (aB 0) (aD Ag1 aI)) (aD Ag0 (aD Ai9 (aD (aF dH Ag8 Ag9) aI))))) (aJ 2))
 (sSeq (cI (bE (aF isT (aB 2) Am2)) qQ bN)
 (bH [] (aW 5 ao7 (aD (aB 0) (aD (dC (.str "ink")) (aD (aB 1) (aD (aF dH Ag8 Ai2) (aD (aF dH Ag8 Ai3) aI)))))))))
def uD:List T->Res T:=λts=>bP (tP (bZ 3 ts))
def oY:Fr->bR:=
 (sSeq (fW (iC uM (dQ (eQ ["Archive"] "reigns") (aB 0))) (aJ 2) (cI (bE (aF fI Ai3 (aB 1))) (bH [] (aU (aB 2))) bN))
 (bH [] Am2))
def lX:List T->Res T:=λts=>bP (oY (bZ 3 ts))
def uB:Fr->bR:=
 (sSeq (cI (fK (eS (aW 3 eE (aD (aB 2) (aD Am0 (aD (aB 1) aI)))))) (bH [] Am2) bN)
 (bH [] (aF dH (aF bS (aB 0) (aB 2)) Am0)))
def oI:List T->Res T:=λts=>bP (uB (bZ 3 ts))
def aa2:List T->Res T:=λts=>mV (cF (bZ 10 (.ins true "Reign" [] []::ts)))
def oW:Fr->bR:=
 (sSeq (bG [] (aW 2 lX (aD (aB 0) (aD Ag1 aI))) (aJ 2))
 (sSeq (bG [] (aW 3 oI (aD Ai2 (aD (aF aP (aB 2) Am1) (aD Ag0 aI)))) (aJ 3))
 (sSeq (cI (bE (aF isT (aB 3) Am2)) qQ bN)
 (bH [] (aW 5 aa2 (aD (aB 0) (aD (dC (.str "reign")) (aD (aB 1) (aD (aB 3) (aD (aB 3) aI))))))))))
def pP:List T->Res T:=λts=>bP (oW (bZ 4 ts))
def ap1:List T->Res T:=λts=>mV (cF (bZ 10 (.ins true "Under" [] []::ts)))
def pO:Fr->bR:=
 (sSeq (bG [] (aW 2 lX (aD (aB 0) (aD Ag1 aI))) (aJ 2))
 (bH [] (aW 5 ap1 (aD (aB 0) (aD (dC (.str "under")) (aD (aB 1) (aD Ai2 (aD (aW 3 oI (aD Ai2 (aD (aF aP (aB 2) Am1) (aD (aF aP (aB 2) Am1) aI)))) aI))))))))
def oS:List T->Res T:=λts=>bP (pO (bZ 3 ts))
def yI:List T->Res T:=λts=>mV (cF (bZ 10 (.ins true "Between" [] []::ts)))
def mR:Fr->bR:=
 (sSeq (cI (bE (aF gtT Ag1 Ag0)) qQ bN)
 (bH [] (aW 5 yI (aD (aB 0) (aD (dC (.str "between")) (aD (aB 1) (aD Ag1 (aD Ag0 aI))))))))
def mX:List T->Res T:=λts=>bP (mR (bZ 2 ts))
def av1:List T->Res T:=λts=>mV (cF (bZ 10 (.ins true "After" [] []::ts)))
def pI:Fr->bR:=
 (bH [] (aW 5 av1 (aD (aB 0) (aD (dC (.str "after")) (aD (aB 1) (aD Am0 (aD Am2 aI)))))))
def pE:List T->Res T:=λts=>bP (pI (bZ 2 ts))
def ap3:List T->Res T:=λts=>mV (cF (bZ 10 (.ins true "Same" [] []::ts)))
def qV:Fr->bR:=
 (bH [] (aW 5 ap3 (aD (aB 0) (aD (dC (.str "same")) (aD (aB 1) (aD Al9 Ak6))))))
def qM:List T->Res T:=λts=>bP (qV (bZ 2 ts))
def aa0:List T->Res T:=λts=>mV (cF (bZ 10 (.ins true "Within" [] []::ts)))
def nX:Fr->bR:=
 (bH [] (aW 5 aa0 (aD (aB 0) (aD (dC (.str "within")) (aD (aB 1) (aD Al9 (aD Ag0 aI)))))))
def nQ:List T->Res T:=λts=>bP (nX (bZ 2 ts))
def ah2:List T->Res T:=λts=>mV (cF (bZ 10 (.ins true "Apart" [] []::ts)))
def pH:Fr->bR:=
 (sSeq (cI (bE (aF gtT Ag0 Ai9)) qQ bN)
 (bH [] (aW 5 ah2 (aD (aB 0) (aD (dC (.str "apart")) (aD (aB 1) (aD Ag0 (aD Ai9 aI))))))))
def oR:List T->Res T:=λts=>bP (pH (bZ 2 ts))
abbrev tb_MAKERS:List (Str×(List T->Res T)):=[("ink",uD),("reign",pP),("under",oS),("between",mX),("after",pE),("same",qM),("within",nQ),("apart",oR)]
def vR:Fr->bR:=
 (sSeq (cI (fK (eS (aW 3 wB (aD (aB 0) (aD (aB 1) (aD (aB 2) aI)))))) qQ bN)
 (sSeq (cI (kF (bE (aF fI (aF aP (dQ (ab2 kt_PARTS) (aB 1)) Am0) (dC (.str "letter")))) (bE (aF fI Ai3 Ai2))) qQ bN)
 (bH [] (ar9 2 tb_MAKERS (aB 1) (aD (aB 0) (aD (aB 2) aI))))))
def dX:List T->Res T:=λts=>bP (vR (bZ 3 ts))
def xA:Fr->bR:=
 (bH [] (eZ [2,3,4,5] (iC kO (aB 1)) (fO Ah9) cO (aW 3 dX (aD (aB 0) (aD (aB 2) (aD Ah4 aI))))))
def xC:List T->Res T:=λts=>bP (xA (bZ 6 ts))
def vB:Fr->bR:=
 (sSeq (bG [] (fE aI) (aJ 2))
 (sSeq (fW (gK iW (aD (bX dU (aD (aB 1) aI)) aI)) (aJ 3) (sSeq (bG [] (aU (aF aP (aF aP (aB 1) (aB 3)) Am1)) (aJ 4))
 (sSeq (bG [] (aU (aF aP (aF aP (aB 1) (aB 3)) (dC (.int 3)))) (fO (aY (aJ 5) (aY (aJ 6) fV))))
 (sSeq (bG [] (aU (aF aP (aF bS (aB 4) (dD (aD Am2 aI))) Am0)) (aJ 7))
 (sSeq (cI (bE (aF jO (aB 6) Am2)) (iX 2 [] cG (dD (aD (aU (aB 7)) (aD (aU Ah7) (aD (aU (aB 6)) (aD (aU (aB 3)) aI)))))) bN)
 (cI (bE (aF jO (aB 5) Am2)) (iX 2 [] cG (dD (aD (aU Ah7) (aD (aU (aB 7)) (aD (aF dH Al9 (aB 5)) (aD (aU (aB 3)) aI)))))) bN))))))
 (sSeq (fW (gK iW (aD (bX dU (aD Ai8 aI)) aI)) (aJ 8) (sSeq (iX 2 [] cG (dD (aD Am2 (aD (aU (aB 8)) (aD (aU Ak2) (aD Am2 aI))))))
 (iX 2 [] cG (dD (aD (aU (aB 8)) (aD Am2 (aD (aF dH Al9 Ah5) (aD Am2 aI))))))))
 (bH [2] (aB 2)))))
def jK:List T->Res T:=λts=>bP (vB (bZ 9 ts))
def eW:Fr->bR:=
 (bH [] (aU (dQ (eQ  Am3  "text") (aB 0))))
def bC:List T->Res T:=λts=>bP (eW (bZ 1 ts))
def eT:Fr->bR:=
 (bH [] (bX kR (aD (dQ (eQ  Am3  "spoken") (aB 0)) aI)))
def bD:List T->Res T:=λts=>bP (eT (bZ 1 ts))
def eF:Fr->bR:=
 (bH [] (dD (aD (aU (dQ (eQ  Am3  "low") (aB 0))) (aD (aU (dQ (eQ  Am3  "high") (aB 0))) aI))))
def aX:List T->Res T:=λts=>bP (eF (bZ 1 ts))
abbrev tm_about:List (Str×(List T->Res T)):=[("Ink",bD),("Reign",bD),("Under",bD),("Between",bD),("After",bD),("Same",bD),("Within",bD),("Apart",bD)]
abbrev tm_bounds:List (Str×(List T->Res T)):=[("Ink",aX),("Reign",aX),("Under",aX),("Between",aX),("After",aX),("Same",aX),("Within",aX),("Apart",aX)]
def oU:Fr->bR:=
 (sSeq (bG [] (jS 1 "about" tm_about (aB 0) aI) (aJ 2))
 (sSeq (bG [] (jS 1 "bounds" tm_bounds (aB 0) aI) (aJ 3))
 (sSeq (bG [] (dIf (bE (aF fI (bX dU (aD (aB 2) aI)) Am1)) (aU Ai2) Am2) (aJ 4))
 (sSeq (bG [] (fE aI) (aJ 5))
 (sSeq (cI (bE (aF jO (aF aP (aB 3) Am0) Am2)) (iX 5 [] cG (dD (aD (aU (aB 4)) (aD (aU Ai3) (aD (aU (aF aP (aB 3) Am0)) (aD (aU (aB 1)) aI)))))) bN)
 (sSeq (cI (bE (aF jO Ah6 Am2)) (iX 5 [] cG (dD (aD (aU Ai3) (aD (aU (aB 4)) (aD (aF dH Al9 Ah6) (aD (aU (aB 1)) aI)))))) bN)
 (bH [5] (aB 5))))))))
def pL:List T->Res T:=λts=>bP (oU (bZ 6 ts))
def tK:Fr->bR:=
 (bH [] (fE (aD (dD (aD Am2 (aD (aU (aB 1)) (aD (aU Ag8) (aD Am2 aI))))) (aD (dD (aD (aU (aB 1)) (aD Am2 (aD (aF dH Al9 Ag9) (aD Am2 aI))))) aI))))
def tY:List T->Res T:=λts=>bP (tK (bZ 2 ts))
def xG:Fr->bR:=
 (sSeq (bG [] (fE aI) (aJ 2))
 (sSeq (fW (gK (cf7 true) (aD (aB 1) aI)) (fO Al1) (yC 2 [] bg3 cG (aD (aW 2 pL Aj2) aI)))
 (sSeq (fW (gK iW (aD (bX dU (aD Ag7 aI)) aI)) (aJ 5) (yC 2 [] bg3 cG (aD (aW 2 tY (aD (aB 0) (aD (aB 5) aI))) aI)))
 (bH [2] (aB 2)))))
def uI:List T->Res T:=λts=>bP (xG (bZ 6 ts))
def tI:Fr->bR:=
 (bH [] (dIf (bE (aF isT (aB 0) Am2)) (aU (aB 1)) (aU (aB 0))))
def cZ:List T->Res T:=λts=>bP (tI (bZ 2 ts))
def yU:Fr->bR:=
 (sSeq (bG [] (aF dH (bX dU (aD (aB 1) aI)) Am0) (aJ 2))
 (bH [] (aF uG (aF aP (aB 1) (aW 2 cZ (aD Ak2 (aD (aB 2) aI)))) (aF bS (aF aP (aB 1) (aW 2 cZ (aD Ah5 (aD (aB 2) aI)))) Ai8))))
def zG:List T->Res T:=λts=>bP (yU (bZ 3 ts))
def qW:Fr->bR:=
 (sSeq (bG [] (aF dH (bX dU (aD (aB 1) aI)) Am0) (aJ 3))
 (sSeq (bG [] Am2 (aJ 4))
 (sSeq (fW (iC uM (aB 0)) (aJ 5) (cI (fK (eS (aW 2 zG Al2))) (sSeq (bG [] (aW 2 cZ (aD (aF aP (aB 5) Al9) (aD (aB 3) aI))) (aJ 4))
 (sSeq (tU 1 [] (aF dH (aF aP (aB 1) (aW 2 cZ (aD (aF aP (aB 5) Am0) (aD (aB 3) aI)))) (aF aP (aB 5) Am1)) cG (aB 4))
 (tU 2 [] (aU (aB 5)) cG (aB 4)))) bN))
 (bx7 (aB 4)))))
def kC:T->T->T->Res (T×T×T):=λa b c=>br2 (qW (bZ 6 [a,b,c]))
def qX:Fr->bR:=
 (sSeq (bG [] Al4 (aJ 2))
 (sSeq (fW (gK iW (aD Ag4 aI)) (aJ 3) (bG [] (aW 2 cZ (aD (aF aP (aF aP (aB 0) (aB 1)) Am0) (aD (aB 2) aI))) (aJ 1)))
 (sSeq (bG [] (fE (aD (aU (aF aP (aB 0) (aB 1))) aI)) (aJ 4))
 (sSeq (bG [] (aW 2 cZ (aD (aF aP (aF aP (aB 0) (aB 1)) Am0) (aD (aB 2) aI))) (aJ 5))
 (sSeq (ah5 (bE (aF tF (aB 5) (aB 1))) (sSeq (iX 4 [] cG (aU (aF aP (aB 0) (aB 5))))
 (bG [] (aW 2 cZ (aD (aF aP (aF aP (aB 0) (aB 5)) Am0) (aD (aB 2) aI))) (aJ 5))))
 (bH [4] (aB 4)))))))
def qP:List T->Res T:=λts=>bP (qX (bZ 6 ts))
def tL:Fr->bR:=
 (sSeq (bG [] (bX dU (aD Ag7 aI)) (aJ 2))
 (sSeq (bG [] (aF bS (aF pD (fE (aD (aF dH Ag9 Am0) aI)) (aB 2)) (fE Ak6)) (aJ 3))
 (sSeq (bG [] (aF pD (fE (aD Am2 aI)) (aF bS (aB 2) Am0)) (aJ 4))
 (sSeq (bG [] Am2 (aJ 5))
 (sSeq (fW (gK iW Ai1) (aJ 6) (aw0 5 1 3 4 kC))
 (sSeq (cI (bE (aF isT (aB 5) Am2)) (bH [] (dD (aD (dC (.str "dating")) (aD (rM nT (aB 3) (iY Al9) (iY (aB 2))) aI)))) bN)
 (bH [] (dD (aD (dC (.str "ring")) (aD (aW 2 qP (aD (aB 4) (aD (aB 5) aI))) aI))))))))))
def jQ:List T->Res T:=λts=>bP (tL (bZ 7 ts))
def wH:Fr->bR:=
 (bH [] (aW 2 jQ (aD (aB 0) (aD (aW 2 uI Ah2) aI))))
def rZ:List T->Res T:=λts=>bP (wH (bZ 2 ts))
def pM:Fr->bR:=
 (cI (bE (aF fI (aF aP (aW 2 jQ Ah2) Al9) (dC (.str "ring")))) (bw2 "Stuck") bN)
def pJ:List T->Res T:=λts=>bP (pM (bZ 2 ts))
def tN:Fr->bR:=
 (sSeq (bG [] (bX dU (aD Ag7 aI)) (aJ 1))
 (sSeq (bG [] (eZ [3] (iC kO Ag7) (aJ 3) cO Aj6) (aJ 2))
 (sSeq (iX 2 [] cG (aF bS (aF pD (fE (aD (aU Ag8) aI)) (aB 1)) (fE Ak6)))
 (sSeq (fW (gK iW (aD (aB 1) aI)) (aJ 3) (tU 2 [] Al9 (wO 2 cG (aB 3)) (aB 3)))
 (bH [2] (aB 2))))))
def tZ:List T->Res T:=λts=>bP (tN (bZ 4 ts))
def sK:Fr->bR:=
 (sSeq (bp7 (ax8 2 pJ Ah2))
 (sSeq (bG [] (bX dU (aD Ag7 aI)) (aJ 2))
 (sSeq (bG [] (aW 1 tZ (aD (aB 0) aI)) (aJ 3))
 (sSeq (fW (iC uM (aB 1)) (aJ 4) (sSeq (bG [] (aW 2 cZ (aD Ah7 (aD (aB 2) aI))) (aJ 5))
 (sSeq (bG [] (aW 2 cZ Aj3) (aJ 6))
 (tU 3 [] (bX mO Ag6) (wO 3 cG (aB 5)) (aB 6)))))
 (sSeq (fW (gK iW Ai1) (aJ 7) (fW (gK iW Ai1) (aJ 5) (fW (gK iW Ai1) (aJ 6) (tU 3 [] (bX mO Ag2) (wO 3 cG (aB 5)) (aB 6)))))
 (bH [3] (aB 3)))))))
def pG:List T->Res T:=λts=>bP (sK (bZ 8 ts))
def nI:Fr->bR:=
 (bH [] (ax8 2 pG (aD (aB 0) (aD (aW 2 uI Ah2) aI))))
def iT:List T->Res T:=λts=>bP (nI (bZ 2 ts))
def vS:Fr->bR:=
 (sSeq (bG [] Am2 (aJ 2))
 (sSeq (cy5 2 iT ["Stuck"] 3 Ah2 (bG [] (aU (aB 3)) (aJ 2)) (λ_ U=>U))
 (sSeq (cI (pS (fK (eS (dQ (qR aa8) (aB 2)))) (fK (eS (dQ (qR wJ) (aB 2))))) Af9 bN)
 (sSeq (cI (eS (dQ (qR dh6) (aB 2))) Af9 bN)
 (bH [] (aa6 (dQ (qR dg7) (aB 2))))))))
def vH:List T->Res T:=λts=>bP (vS (bZ 4 ts))
def vO:Fr->bR:=
 (bH [] (sL (bX lO (aD (aB 0) (aD (dC (.ty "int")) aI))) (aa6 (bX lO (aD (aB 0) (aD (dC (.ty "bool")) aI))))))
def gY:List T->Res T:=λts=>bP (vO (bZ 1 ts))
def qN:Fr->bR:=
 (sSeq (cI (pS (fK (eS (bX lO (aD (aB 0) (aD (dC (.ty "tuple")) aI))))) (pS (bE (aF tF Ag4 (dC (.int 4)))) (fK (eS (aW 1 gY (aD Ai8 aI)))))) Af9 bN)
 (sSeq (fW (iC uM (bi9 (fE (aD (aU Ah5) (aD (aU Ak2) (aD (aU Ak1) aI)))))) (aJ 2) (cI (kF Ai7 (fK (eS (aW 1 gY (aD (aB 2) aI))))) Af9 bN))
 (bH [] (aF (inT false) (aB 0) (aB 1)))))
def jY:List T->Res T:=λts=>bP (qN (bZ 3 ts))
def pK:Fr->bR:=
 (sSeq (cI (pS (fK (eS (bX lO Ai0))) (fK (eS (bX (lU false) (aD (eZ [5] (iC kO (aB 0)) (aJ 5) cO (aW 2 jY Al2)) aI))))) Af9 bN)
 (sSeq (bG [] (aU (aB 2)) (aJ 4))
 (sSeq (fW (iC uM (aB 0)) (aJ 5) (sSeq Ai6
 Aj4))
 (bH [] (aF fI (aB 4) (aB 3))))))
def pC:List T->Res T:=λts=>bP (pK (bZ 6 ts))
def qT:Fr->bR:=
 (sSeq (cI (pS (fK (eS (bX lO Ai0))) (pS (bE (aF fI (aB 0) (fE aI))) (fK (eS (aW 2 jY (aD Ah5 (aD (aB 1) aI))))))) Af9 bN)
 (sSeq (cI (fK (eS (aW 4 pC (aD (aB 0) (aD (aB 1) (aD (aF aP Ah5 Al9) (aD (aF aP Ah5 Al9) aI))))))) Af9 bN)
 (sSeq (bG [] (eZ [3] (iC kO (aB 0)) (aJ 3) cO (aU Ah6)) (aJ 2))
 (sSeq (cI (eS (bX (lU true) (aD (eZ [4] (gK iW (aD (bX dU (aD (aB 2) aI)) aI)) (aJ 4) cO Al5) aI))) Af9 bN)
 (bH [] (aF ltT (bX br8 (aD (eZ [3] (iC kO (aB 0)) (aJ 3) cO (aU (aF aP (aB 3) Am1))) aI)) Al9))))))
def rA:List T->Res T:=λts=>bP (qT (bZ 5 ts))
def vP:Fr->bR:=
 (sSeq (fW (iC uM (aB 1)) (fO Ah9) (sSeq (bG [] Al9 (aJ 6))
 (sSeq (bG [] Al9 (aJ 7))
 (sSeq (cI Ai7 (bG [] (aU Ak7) (aJ 6)) bN)
 (sSeq (cI (bE (aF jO (aB 3) Am2)) (bG [] (aU Aj5) (aJ 7)) bN)
 (cI (bE (aF gtT (aB 7) (aF bS (aB 6) (aB 4)))) Af9 bN))))))
 (bH [] (dC (.bl true))))
def vK:List T->Res T:=λts=>bP (vP (bZ 8 ts))
def nW:Fr->bR:=
 (sSeq (cI (pS (fK (eS (bX lO Ai0))) (pS (bE (aF tF Ag4 (aB 1))) (fK (eS (bX (lU false) (aD (eZ [3] (iC kO (aB 0)) (aJ 3) cO (aW 1 gY (aD (aB 3) aI))) aI)))))) Af9 bN)
 (bH [] (aW 2 vK (aD (aB 0) (aD (aB 2) aI)))))
def nR:List T->Res T:=λts=>bP (nW (bZ 4 ts))
def vJ:Fr->bR:=
 (sSeq (cI (bE (aF isT (aB 0) Am2)) (bH [] (aU (aB 1))) bN)
 (bH [] (aU (aB 0))))
def gX:List T->Res T:=λts=>bP (vJ (bZ 2 ts))
def qZ:Fr->bR:=
 (sSeq (bG [] Al4 (aJ 3))
 (sSeq (bG [] (fE (aD (aU (aB 2)) aI)) (aJ 4))
 (sSeq (fW (gK iW (aD (aF bS (aB 3) Am0) aI)) (aJ 5) (sSeq (cI (bE (aF gtT (bX dU (aD (aB 4) aI)) (aB 3))) bl8 bN)
 (fW (iC uM (aB 1)) (fO Aj1) (sSeq (bG [] (aW 2 gX (aD (aB 6) (aD (aB 3) aI))) (aJ 10))
 (sSeq (bG [] (aW 2 gX (aD (aB 7) (aD (aB 3) aI))) (aJ 11))
 Ah0)))))
 (bH [] (aF fI (bX uR (aD (aB 4) aI)) (bX ab6 (aD (aF bS (aB 3) Am0) aI)))))))
def qS:List T->Res T:=λts=>bP (qZ (bZ 12 ts))
def sT:Fr->bR:=
 (sSeq (cI (pS (fK (eS (bX lO Ai0))) (pS (fK (eS (bX (lU false) (aD (eZ [6] (iC kO (aB 0)) (aJ 6) cO (aW 1 gY (aD (aB 6) aI))) aI)))) (bE (aF tF Ak7 Al9)))) Af9 bN)
 (sSeq (bG [] Al4 (aJ 3))
 (sSeq (fW (iC uM (aB 1)) (fO (aY (aJ 4) (aY (aJ 5) Ai4))) (cI (bE (aF gtT (aF aP (aB 0) (aW 2 gX (aD (aB 5) (aD (aB 3) aI)))) (aF bS (aF aP (aB 0) (aW 2 gX Aj2)) (aB 6)))) Af9 bN))
 (bH [] (aW 3 qS (aD (aB 0) (aD (aB 1) (aD (aB 2) aI))))))))
def lZ:List T->Res T:=λts=>bP (sT (bZ 8 ts))
def oX:Fr->bR:=
 (sSeq (cI (pS (fK (eS (bX lO Ai0))) (bE (aF tF Ag4 Ak3))) Af9 bN)
 (sSeq (fW (gK iW (aD Ak3 aI)) (aJ 3) (cI (pS (bE (aF tF (bX dU (aD Aj5 aI)) Ak3)) (fK (eS (aW 3 lZ (aD Aj5 Al0))))) Af9 bN))
 (bH [] (dC (.bl true)))))
def oT:List T->Res T:=λts=>bP (oX (bZ 4 ts))
def qC:Fr->bR:=
 (sSeq (bG [] (bX dU (aD Ag7 aI)) (aJ 3))
 (sSeq (bG [] (aW 2 rZ Ah2) (fO (aY (aJ 4) (aY (aJ 5) fV))))
 (sSeq (cI (bE (aF fI (aB 4) (dC (.str "ring")))) (bH [] (sL (aW 2 rA (aD (aB 5) (aD (aB 2) aI))) (aW 2 vH Ah2))) bN)
 (sSeq (cI (pS (bE (aF tF (aB 4) (dC (.str "dating")))) (fK (eS (aW 3 nR (aD (aB 5) (aD (aB 3) (aD (aB 2) aI))))))) Af9 bN)
 (sSeq (bG [] (aW 2 iT Ah2) (aJ 6))
 (sSeq (cI (fK (eS (aW 3 oT (aD (aB 6) (aD (aB 3) (aD (aB 2) aI)))))) Af9 bN)
 (sSeq (iX 6 [] (wO 6 cG Al9) Al9)
 (sSeq (yC 6 [] av7 cG aI)
 (bH [] (dC (.bl true)))))))))))
def gU:List T->Res T:=λts=>bP (qC (bZ 7 ts))
abbrev tm_shown:List (Str×(List T->Res T)):=[("Ink",bC),("Reign",bC),("Under",bC),("Between",bC),("After",bC),("Same",bC),("Within",bC),("Apart",bC)]
def bq7:Fr->bR:=
 (sSeq (bG [] (aW 2 vM (aD (aB 0) (aD (dC (.int 8)) aI))) (aJ 1))
 (sSeq (bG [] (aW 2 tS (aD (aF kJ (aW 2 kK (aD (aB 0) (aD Am0 aI))) (dC (.int 32))) (aD (aB 1) aI))) (aJ 2))
 (sSeq (bG [] (bl0 (aW 4 qY (aD (rM nT (aB 0) (iY Am1) (iY (dC (.int 18)))) (aD (aB 1) (aD (aF fI (aF cN (aW 2 kK (aD (aB 0) (aD Am0 aI))) Am1) Am0) (aD (aB 2) aI)))))) (aJ 3))
 (sSeq (bG [] (aW 1 qO (aD (aB 1) aI)) (aJ 4))
 (sSeq (bG [] (bl0 (aW 2 xC Aj2)) (aJ 5))
 (sSeq (bG [] (aW 2 jK (aD (aB 1) (aD (aB 3) aI))) (aJ 6))
 (sSeq (bG [] (eZ [11] (iC kO (aB 5)) (aJ 11) cO (jS 1 "shown" tm_shown (aB 11) aI)) (aJ 7))
 (sSeq (bG [] (aF cN (aF kJ (aW 2 kK (aD (aB 0) (aD Am0 aI))) Am1) (aF bS (bX dU (aD (aB 3) aI)) Am0)) (aJ 8))
 (sSeq (bG [] (aW 2 jK (aD (aB 1) (aD (aF bS (rM nT (aB 3) iB (iY (aB 8))) (rM nT (aB 3) (iY (aF bS (aB 8) Am0)) iB)) aI))) (aJ 9))
 (sSeq (cI (fK (eS (aW 3 gU (aD (aB 4) (aD (aB 5) (aD (aB 6) aI)))))) Af9 bN)
 (sSeq (cI (fK (eS (aW 3 gU (aD (aB 4) (aD (aF bS (rM nT (aB 5) iB (iY (aB 8))) (rM nT (aB 5) (iY (aF bS (aB 8) Am0)) iB)) (aD (aB 9) aI)))))) Af9 bN)
 (sSeq (cI (fK (eS (aW 3 gU (aD (aB 4) (aD (fE aI) (aD (aW 2 jK (aD (aB 1) (aD (fE aI) aI))) aI)))))) Af9 bN)
 (sSeq (bG [] (rM nT (aB 5) iB (iY (dQ sZ Am0))) (aJ 10))
 (sSeq (cI (fK (eS (aW 3 gU (aD (aB 4) (aD (aB 10) (aD (aW 2 jK (aD (aB 1) (aD (rM nT (aB 3) iB (iY (dQ sZ Am0))) aI))) aI)))))) Af9 bN)
 (sSeq (yC 10 [] bg3 cG (aD (rM nT (aB 5) (iY (dQ sZ Am0)) iB) aI))
 (bH [] (sL (aW 3 gU (aD (aB 4) (aD (aB 10) (aD (aB 6) aI)))) (aF fI (eZ [11] (iC kO (aB 5)) (aJ 11) cO (jS 1 "shown" tm_shown (aB 11) aI)) (aB 7)))))))))))))))))))
def bv7:List T->Res T:=λts=>bP (bq7 (bZ 12 ts))
abbrev as9:Stmt:=dL 83
abbrev ax6:Stmt:=dL 85
abbrev aq6:Stmt:=dL 84
abbrev ao6:Stmt:=dL 86
abbrev bi5:Stmt:=dL 89
abbrev at4:Stmt:=dL 90
abbrev bk0:Stmt:=dL 91
abbrev ag5:Stmt:=dL 87
abbrev av3:Stmt:=dL 88
abbrev ah3:Stmt:=dL 92
abbrev ak9:Stmt:=dL 21
abbrev zI:Stmt:=dL 22
abbrev at6:Stmt:=dL 52
abbrev ag4:Stmt:=dL 23
abbrev by4:Stmt:=dL 24
abbrev ay6:Stmt:=dL 53
abbrev ag9:Stmt:=dL 42
abbrev ay8:Stmt:=dL 54
abbrev av9:Stmt:=dL 44
abbrev ak3:Stmt:=dL 55
abbrev lW:Stmt:=xM (dL 56) 0
abbrev az2:Stmt:=dL 94
abbrev ba9:Stmt:=dL 70
abbrev bx4:Stmt:=dL 71
abbrev lD:Stmt:=xM (dL 56) 1
abbrev bu4:Stmt:=dL 43
abbrev cf0:Stmt:=dL 25
abbrev fN:Stmt:=xM (dL 60) 0
abbrev aq3:Stmt:=dL 72
abbrev aq0:Stmt:=dL 69
abbrev ap4:Stmt:=dL 45
abbrev ae1:Stmt:=dL 73
abbrev ad1:Stmt:=dL 74
abbrev yD:Stmt:=dL 75
abbrev ax0:Stmt:=dL 76
abbrev aa3:Stmt:=dL 77
abbrev yX:Stmt:=dL 78
abbrev ab1:Stmt:=dL 79
abbrev az6:Stmt:=dL 81
abbrev as8:Stmt:=dL 95
abbrev ad7:Stmt:=dL 93
abbrev eV:Stmt:=xM (dL 60) 3
abbrev eU:Stmt:=xM (dL 60) 1
abbrev eH:Stmt:=xM (dL 60) 2
abbrev ai0:Stmt:=dL 15
abbrev az4:Stmt:=dL 16
abbrev bm0:Stmt:=dL 17
abbrev bf0:Stmt:=dL 27
abbrev bq5:Stmt:=dL 28
abbrev aw2:Stmt:=dL 29
abbrev ad3:Stmt:=dL 30
abbrev af5:Stmt:=dL 31
abbrev bw4:Stmt:=dL 32
abbrev al0:Stmt:=dL 33
abbrev ac4:Stmt:=dL 34
abbrev be0:Stmt:=dL 35
abbrev ae3:Stmt:=dL 36
abbrev ac7:Stmt:=dL 106
abbrev aw6:Stmt:=dL 96
abbrev af3:Stmt:=dL 99
abbrev ac1:Stmt:=dL 100
abbrev av2:Stmt:=dL 101
abbrev ae7:Stmt:=dL 97
abbrev yR:Stmt:=dL 98
abbrev ar6:Stmt:=dL 102
abbrev ag3:Stmt:=dL 103
abbrev aw3:Stmt:=dL 104
abbrev as0:Stmt:=dL 105
abbrev aa7:Stmt:=dL 107
abbrev wR:Stmt:=dL 108
end
structure Txt (w:World) (K:A1) (cn:ac) (mg:aa) (Am6 An2 Ao0 Ao4 An1 Am4 Ao1 Ao5 Am5 Ao2 Am7 Am8 An0 An3 An9 An5 Ao3 An7 An4 Am9 An8 An6:Addr) (sH xP jD:az):Prop where
 cf2:mg "ValueError"=none
 cx7:mg "abs"=none
 vU:mg "all"=none
 fp4:mg "any"=none
 dv2:mg "bool"=none
 dj8:mg "divmod"=none
 cd3:mg "enumerate"=none
 dz9:mg "int"=none
 fG:mg "isinstance"=none
 dW:mg "len"=none
 kE:mg "list"=none
 bb1:mg "max"=none
 xL:mg "min"=none
 fZ:mg "range"=none
 fs4:mg "set"=none
 dk8:mg "sorted"=none
 fr4:mg "str"=none
 fq4:mg "sum"=none
 em4:mg "tuple"=none
 ea0:mg "zip"=none
 g_DARKEST:mJ mg "DARKEST" (.int 1000000)
 g_FARTHEST_END:mJ mg "FARTHEST_END" (.int 3000)
 g_FARTHEST_YEAR:mJ mg "FARTHEST_YEAR" (.int 4000)
 g_LETTERS:mJ mg "LETTERS" (.str "abcdefghijklmnopqrstuvwxyz")
 g_LONGEST_REIGN:mJ mg "LONGEST_REIGN" (.int 100)
 g_LONGEST_SPAN:mJ mg "LONGEST_SPAN" (.int 300)
 g_MOST_AGES:mJ mg "MOST_AGES" (.int 60)
 g_MOST_INKS:mJ mg "MOST_INKS" (.int 6)
 g_MOST_LETTERS_archives:mJ mg "MOST_LETTERS_archives" (.int 8)
 g_MOST_LETTERS_words:mJ mg "MOST_LETTERS_words" (.int 8)
 g_MOST_REIGNS:mJ mg "MOST_REIGNS" (.int 8)
 d_NUMBERS:ac2 w K mg "NUMBERS" sH
 g_NUMBERS:GD K cn kt_NUMBERS sH
 d_PARTS:ac2 w K mg "PARTS" xP
 g_PARTS:GD K cn kt_PARTS xP
 lP:cn "Archive"=some Am6
 pR:Cls K Am6
 uJ:cn "Ink"=some An2
 yP:Cls K An2
 mZ:cn "Reign"=some Ao0
 rJ:Cls K Ao0
 nF:cn "Under"=some Ao4
 rH:Cls K Ao4
 kL:cn "Between"=some An1
 nC:Cls K An1
 nE:cn "After"=some Am4
 rK:Cls K Am4
 pQ:cn "Same"=some Ao1
 uX:Cls K Ao1
 lQ:cn "Within"=some Ao5
 oP:Cls K Ao5
 nG:cn "Apart"=some Am5
 rL:Cls K Am5
 ak8:NoAttr K Am6 "first"
 ch3:NoAttr K An2 "high"
 bz6:NoAttr K Ao0 "high"
 bg7:NoAttr K Ao4 "high"
 bi1:NoAttr K An1 "high"
 bl7:NoAttr K Am4 "high"
 cd2:NoAttr K Ao1 "high"
 bz3:NoAttr K Ao5 "high"
 bc7:NoAttr K Am5 "high"
 bp1:NoAttr K Am6 "inks"
 al5:NoAttr K Am6 "letters"
 cw7:NoAttr K An2 "low"
 cs1:NoAttr K Ao0 "low"
 cb2:NoAttr K Ao4 "low"
 bh4:NoAttr K An1 "low"
 ce2:NoAttr K Am4 "low"
 co3:NoAttr K Ao1 "low"
 bj7:NoAttr K Ao5 "low"
 cu1:NoAttr K Am5 "low"
 ak5:NoAttr K Am6 "present"
 ai6:NoAttr K Am6 "reigns"
 bm7:NoAttr K An2 "spoken"
 bh1:NoAttr K Ao0 "spoken"
 bn1:NoAttr K Ao4 "spoken"
 ak6:NoAttr K An1 "spoken"
 be1:NoAttr K Am4 "spoken"
 bx3:NoAttr K Ao1 "spoken"
 ah8:NoAttr K Ao5 "spoken"
 bj1:NoAttr K Am5 "spoken"
 cc3:NoAttr K An2 "text"
 bt6:NoAttr K Ao0 "text"
 bw6:NoAttr K Ao4 "text"
 by0:NoAttr K An1 "text"
 bf7:NoAttr K Am4 "text"
 cw1:NoAttr K Ao1 "text"
 br3:NoAttr K Ao5 "text"
 bi7:NoAttr K Am5 "text"
 at2:cn "Stuck"=some Ao2
 eg_Stuck:ErrG K Ao2
 e0_Stuck:cm6 K mg "Stuck" Ao2
 ct_ArchiveError:cj5 K mg "ArchiveError" Am7
 ab_Stuck_ArchiveError:dj9 K Ao2 Am7
 kn_ValueError:bm8 K (.ty "ValueError")
 kv_ValueError:∀q∈[Ao2].zip (List.replicate 1 true),cs7 K q.1 (.ty "ValueError") q.2
 gc_Stuck:mJ mg "Stuck" (.ref Ao2)
 kn_Stuck:bm8 K (.ref Ao2)
 kv_Stuck:∀q∈[Ao2].zip (List.replicate 1 true),cs7 K q.1 (.ref Ao2) q.2
 gc_BadArchive:mJ mg "BadArchive" (.ref Am8)
 gc_BadRow:mJ mg "BadRow" (.ref Am9)
 gc_BadSaying:mJ mg "BadSaying" (.ref An0)
 gc_NoAge:mJ mg "NoAge" (.ref An3)
 gc_NoDating:mJ mg "NoDating" (.ref An4)
 gc_NoGap:mJ mg "NoGap" (.ref An5)
 mn_0:bt7 K [Am8,Am9,An0,An3,An4,An5]
 mv_0:∀q∈[Ao2].zip [false],bu2 K q.1 [Am8,Am9,An0,An3,An4,An5] q.2
 gc_NoName:mJ mg "NoName" (.ref An6)
 gc_NoNumber:mJ mg "NoNumber" (.ref An7)
 gc_NoRow:mJ mg "NoRow" (.ref An8)
 gc_NoYear:mJ mg "NoYear" (.ref An9)
 gc_TooMany:mJ mg "TooMany" (.ref Ao3)
 mn_1:bt7 K [An6,An7,An8,An9,Ao3]
 mv_1:∀q∈[Ao2].zip [false],bu2 K q.1 [An6,An7,An8,An9,Ao3] q.2
 cf8:dR K mg "_law_cell" as9
 cb3:dR K mg "_law_names" ax6
 cj3:dR K mg "_law_whirl" aq6
 cf3:dR K mg "_law_frame" ao6
 ds2:dR K mg "_law_row" bi5
 cy1:dR K mg "_law_hidden" at4
 cv7:dR K mg "_law_free" bk0
 ca2:dR K mg "_law_of_one" ag5
 ch2:dR K mg "_law_of_two" av3
 be7:dR K mg "_law_sayings" ah3
 cu7:dR K mg "is_whole" ak9
 bf1:dR K mg "is_whole_from" zI
 cp3:dR K mg "are_years" at6
 cz1:dR K mg "is_made_of" ag4
 dy2:dR K mg "is_name" by4
 cn3:dR K mg "are_names" ay6
 cg8:dR K mg "is_table" ag9
 cb8:dR K mg "are_inks" ay8
 cy7:dR K mg "is_reign" av9
 cg2:dR K mg "are_reigns" ak3
 by6:dR K mg "_law_archive" az2
 dl8:dR K mg "is_due" ba9
 dt2:dR K mg "are_due" bx4
 dx2:dR K mg "ages_of" bu4
 dg8:dR K mg "spaced" cf0
 co1:dR K mg "ink_saying" aq3
 bi4:dR K mg "reign_called" aq0
 ci2:dR K mg "reign_year" ap4
 ba4:dR K mg "reign_saying" ae1
 bo3:dR K mg "under_saying" ad1
 am8:dR K mg "between_saying" yD
 by3:dR K mg "after_saying" ax0
 bb7:dR K mg "same_saying" aa3
 bk1:dR K mg "within_saying" yX
 bs3:dR K mg "apart_saying" ab1
 ci3:dR K mg "saying_of" az6
 cc8:dR K mg "_law_heap" as8
 ck3:dR K mg "_law_steps" ad7
 bj4:dR K mg "saying_steps" ai0
 cx1:dR K mg "span_steps" az4
 cd8:dR K mg "steps_of" bm0
 cz7:dR K mg "place_of" bf0
 dw2:dR K mg "is_kept" bq5
 bn7:dR K mg "raise_years" aw2
 bu6:dR K mg "ring_behind" ad3
 cv1:dR K mg "settled_by" af5
 dr2:dR K mg "settled" bw4
 bf4:dR K mg "refuse_rings" al0
 cr1:dR K mg "span_costs" ac4
 ce8:dR K mg "costs_by" be0
 bk7:dR K mg "least_costs" ae3
 cl3:dR K mg "_law_stuck" ac7
 cm3:dR K mg "_law_whole" aw6
 bo7:dR K mg "_law_is_step" af3
 bp3:dR K mg "_law_is_chain" ac1
 bh7:dR K mg "_law_is_ring" av2
 ca3:dR K mg "_law_holds" ae7
 bv0:dR K mg "_law_is_dating" yR
 cg3:dR K mg "_law_place" ar6
 ba7:dR K mg "_law_reached" ag3
 cp1:dR K mg "_law_is_row" aw3
 bt3:dR K mg "_law_is_table" as0
 ce3:dR K mg "_law_right" aa7
 ca8:xU K mg "Archive" Am6 "Archive.__init__" lW
 fe0:xU K mg "Ink" An2 "Saying.__init__" fN
 di8:xU K mg "Reign" Ao0 "Saying.__init__" fN
 de8:xU K mg "Under" Ao4 "Saying.__init__" fN
 ch8:xU K mg "Between" An1 "Saying.__init__" fN
 dh8:xU K mg "After" Am4 "Saying.__init__" fN
 el4:xU K mg "Same" Ao1 "Saying.__init__" fN
 du2:xU K mg "Within" Ao5 "Saying.__init__" fN
 df8:xU K mg "Apart" Am5 "Saying.__init__" fN
 al8:iZ K Am6 "table" "Archive.table" lD
 cc2:iZ K An2 "about" "Saying.about" eU
 bq3:iZ K Ao0 "about" "Saying.about" eU
 bv3:iZ K Ao4 "about" "Saying.about" eU
 an8:iZ K An1 "about" "Saying.about" eU
 bc4:iZ K Am4 "about" "Saying.about" eU
 bx6:iZ K Ao1 "about" "Saying.about" eU
 bc1:iZ K Ao5 "about" "Saying.about" eU
 be4:iZ K Am5 "about" "Saying.about" eU
 bv6:iZ K An2 "bounds" "Saying.bounds" eH
 bz0:iZ K Ao0 "bounds" "Saying.bounds" eH
 bo1:iZ K Ao4 "bounds" "Saying.bounds" eH
 al6:iZ K An1 "bounds" "Saying.bounds" eH
 bl1:iZ K Am4 "bounds" "Saying.bounds" eH
 bd4:iZ K Ao1 "bounds" "Saying.bounds" eH
 aj8:iZ K Ao5 "bounds" "Saying.bounds" eH
 bg1:iZ K Am5 "bounds" "Saying.bounds" eH
 cq1:iZ K An2 "shown" "Saying.shown" eV
 bw3:iZ K Ao0 "shown" "Saying.shown" eV
 bb4:iZ K Ao4 "shown" "Saying.shown" eV
 ai8:iZ K An1 "shown" "Saying.shown" eV
 bu3:iZ K Am4 "shown" "Saying.shown" eV
 bs6:iZ K Ao1 "shown" "Saying.shown" eV
 bq1:iZ K Ao5 "shown" "Saying.shown" eV
 bg4:iZ K Am5 "shown" "Saying.shown" eV
 dz2:ac2 w K mg "MAKERS" jD
 bd7:jD.lookup ("ink":Str)=mg "ink_saying"
 bw0:jD.lookup ("reign":Str)=mg "reign_saying"
 bm1:jD.lookup ("under":Str)=mg "under_saying"
 aj6:jD.lookup ("between":Str)=mg "between_saying"
 ba1:jD.lookup ("after":Str)=mg "after_saying"
 bn3:jD.lookup ("same":Str)=mg "same_saying"
 ao8:jD.lookup ("within":Str)=mg "within_saying"
 bx0:jD.lookup ("apart":Str)=mg "apart_saying"
section
theorem l1{α:Type}:∀{us:List α},us.length=1->∃a,us=[a]
 |[a],_=>⟨a,rfl⟩
theorem l2{α:Type}:∀{us:List α},us.length=2->∃a b,us=[a,b]
 |[a,b],_=>⟨a,b,rfl⟩
theorem l3{α:Type}:∀{us:List α},us.length=3->∃a b c,us=[a,b,c]
 |[a,b,c],_=>⟨a,b,c,rfl⟩
theorem l4{α:Type}:∀{us:List α},us.length=4->∃a b c d,us=[a,b,c,d]
 |[a,b,c,d],_=>⟨a,b,c,d,rfl⟩
theorem l5{α:Type}:∀{us:List α},us.length=5->∃a b c d e,us=[a,b,c,d,e]
 |[a,b,c,d,e],_=>⟨a,b,c,d,e,rfl⟩
theorem l6{α:Type}:∀{us:List α},us.length=6->∃a b c d e f,us=[a,b,c,d,e,f]
 |[a,b,c,d,e,f],_=>⟨a,b,c,d,e,f,rfl⟩
variable{X:Cx}
def px(K:A1){a b:Expr}{ta tb:TE}{pos:Pos}(ha:PE X a ta)(hb:PE X b tb)(hs:cp4 b:=by exact λ_ _=>rfl)(hK:autoParam (X.K=K) Z8):PE X (.Subscript a b pos) (tOp (rIx K) ta tb):=fx1 (fh6 K hK) ha hb hs
def pz(i:Nat){x:Str}{e:Expr}{te:TE}{pos pos':Pos}{q:am}{c:Scope}(S:aV X.N q c)(he:PE X e te)(hi:autoParam (X.N[i]?=some x) Z8)(hx:autoParam (Loc X.env.scope x) ZW)(hs:autoParam (swapsWith e (some (.Name x pos')) pos.line X.env=pure false) Z8)(hf:autoParam (X.fn x=true\/X.env.scope.names.lookup x=some .local) Z0):PS X (.Assign [.Name x pos'] e pos) (ba2 te (as5 i)):=ep9 S.nd hi hx he hs hf
def pn(i:Nat){x:Str}{pos:Pos}{q:am}{c:Scope}(S:aV X.N q c)(hi:autoParam (X.N[i]?=some x) Z8)(hx:autoParam (Loc X.env.scope x) ZW)(hf:autoParam (X.fn x=true\/X.env.scope.names.lookup x=some .local) Z0):PG X (.Name x pos) (as5 i):=eg4 S.nd hi hx hf
def pf{k n:Nat}{x:Str}{ps:am}{sp:Sp}{p pos:Pos}{e:Expr}{es:bj}{t:TA}(d:dY X.prog X.w X.K X.mg X.base k x ps sp)(hr:Room n X.A)(ha:PA X (e::es) t)(hk:autoParam (k<=n) Z6)(hg:autoParam (Gl X x) Z8)
 (hdb:autoParam ((x==("__debug__":Str))=false) Z6)(he:autoParam (starEach (e::es) X.env=(false,eval e X.env)::starEach es X.env) Z8)(hpl:autoParam ((backTo pos (starEach es X.env)).any (·.1)=false) Z8):PE X (.Call (.Name x p) (e::es) [] pos) (cc7 sp t):=es8 d (hr.mono hk) ha hg hdb he hpl
def aO{e:Expr}{te:TE}(ha:PE X e te)(hs:autoParam (starEach [e] X.env=[(false,eval e X.env)]) Z8):PA X [e] (nU te xZ):=aE ha oG hs
def pc{a b:Expr}{ta tb:TE}{pos:Pos}{op:CmpOp}{r:R2}(ho:OpR X (compareOp op) r)(ha:PE X a ta)(hb:PE X b tb)(h:autoParam (op≠ .In) Z6)(h2:autoParam (op≠ .NotIn) Z6):PT X (.Compare a [op] [b] pos) (br7 (tOp r ta tb)):=bk2 ho ha hb (uC _ h h2)
def oe(K:A1){k:Nat}(hr:Room k X.A)(hK:autoParam (X.K=K) Z8):OpR X (compareOp .Eq) (cq6 K dJ):=ec8 K hr Y2 hK
def uK(K:A1){o e:Expr}{es:bj}{to:TE}{t:TA}{apos cpos:Pos}(ho:PE X o to)(ha:PA X (e::es) t)(hbase:autoParam (attributeBase o "append" X.env (eval o X.env)=eval o X.env) Z8)
 (hfew:((backTo cpos (starEach (e::es) X.env)).all (λx=>!x.1)&&(backToKw cpos (keywordEach [] X.env)).all (λx=>x.1.isSome)
  &&decide ((e::es).length+([]:List Keyword).length+(if([]:List Keyword).isEmpty then 0 else 1)<30))=true:=by rfl)
 (hline:autoParam ((apos.endLine==cpos.line)=true) Z8)(hs:autoParam (starEach (e::es) X.env=(false,eval e X.env)::starEach es X.env) Z8)(hplain:autoParam ((backTo cpos (starEach es X.env)).any (·.1)=false) Z8)(hK:autoParam (X.K=K) Z8):
 PE X (.Call (.Attribute o "append" apos) (e::es) [] cpos) (tBM K "list" bt2 to t):=xY K L7 PySem.F.slot_list_append PySem.F.type_list_append du0 ho ha hbase hfew hline hs hplain hK
def pm(ks:ax){tg iter elt:Expr}{ifs:bj}{scope:Scope}{pos:Pos}{wi:TI}{g:TG}{tc:TT}{te:TE}(hit:PI X tg iter wi)
 (hg:∀cl C s₀ H₀ ex,PG (oK X scope cl C s₀ H₀ ex) tg g)(hi:∀cl C s₀ H₀ ex,PIf (oK X scope cl C s₀ H₀ ex) ifs tc)(he:∀cl C s₀ H₀ ex,PE (oK X scope cl C s₀ H₀ ex) elt te)(S:autoParam (CScope X ks scope) ZQ)(hc:autoParam (X.calm=true) Z8)
 (hs:autoParam (∀x,foldedSetIterable iter X.env x=pure x) ZY):PE X (.ListComp elt [⟨tg,iter,ifs,0⟩] scope pos) (cn7 ks wi g tc te):=eb2 S hc hit hg hi he hs
def pk(i:Nat){y:Str}{py spos:Pos}{q:am}{c:Scope}(F:aV X.N q c)(ks:ax){tg iter elt:Expr}{ifs:bj}{scope:Scope}{pos:Pos}{wi:TI}{g:TG}{tc:TT}{te:TE}(hit:PI X tg iter wi)
 (hg:∀cl C s₀ H₀ ex,PG (oK X scope cl C s₀ H₀ ex) tg g)(hi:∀cl C s₀ H₀ ex,PIf (oK X scope cl C s₀ H₀ ex) ifs tc)(he:∀cl C s₀ H₀ ex,PE (oK X scope cl C s₀ H₀ ex) elt te)(hi':autoParam (X.N[i]?=some y) Z8)(hy:autoParam (Loc X.env.scope y) ZW)(S:autoParam (CScope X ks scope) ZQ)(hc:autoParam (X.calm=true) Z8)
 (hsw:autoParam (swapsWith (.ListComp elt [⟨tg,iter,ifs,0⟩] scope pos) (some (.Name y py)) spos.line X.env=pure true) Z8)
 (hs:autoParam (∀x,foldedSetIterable iter X.env x=pure x) ZY)(hf:autoParam (X.fn y=true\/X.env.scope.names.lookup y=some .local) Z0):PS X (.Assign [.Name y py] (.ListComp elt [⟨tg,iter,ifs,0⟩] scope pos) spos) (ab8 i ks wi g tc te):=ch5 F.nd hi' hy S hc hit hg hi he hsw hs hf
end
section
local macro_rules | `(tactic| walk_at "u") => `(tactic| (intro _ _ _ _ _ _ us hl; first | (obtain ⟨_, e⟩ := l1 hl; subst e; exact rfl) | (obtain ⟨_, _, e⟩ := l2 hl; subst e; exact rfl) | (obtain ⟨_, _, _, e⟩ := l3 hl; subst e; exact rfl) | (obtain ⟨_, _, _, _, e⟩ := l4 hl; subst e; exact rfl) | (obtain ⟨_, _, _, _, _, e⟩ := l5 hl; subst e; exact rfl) | (obtain ⟨_, _, _, _, _, _, e⟩ := l6 hl; subst e; exact rfl)))
local macro_rules | `(tactic| walk_at "s") => `(tactic| exact ⟨rfl, rfl, rfl, by decide +kernel, rfl, by decide +kernel, by decide +kernel⟩)
def cl2:aV ["_law_script","_law_at"] ["_law_script","_law_at"] (aL as9):=Y5
def ab4:aV ["_law_cell_here","_law_some"] ["_law_cell_here"] (aL ax6):=Y5
def oH:aV ["_law_number","_law_k","_law_upper","_law_lower","_law_found"] ["_law_number","_law_k"] (aL aq6):=Y5
def eK:aV ["_law_script","_law_most","_law_cell_here","_law_span","_law_first","_law_names_here","_law_inks","_law_k","_law_dark","_law_table","_law_j","_law_begin","_law_reigns"] ["_law_script","_law_most"] (aL ao6):=Y5
def sR:aV ["_law_cell_here","_law_many","_law_rest","_law_found","_law_k"] ["_law_cell_here","_law_many"] (aL bi5):=Y5
def ay2:aV ["_law_cell_here","_law_frame_here","_law_x"] ["_law_cell_here","_law_frame_here"] (aL at4):=Y5
def nK:aV ["_law_xs","_law_frame_here","_law_one","_law_other","_law_names_here","_law_low","_law_high"] ["_law_xs","_law_frame_here","_law_one","_law_other"] (aL bk0):=Y5
def dF:aV ["_law_number","_law_frame_here","_law_letter","_law_year","_law_name","_law_rest","_law_ink","_law_table","_law_error","_law_dark","_law_ages","_law_age","_law_at","_law_reign","_law_begin","_law_length","_law_low","_law_high"] ["_law_number","_law_frame_here","_law_letter","_law_year"] (aL ag5):=Y5
def kB:aV ["_law_number","_law_frame_here","_law_letters","_law_gap","_law_names_here","_law_rest","_law_many","_law_low","_law_high","_law_letter"] ["_law_number","_law_frame_here","_law_letters","_law_gap"] (aL av3):=Y5
def fP:aV ["_law_cells","_law_frame_here","_law_false","_law_hidden_here","_law_many","_law_span","_law_told","_law_cell_here","_law_xs","_law_one","_law_years","_law_other","_law_k"] ["_law_cells","_law_frame_here","_law_false","_law_hidden_here"] (aL ah3):=Y5
def ct2:aV ["some"] ["some"] (aL ak9):=Y5
def ak7:aV ["some","low","high"] ["some","low","high"] (aL zI):=Y5
def ce0:aV ["first","present"] ["first","present"] (aL at6):=Y5
def ac3:aV ["word","signs","most","sign"] ["word","signs","most"] (aL ag4):=Y5
def ce7:aV ["word"] ["word"] (aL by4):=Y5
def ax3:aV ["names","least","most","name"] ["names","least","most"] (aL ay6):=Y5
def zY:aV ["some","dark","age"] ["some"] (aL ag9):=Y5
def qG:aV ["inks","name","table"] ["inks"] (aL ay8):=Y5
def ck2:aV ["begin","length"] ["begin","length"] (aL av9):=Y5
def jX:aV ["reigns","name","begin","length"] ["reigns"] (aL ak3):=Y5
def jT:aV ["self","first","present","letters","inks","reigns","name","table","begin","length"] ["self","first","present","letters","inks","reigns"] (aL lW):=Y5
def pA:aV ["_law_frame_here","_law_inks","_law_name","_law_table"] ["_law_frame_here"] (aL az2):=Y5
def aj3:aV ["archive","due","part","ink","reign"] ["archive","due","part"] (aL ba9):=Y5
def az1:aV ["archive","word","parts","due","part"] ["archive","word","parts"] (aL bx4):=Y5
def rF:aV ["self","name","other","table"] ["self","name"] (aL lD):=Y5
def sS:aV ["table","dark","error","greatest","last","ages","most","age"] ["table","dark","error","greatest"] (aL bu4):=Y5
def bk5:aV ["parts","part"] ["parts"] (aL cf0):=Y5
def eX:aV ["self","archive","word","parts","low","high","names","part","due","name"] ["self","archive","word","parts","low","high"] (aL fN):=Y5
def ax2:aV ["archive","parts","ages"] ["archive","parts"] (aL aq3):=Y5
def zO:aV ["archive","name","reign"] ["archive","name"] (aL aq0):=Y5
def be6:aV ["begin","length","k"] ["begin","length","k"] (aL ap4):=Y5
def sY:aV ["archive","parts","reign","year"] ["archive","parts"] (aL ae1):=Y5
def zH:aV ["archive","parts","reign"] ["archive","parts"] (aL ad1):=Y5
def ah6:aV ["archive","parts"] ["archive","parts"] (aL yD):=Y5
def au9:aV ["archive","parts"] ["archive","parts"] (aL ax0):=Y5
def bh3:aV ["archive","parts"] ["archive","parts"] (aL aa3):=Y5
def ac8:aV ["archive","parts"] ["archive","parts"] (aL yX):=Y5
def bi0:aV ["archive","parts"] ["archive","parts"] (aL ab1):=Y5
def by8:aV ["archive","word","parts"] ["archive","word","parts"] (aL az6):=Y5
def qE:aV ["_law_archive_here","_law_told","_law_word","_law_parts","_law_letters","_law_bounds"] ["_law_archive_here","_law_told"] (aL as8):=Y5
def jN:aV ["_law_frame_here","_law_told","_law_found","_law_k","_law_letters","_law_low","_law_high","_law_other","_law_letter"] ["_law_frame_here","_law_told"] (aL ad7):=Y5
def gQ:aV ["self"] ["self"] (aL eV):=Y5
def gN:aV ["self"] ["self"] (aL eU):=Y5
def gH:aV ["self"] ["self"] (aL eH):=Y5
def lN:aV ["saying","number","letters","bounds","other","steps"] ["saying","number"] (aL ai0):=Y5
def bb6:aV ["archive","letter"] ["archive","letter"] (aL az4):=Y5
def qA:aV ["archive","sayings","steps","number","saying","letter"] ["archive","sayings"] (aL bm0):=Y5
def cs2:aV ["end","ground"] ["end","ground"] (aL bf0):=Y5
def br0:aV ["step","years","ground"] ["step","years"] (aL bq5):=Y5
def mH:aV ["steps","years","raisers","ground","raised","step"] ["steps","years","raisers"] (aL aw2):=Y5
def jA:aV ["raisers","place","ground","turn","ring","end"] ["raisers","place"] (aL ad3):=Y5
def jZ:aV ["archive","steps","ground","years","raisers","raised","turn"] ["archive","steps"] (aL af5):=Y5
def cx5:aV ["archive","sayings"] ["archive","sayings"] (aL bw4):=Y5
def au8:aV ["archive","steps"] ["archive","steps"] (aL al0):=Y5
def nH:aV ["archive","ground","costs","letter"] ["archive"] (aL ac4):=Y5
def jH:aV ["archive","steps","ground","costs","step","start","end","over"] ["archive","steps"] (aL be0):=Y5
def bl2:aV ["archive","sayings"] ["archive","sayings"] (aL ae3):=Y5
def sW:aV ["_law_archive_here","_law_sayings_here","_law_caught","e"] ["_law_archive_here","_law_sayings_here"] (aL ac7):=Y5
def bi8:aV ["_law_found"] ["_law_found"] (aL aw6):=Y5
def ag0:aV ["_law_step","_law_steps_here","_law_end"] ["_law_step","_law_steps_here"] (aL af3):=Y5
def lH:aV ["_law_chain","_law_steps_here","_law_start","_law_end","_law_here","_law_step"] ["_law_chain","_law_steps_here","_law_start","_law_end"] (aL ac1):=Y5
def mF:aV ["_law_ring","_law_steps_here","_law_starts","_law_step","_law_k"] ["_law_ring","_law_steps_here"] (aL av2):=Y5
def iO:aV ["_law_years","_law_steps_here","_law_start","_law_end","_law_cost","_law_number","_law_here","_law_there"] ["_law_years","_law_steps_here"] (aL ae7):=Y5
def xW:aV ["_law_years","_law_many","_law_steps_here","_law_year"] ["_law_years","_law_many","_law_steps_here"] (aL yR):=Y5
def bc8:aV ["_law_end","_law_many"] ["_law_end","_law_many"] (aL ar6):=Y5
def fX:aV ["_law_row_here","_law_steps_here","_law_start","_law_many","_law_found","_law_turn","_law_one","_law_other","_law_cost","_law_number","_law_here","_law_there"] ["_law_row_here","_law_steps_here","_law_start"] (aL ag3):=Y5
def kA:aV ["_law_row_here","_law_steps_here","_law_start","_law_many","_law_one","_law_other","_law_cost","_law_number"] ["_law_row_here","_law_steps_here","_law_start"] (aL aw3):=Y5
def zN:aV ["_law_found","_law_many","_law_steps_here","_law_start"] ["_law_found","_law_many","_law_steps_here"] (aL as0):=Y5
def oN:aV ["_law_archive_here","_law_sayings_here","_law_steps_here","_law_many","_law_word","_law_thing","_law_found"] ["_law_archive_here","_law_sayings_here","_law_steps_here"] (aL aa7):=Y5
def mE:aV ["_law_script","_law_frame_here","_law_hidden_here","_law_told","_law_archive_here","_law_sayings_here","_law_steps_here","_law_shown","_law_at","_law_less","_law_grown","_law_saying"] ["_law_script"] (aL wR):=Y5
variable{P:E2}{w:World}{K:A1}{cn:ac}{mg:aa}{base:Heap}{Am6 An2 Ao0 Ao4 An1 Am4 Ao1 Ao5 Am5 Ao2 Am7 Am8 An0 An3 An9 An5 Ao3 An7 An4 Am9 An8 An6:Addr}{sH xP jD:az}(T:Txt w K cn mg Am6 An2 Ao0 Ao4 An1 Am4 Ao1 Ao5 Am5 Ao2 Am7 Am8 An0 An3 An9 An5 Ao3 An7 An4 Am9 An8 An6 sH xP jD)
include T
def dv5:kZ K cn ["Archive"] "first":=bO T.lP T.pR T.ak8 (kI)
def eq2:kZ K cn  Am3  "high":=bO T.uJ T.yP T.ch3 (bO T.mZ T.rJ T.bz6 (bO T.nF T.rH T.bg7 (bO T.kL T.nC T.bi1 (bO T.nE T.rK T.bl7 (bO T.pQ T.uX T.cd2 (bO T.lQ T.oP T.bz3 (bO T.nG T.rL T.bc7 (kI))))))))
def ej4:kZ K cn ["Archive"] "inks":=bO T.lP T.pR T.bp1 (kI)
def cn6:kZ K cn ["Archive"] "letters":=bO T.lP T.pR T.al5 (kI)
def eg9:kZ K cn  Am3  "low":=bO T.uJ T.yP T.cw7 (bO T.mZ T.rJ T.cs1 (bO T.nF T.rH T.cb2 (bO T.kL T.nC T.bh4 (bO T.nE T.rK T.ce2 (bO T.pQ T.uX T.co3 (bO T.lQ T.oP T.bj7 (bO T.nG T.rL T.cu1 (kI))))))))
def co7:kZ K cn ["Archive"] "present":=bO T.lP T.pR T.ak5 (kI)
def dl0:kZ K cn ["Archive"] "reigns":=bO T.lP T.pR T.ai6 (kI)
def dh0:kZ K cn  Am3  "spoken":=bO T.uJ T.yP T.bm7 (bO T.mZ T.rJ T.bh1 (bO T.nF T.rH T.bn1 (bO T.kL T.nC T.ak6 (bO T.nE T.rK T.be1 (bO T.pQ T.uX T.bx3 (bO T.lQ T.oP T.ah8 (bO T.nG T.rL T.bj1 (kI))))))))
def ex0:kZ K cn  Am3  "text":=bO T.uJ T.yP T.cc3 (bO T.mZ T.rJ T.bt6 (bO T.nF T.rH T.bw6 (bO T.kL T.nC T.by0 (bO T.nE T.rK T.bf7 (bO T.pQ T.uX T.cw1 (bO T.lQ T.oP T.br3 (bO T.nG T.rL T.bi7 (kI))))))))
def bn0:∀(c:Str)(C:Addr),(["Stuck"]:List Str).contains c=true->cn c=some C->PySem.W.mroIn K C (.ref Am7)=some true:=du6 (P:=λC=>PySem.W.mroIn K C (.ref Am7)=some true) T.at2 T.ab_Stuck_ArchiveError (en2)
def ap9:∀c∈[Ao2],ErrG K c:=P9.mpr ⟨T.eg_Stuck,nofun⟩
def af9:CnL cn eN [Ao2]:=⟨T.at2,trivial⟩
def bu5:IsN K (.ty "ValueError"):=ey4 T.kn_ValueError
def bz5:∀q∈[Ao2].zip (List.replicate 1 true),IsE K q.1 (.ty "ValueError") q.2:=bt9 (ap9 T) T.kv_ValueError
def bt5:aw1 cn wJ ([Ao2].zip (List.replicate 1 true)):=yJ (af9 T)
def do3:IsN K (.ref Ao2):=em2 T.kn_Stuck
def dx3:∀q∈[Ao2].zip (List.replicate 1 true),IsE K q.1 (.ref Ao2) q.2:=bt9 (ap9 T) T.kv_Stuck
def dv7:aw1 cn aa8 ([Ao2].zip (List.replicate 1 true)):=yJ (af9 T)
def fl5:∀q∈[Ao2].zip [false],ErrG K q.1/\bu2 K q.1 [Am8,Am9,An0,An3,An4,An5] q.2:=λq hq=>⟨ap9 T q.1 (R0 hq).1,T.mv_0 q hq⟩
def tm0:aw1 cn dh6 ([Ao2].zip [false]):=yJ (af9 T)
def fz5:∀q∈[Ao2].zip [false],ErrG K q.1/\bu2 K q.1 [An6,An7,An8,An9,Ao3] q.2:=λq hq=>⟨ap9 T q.1 (R0 hq).1,T.mv_1 q hq⟩
def tm1:aw1 cn dg7 ([Ao2].zip [false]):=yJ (af9 T)
def di6:ar3 K cn 2 tm_table [(Am6,bK K cn 2 gS)]:=cX T.lP (ag2)
def dk7:ar3 K cn 1 tm_about [(An2,bK K cn 1 bD),(Ao0,bK K cn 1 bD),(Ao4,bK K cn 1 bD),(An1,bK K cn 1 bD),(Am4,bK K cn 1 bD),(Ao1,bK K cn 1 bD),(Ao5,bK K cn 1 bD),(Am5,bK K cn 1 bD)]:=cX T.uJ (cX T.mZ (cX T.nF (cX T.kL (cX T.nE (cX T.pQ (cX T.lQ (cX T.nG (ag2))))))))
def dc2:ar3 K cn 1 tm_bounds [(An2,bK K cn 1 aX),(Ao0,bK K cn 1 aX),(Ao4,bK K cn 1 aX),(An1,bK K cn 1 aX),(Am4,bK K cn 1 aX),(Ao1,bK K cn 1 aX),(Ao5,bK K cn 1 aX),(Am5,bK K cn 1 aX)]:=cX T.uJ (cX T.mZ (cX T.nF (cX T.kL (cX T.nE (cX T.pQ (cX T.lQ (cX T.nG (ag2))))))))
def do5:ar3 K cn 1 tm_shown [(An2,bK K cn 1 bC),(Ao0,bK K cn 1 bC),(Ao4,bK K cn 1 bC),(An1,bK K cn 1 bC),(Am4,bK K cn 1 bC),(Ao1,bK K cn 1 bC),(Ao5,bK K cn 1 bC),(Am5,bK K cn 1 bC)]:=cX T.uJ (cX T.mZ (cX T.nF (cX T.kL (cX T.nE (cX T.pQ (cX T.lQ (cX T.nG (ag2))))))))
local macro_rules | `(tactic| walk_at "b") => `(tactic| first | exact .inl rfl | exact .inr rfl)
local macro_rules|`(tactic|walk_at "ro")=>do let l←YQ "fm4/ fq1/ fv0/ ex5/ fz4/ fu4/ fw1/ fx4/ fh1/ ex2/ fu5/ fm2/ fw5/ fb5/ fc5/ ee6/";`(tactic|first $[|$l]*)
local macro_rules|`(tactic|walk_at "rc")=>do let l←YQ "fk4/ el8/ fq0/ ft2/ ff2/ er7/ fo2/ dq7/ dn6/ ee9/ fs0/ dh7/ fa1/ eq8/";`(tactic|first $[|$l]*)
local macro_rules|`(tactic|walk_at "rf")=>do let l←YQ "dv5/9 eq2/9 ej4/9 cn6/9 eg9/9 co7/9 dl0/9 dh0/9 ex0/9";`(tactic|first $[|$l]*)
local macro_rules|`(tactic|walk_at "q")=>do let l←YQ "el6/ es1/ fl1/rr ef6/fr dc4/rr fx3/orr fb1/@rruu es7/ ex8/ RB.chk/r cc1/rr dz0/n eh4/r di4/r ew1/nr cr6/rrrruu es9/r ff3/cr dx0/r fo0/rrr en0/ eq1/ dp3/ et4/ eg6/ fv1/ fz3/ cj4/r ee7/r ef9/r ep5/rr fj0/rr en6/@r ek5/@r em7/@r eg2/ ew5/@rru db6/rr ee3/r ek2/r fc6/r fn5/r ed2/r el1/r ep7/r fv2/rr eh9/rru ea6/nrru ej5/frr en5/rrr cc4/rrrru ee4/ ec3/r dn5/oorrr ek0/rr et1/r ff4/rrr RE.frz/r RE.frz1/r dd3/nrr ei2/nr ej0/nr ea1/nr er2/r dn4/rr";`(tactic|first $[|$l]*)
local macro_rules|`(tactic|walk_at "rn")=>do let l←YQ "Txt.nE/9 Txt.nG/9 Txt.lP/9 Txt.kL/9 Txt.uJ/9 Txt.mZ/9 Txt.pQ/9 Txt.at2/9 Txt.nF/9 Txt.lQ/9 dv7/9 bt5/9 tm0/9 tm1/9 fr0/ fh0/ ev9/ dk7/9 dc2/9 do5/9 di6/9 Txt.g_NUMBERS/9 Txt.g_PARTS/9";`(tactic|first $[|$l]*)
local macro_rules|`(tactic|walk_at "ru")=>`(tactic|with_unfolding_all exact rfl)
local macro_rules|`(tactic|walk_at "r")=>`(tactic|with_reducible first
 |walk_at "q"
 |exact eu7 _
 |(refine RE.rb (mv := []) ?_; walk_at "r")
 |(refine eu0 ?_ ?_ (Nat.le_of_ble_eq_true rfl) ?_; (first | exact tm0 ‹_› | exact tm1 ‹_›); (repeat (first | exact dq6 | refine ci8 ?_)); walk_at "r")
 |(apply dh2 <;> walk_at "r")
 |(refine cx3 _ ?_; with_unfolding_all exact rfl)
 |exact fh3 _
 |(apply en4 <;> walk_at "r")
 |exact et9 _
 |(refine fy1 fx5 ?_ ?_ ?_ <;> walk_at "r")
 |(refine fz0 fk1 ?_; walk_at "r")
 |(refine ds9 du1 em3 ?_ ?_ <;> walk_at "r")
 |(refine ds9 df2 eu9 ?_ ?_ <;> walk_at "r")
 |(with_unfolding_all refine cj4 ?_; walk_at "r")
 |(refine dy4 Y2 Y2 Y2 ?_ ?_ ?_ <;> with_unfolding_all exact rfl))
def wU:dY P w K mg base 1 "_law_cell" ["_law_script","_law_at"] (bK K cn 2 kK):=by
 refine bJ (d:=xB) T.cf8 cl2 Y3 (λf c A o s H E r=>⟨_,(aH (bT (pc az5 Ae2 (aR (bV K) rfl T.dW cW (aO Ae1))) (aK (aQ (px K Ae1 Ae2))) bI)
 (aK (aQ aG))),by unfold xB;walk_at "r"⟩) rfl Ao8
def cm2:dY P w K mg base 1 "_law_names" ["_law_cell_here"] (bK K cn 1 vT):=by
 refine bJ (d:=vF) T.cb3 ab4 Y3 (λf c A o s H E r=>⟨_,(aH (pz 1 ab4 (cR (aE cC (aE cC (aE cC (aE cC (aE cC (aE cC (aE cC (aO cC))))))))))
 (aK (aQ (aM (bA K) (gL (pX K) Ae2 (gT (aM bY Ae1 aG)) jU) (gL (pX K) Ae2 jU (gT (aM bY Ae1 aG))))))),by unfold vF;walk_at "r"⟩) rfl Ao8
def gW:dY P w K mg base 1 "_law_whirl" ["_law_number","_law_k"] (bK K cn 2 fS):=by
 refine bJ (d:=vN) T.cj3 oH Y3 (λf c A o s H E r=>⟨_,(aH (pz 0 oH (aM (bA K) (aM (bA K) (aM bY Ae1 aG) (aM nM aG Ae2)) aG))
 (aH (tE (aR (bg9 K) rfl T.dj8 cx9 (aE (aM bY (aM nM Ae1 aG) aG) (aO aG))) (gE K 2 rfl (bM (pn 2 oH) (bM (pn 3 oH) gF))))
 (aH (pz 4 oH (aM (bA K) (aM (bA K) (aM (bA K) (aM nM Ae3 Ae4) (aM nM aG Ae3)) (aM nM aG Ae4)) Ae2))
 (aK (aQ (aM bY (aM nM Ae5 (aM (bA K) (aM bY Ae5 aG) aG)) aG)))))),by unfold vN;walk_at "r"⟩) rfl Ao8
def cp2:dY P w K mg base 2 "_law_frame" ["_law_script","_law_most"] (bK K cn 2 vM):=by
 refine bJ (d:=uZ) T.cf3 eK Y3 (λf c A o s H E r=>⟨_,(aH (pz 2 eK (aM bY (pf (wU T:) r (aE Ae1 (aO aG))) (aM cu0 aG aG)))
 (aH (pz 3 eK (px K (cR (aE aG (aE aG (aE aG (aE aG (aE aG (aE aG (aE aG (aO aG))))))))) (aM bY Ae3 aG)))
 (aH (pz 4 eK (px K (cR (aE (tW oE aG) (aE (aM cH aG Ae4) (aE (tW oE aG) (aO aG))))) (aM bY (aM iI Ae3 aG) aG)))
 (aH (pz 5 eK (gL (pX K) (pf (cm2 T:) r (aO (aM iI Ae3 aG))) jU (gT (aM (bA K) aG (aM bY (aM iI Ae3 aG) Ae2)))))
 (aH (pz 6 eK (cR oG))
 (aH (fJ D7 rfl (fF rfl T.fZ (aO (aM (bA K) aG (aM bY (pf (gW T:) r (aE Ae3 (aO aG))) aG)))) (pn 7 eK) (aH (pz 8 eK (aM (bA K) aG (aM bY (aM iI Ae3 aG) aG)))
 (aH (pz 9 eK (cR (aO Ae9)))
 (aH (fJ D7 rfl (fF rfl T.fZ (aO (aM bY (pf (gW T:) r (aE Ae3 (aO Ae8))) (px K (cR (aE aG (aO aG))) (aM iI (aM bY (aM iI Ae3 aG) aG) aG))))) (pn 10 eK) (aH (pz 8 eK (aR (vZ K) rfl T.bb1 ao4 (aE aG (aO (aM cH Ae9 (aM bY (pf (gW T:) r (aE Ae3 (aO (aM (bA K) (aM nM aG Af1) Ae8)))) aG))))))
 (aK (fH (uK K Af0 (aO Ae9))))))
 (aK (fH (uK K Ae7 (aO (cD (aE (px K (cR (aE cC (aE cC (aE cC (aE cC (aE cC (aO cC))))))) Ae8) (aO Af0)))))))))))
 (aH (pz 11 eK (aM (bA K) (aM cH Ae5 aG) (aM bY (pf (gW T:) r (aE Ae3 (aO aG))) (aM (bA K) Ae4 aG))))
 (aH (pz 12 eK (cR (aE (cD (aE cC (aE Af2 (aO (aM (bA K) aG (aM bY (pf (gW T:) r (aE Ae3 (aO aG))) aG)))))) (aO (cD (aE cC (aE (aM (bA K) Af2 aG) (aO (aM (bA K) aG (aM bY (pf (gW T:) r (aE Ae3 (aO aG))) aG))))))))))
 (aH (fJ D7 rfl (fF rfl T.fZ (aO (aM bY (pf (gW T:) r (aE Ae3 (aO aG))) aG))) (pn 7 eK) (aH (pz 11 eK (aM cH (aM (bA K) Af2 (aM bY (pf (gW T:) r (aE Ae3 (aO (aM (bA K) aG Ae8)))) aG)) aG))
 (aK (fH (xY K L7 PySem.F.slot_list_insert PySem.F.type_list_insert dm1 (pv 12) (aE aG (aO (cD (aE (px K (cR (aE cC (aE cC (aE cC (aE cC (aE cC (aO cC))))))) Ae8) (aE Af2 (aO (aM (bA K) aG (aM bY (pf (gW T:) r (aE Ae3 (aO (aM (bA K) aG Ae8)))) aG)))))))))))))
 (aK (aQ (cD (aE Ae5 (aE (aM (bA K) Ae5 Ae4) (aE Ae6 (aE Ae7 (aO (pv 12)))))))))))))))))),by unfold uZ;walk_at "r"⟩) rfl Ao8
def bs4:dY P w K mg base 2 "_law_row" ["_law_cell_here","_law_many"] (bK K cn 2 rW):=by
 refine bJ (d:=zL) T.ds2 sR Y3 (λf c A o s H E r=>⟨_,(aH (pz 2 sR (aM bY (aR (ar4 K) rfl T.cx7 cl1 (aO Ae1)) (aM cu0 aG aG)))
 (aH (pz 3 sR (cR oG))
 (aH (fJ D7 rfl (fF rfl T.fZ (aO Ae2)) (pn 4 sR) (aK (bT (PW.pt (lF (pc az5 Ae1 aG) (mB (pc dk9 Ae1 (aM cu0 aG aG))))) (aH (fH (uK K Ae4 (aO (aM bY Ae3 aG))))
 (aK (pz 2 sR (aM iI Ae3 aG)))) (aK (fH (uK K Ae4 (aO (pf (gW T:) r (aE (aM (bA K) (pf (gW T:) r (aE Ae1 (aO Ae5))) Ae1) (aO Ae5))))))))))
 (aK (aQ Ae4))))),by unfold zL;walk_at "r"⟩) rfl Ao8
def bj8:dY P w K mg base 3 "_law_hidden" ["_law_cell_here","_law_frame_here"] (bK K cn 2 tS):=by refine bJ (d:=sO) T.cy1 ay2 Y3 (λf c A o s H E r=>⟨_,(aK (aQ (pm [2] (gC K (pf (bs4 T:) r (aE Ae1 (aO (aR (bV K) rfl T.dW cW (aO (px K Ae2 aG))))))) (λ_ _ _ _ _=>(pn 2 ay2)) (λ_ _ _ _ _=>dM) (λ_ _ _ _ _=>(aM (bA K) (px K Ae2 aG) (aM bY Ae3 (aM (bA K) (aM cH (px K Ae2 aG) (px K Ae2 aG)) aG))))))),by unfold sO;walk_at "r"⟩) rfl Ao8
def ci5:dY P w K mg base 1 "_law_free" ["_law_xs","_law_frame_here","_law_one","_law_other"] (bK K cn 4 tT):=by
 refine bJ (d:=wY) T.cv7 nK Y3 (λf c A o s H E r=>⟨_,(aH (pz 4 nK (cR (aE (px K (px K Ae2 aG) Ae3) (aO (px K (px K Ae2 aG) Ae4)))))
 (aH (bT (PW.pt (lF (pc (oe K r) Ae3 Ae4) (mB (pc (oe K r) (aM bY (px K Ae1 aG) aG) aG)))) (aH (pz 5 nK (aM (bA K) (aM cH (px K Ae2 aG) aG) (aM bY (px K Ae1 aG) (aM (bA K) (aM cH (px K Ae2 aG) (px K Ae2 aG)) aG))))
 (aH (pz 6 nK (aM (bA K) Ae6 (aM bY (px K Ae1 aG) aG)))
 (aK (aQ (cD (aE cC (aE (aM (bA K) (gL (pX K) Ae5 jU (gT aG)) (cR (aE Ae6 (aO Ae7)))) (aE (cD (aO Ae3)) (aO (cD (aE Ae6 (aO Ae7)))))))))))) bI)
 (aH (pz 5 nK (aM cH (aM bY (px K Ae1 aG) aG) aG))
 (aH (pz 6 nK (aR (lJ K) rfl T.xL sI (aE aG (aO (aM (bA K) Ae6 (aM bY (px K Ae1 aG) aG))))))
 (aK (aQ (cD (aE cC (aE (aM (bA K) Ae5 (cR (aE Ae6 (aO Ae7)))) (aE (cD (aE Ae3 (aO Ae4))) (aO (cD (aE Ae6 (aO Ae7)))))))))))))),by unfold wY;walk_at "r"⟩) rfl Ao8
def bj9:dY P w K mg base 1 "_law_of_one" ["_law_number","_law_frame_here","_law_letter","_law_year"] (bK K cn 4 oC):=by
 refine bJ (d:=sN) T.ca2 dF Y3 (λf c A o s H E r=>⟨_,(aH (pz 4 dF (px K (px K Ae2 aG) Ae3))
 (aH (pz 5 dF (aM iI Ae1 aG))
 (aH (bT (pc (oe K r) (aM bY Ae1 aG) aG) (aH (tE (px K (px K Ae2 aG) (aM bY Ae6 (aR (bV K) rfl T.dW cW (aO (px K Ae2 aG))))) (gE K 2 rfl (bM (pn 6 dF) (bM (pn 7 dF) gF))))
 (aH (pz 8 dF (aM bY (aM iI Ae6 aG) aG))
 (aH (pz 9 dF (px K Ae8 (aR (lJ K) rfl T.xL sI (aE (aM cH (px K Ae2 aG) Ae4) (aO (aM cH (aR (bV K) rfl T.dW cW (aO Ae8)) aG))))))
 (aH (pz 9 dF (aR (vZ K) rfl T.bb1 ao4 (aE aG (aO (aM cH (aM (bA K) Af0 (aM bY (aM iI Ae6 aG) (aM (bA K) (aM nM aG Ae9) aG))) Ae9)))))
 (aH (pz 10 dF (cR oG))
 (aH (fJ D7 rfl (fF rfl T.fZ (aO (aM (bA K) (aM cH (px K Ae2 aG) (px K Ae2 aG)) aG))) (pn 11 dF) (aK (bT (pc mM (aR (ar4 K) rfl T.cx7 cl1 (aO (aM cH (px K Ae8 (aR (lJ K) rfl T.xL sI (aE Af2 (aO (aM cH (aR (bV K) rfl T.dW cW (aO Ae8)) aG))))) Af0))) Ae9) (aK (fH (uK K Af1 (aO Af2)))) bI)))
 (aK (aQ (cD (aE cC (aE (cR (aE Ae5 (aE Ae7 (aE Af0 (aO Ae9))))) (aE (cD (aO Ae3)) (aO (cD (aE (aM cH (px K Ae2 aG) (px K Af1 (tW oE aG))) (aO (aM cH (px K Ae2 aG) (px K Af1 aG)))))))))))))))))) bI)
 (aH (pz 12 dF (aM bY (aM iI Ae6 aG) (aR (bV K) rfl T.dW cW (aO (px K Ae2 aG)))))
 (aH (fJ D7 rfl (gC K (aM (bA K) (gL (pX K) (px K Ae2 aG) (gT (pv 12)) jU) (gL (pX K) (px K Ae2 aG) jU (gT (pv 12))))) (gE K 3 rfl (bM (pn 13 dF) (bM (pn 14 dF) (bM (pn 15 dF) gF)))) (aK (bT (PW.pt (qB (pc (oe K r) (aM bY Ae1 aG) aG) (pF (ax7 mM az5 (pv 14) Ae4 (aM (bA K) (pv 14) (pv 15)))))) (aH (bT (pc (oe K r) (aM bY Ae6 aG) aG) (aK (aQ (cD (aE cC (aE (cR (aE Ae5 (aE (pv 13) (aO (aM (bA K) (aM cH Ae4 (pv 14)) aG))))) (aE (cD (aO Ae3)) (aO (cD (aE Ae4 (aO Ae4)))))))))) bI)
 (aK (aQ (cD (aE cC (aE (cR (aE Ae5 (aO (pv 13)))) (aE (cD (aO Ae3)) (aO (cD (aE (pv 14) (aO (aM cH (aM (bA K) (pv 14) (pv 15)) aG)))))))))))) bI)))
 (aH (pz 16 dF (aR (vZ K) rfl T.bb1 ao4 (aE (tW oE aG) (aO (aM cH Ae4 (aM bY Ae6 aG))))))
 (aH (pz 17 dF (aR (lJ K) rfl T.xL sI (aE aG (aO (aM (bA K) Ae4 (aM bY (aM iI Ae6 aG) aG))))))
 (aK (aQ (cD (aE cC (aE (cR (aE Ae5 (aE (pv 16) (aO (pv 17))))) (aE (cD (aO Ae3)) (aO (cD (aE (pv 16) (aO (pv 17)))))))))))))))))),by unfold sN;walk_at "r"⟩) rfl Ao8
def bf9:dY P w K mg base 1 "_law_of_two" ["_law_number","_law_frame_here","_law_letters","_law_gap"] (bK K cn 4 oA):=by
 refine bJ (d:=tH) T.ch2 kB Y3 (λf c A o s H E r=>⟨_,(aH (pk 4 kB [9] (gC K Ae3) (λ_ _ _ _ _=>(pn 9 kB)) (λ_ _ _ _ _=>dM) (λ_ _ _ _ _=>(px K (px K Ae2 aG) Af0)))
 (aH (pz 5 kB (aM iI Ae1 aG))
 (aH (bT (PW.pt (qB (pc (oe K r) Ae4 aG) (pF (pc (oe K r) (aM bY Ae1 aG) aG)))) (aK (aQ (cD (aE cC (aE Ae5 (aE Ae3 (aO (cD (aE aG (aO aG)))))))))) bI)
 (aH (bT (PW.pt (qB (pc av5 Ae4 aG) (pF (pc az5 (aM bY Ae1 aG) aG)))) (aK (aQ (cD (aE cC (aE Ae5 (aE Ae3 (aO (cD (aE aG (aO dZ)))))))))) bI)
 (aH (bT (PW.pt (qB (pc dk9 Ae4 aG) (pF (pc (oe K r) (aM bY Ae1 aG) aG)))) (aH (pz 6 kB (aR (lJ K) rfl T.xL sI (aE aG (aO (aM (bA K) Ae4 (aM bY Ae6 aG))))))
 (aK (aQ (cD (aE cC (aE (aM (bA K) Ae5 (cR (aO Ae7))) (aE Ae3 (aO (cD (aE aG (aO Ae7))))))))))) bI)
 (aH (pz 7 kB (aR (vZ K) rfl T.bb1 ao4 (aE (tW oE aG) (aO (aM cH Ae4 (aM bY Ae6 aG))))))
 (aH (pz 8 kB (aR (lJ K) rfl T.xL sI (aE aG (aO (aM (bA K) Ae4 (aM bY (aM iI Ae6 aG) aG))))))
 (aK (aQ (cD (aE cC (aE (aM (bA K) Ae5 (cR (aE Ae8 (aO Ae9)))) (aE Ae3 (aO (cD (aE Ae8 (aO Ae9))))))))))))))))),by unfold tH;walk_at "r"⟩) rfl Ao8
def bn6:dY P w K mg base 3 "_law_sayings" ["_law_cells","_law_frame_here","_law_false","_law_hidden_here"] (bK K cn 4 qY):=by
 refine bJ (d:=qL) T.be7 fP Y3 (λf c A o s H E r=>⟨_,(aH (pz 4 fP (aR (bV K) rfl T.dW cW (aO (px K Ae2 aG))))
 (aH (pz 5 fP (aM cH (px K Ae2 aG) (px K Ae2 aG)))
 (aH (pz 6 fP (cR oG))
 (aH (fJ D7 rfl (gC K Ae1) (pn 7 fP) (aH (pz 8 fP (pf (bs4 T:) r (aE Ae8 (aO aG))))
 (aH (pz 9 fP (aM bY (px K Ae9 aG) Ae5))
 (aH (pz 10 fP (jR (jL K) rfl T.kE iR (aO Ae4)))
 (aH (bT (PW.pt (qB (bU K Ae3 Ao8) (pF (pc (oe K r) (aM bY (px K Ae9 aG) aG) aG)))) (aK (pk 10 fP [12] (fF rfl T.fZ (aO Ae5)) (λ_ _ _ _ _=>(pn 12 fP)) (λ_ _ _ _ _=>dM) (λ_ _ _ _ _=>(aM (bA K) (px K Ae2 aG) (aM bY (aM (bA K) (px K Ae9 aG) (aM nM (aM nM aG (px K Ae9 aG)) (pv 12))) (aM (bA K) Ae6 aG)))))) bI)
 (aH (pz 11 fP (aM bY (aM (bA K) (aM (bA K) Af0 aG) (aM bY (aM iI (px K Ae9 aG) aG) (aR (vZ K) rfl T.bb1 ao4 (aE aG (aO (aM cH Ae5 aG)))))) Ae5))
 (aK (bT (PW.pt (qB (bU K Ae3 Ao8) (pF (pc (oe K r) (aM bY (px K Ae9 aG) aG) aG)))) (aK (fH (uK K Ae7 (aO (pf (ci5 T:) r (aE Ae9 (aE Ae2 (aE Af0 (aO Af2))))))))) (aK (bT (PW.pt (lF (pc (oe K r) Ae5 aG) (mB (pc az5 (aM bY (px K Ae9 aG) aG) aG)))) (aK (fH (uK K Ae7 (aO (pf (bj9 T:) r (aE (px K Ae9 aG) (aE Ae2 (aE Af0 (aO (px K Af1 Af0)))))))))) (aK (fH (uK K Ae7 (aO (pf (bf9 T:) r (aE (px K Ae9 aG) (aE Ae2 (aE (cD (aE Af0 (aO Af2))) (aO (aM cH (px K Af1 Af0) (px K Af1 Af2)))))))))))))))))))))
 (aK (aQ Ae7)))))),by unfold qL;walk_at "r"⟩) rfl Ao8
def co6:dY P w K mg base 1 "is_whole" ["some"] (bK K cn 1 wZ):=by refine bJ (d:=xD) T.cu7 ct2 Y3 (λf c A o s H E r=>⟨_,(aK (aQ (vV (aR (kN K) rfl T.fG eI (aE Ae1 (aO (sX T.dz9 dc1)))) (wA (cw0 (aR (kN K) rfl T.fG eI (aE Ae1 (aO (sX T.dv2 cq4))))))))),by unfold xD;walk_at "r"⟩) rfl Ao8
def iN:dY P w K mg base 2 "is_whole_from" ["some","low","high"] (bK K cn 3 eE):=by refine bJ (d:=nY) T.bf1 ak7 Y3 (λf c A o s H E r=>⟨_,(aK (aQ (vV (pf (co6 T:) r (aO Ae1)) (wA (at7 mM mM Ae2 Ae1 Ae3))))),by unfold nY;walk_at "r"⟩) rfl Ao8
def cx2:dY P w K mg base 3 "are_years" ["first","present"] (bK K cn 2 vL):=by
 refine bJ (d:=vD) T.cp3 ce0 Y3 (λf c A o s H E r=>⟨_,(aH (bT (dE (bU K (pf (iN T:) r (aE Ae1 (aE (tW oE (fQ T.g_FARTHEST_END)) (aO (fQ T.g_FARTHEST_END))))) Ao8)) (aK (aQ fU)) bI)
 (aH (bT (dE (bU K (pf (iN T:) r (aE Ae2 (aE (tW oE (fQ T.g_FARTHEST_END)) (aO (fQ T.g_FARTHEST_END))))) Ao8)) (aK (aQ fU)) bI)
 (aK (aQ (at7 mM mM aG (aM cH Ae2 Ae1) (fQ T.g_LONGEST_SPAN)))))),by unfold vD;walk_at "r"⟩) rfl Ao8
def bc9:dY P w K mg base 1 "is_made_of" ["word","signs","most"] (bK K cn 3 uH):=by refine bJ (d:=sV) T.cz1 ac3 Y3 (λf c A o s H E r=>⟨_,(aK (aQ (vV (at7 mM mM aG (aR (bV K) rfl T.dW cW (aO Ae1)) Ae3) (wA (aR (kM K) rfl T.vU qH (aO (pm [3] (gC K Ae1) (λ_ _ _ _ _=>(pn 3 ac3)) (λ_ _ _ _ _=>dM) (λ_ _ _ _ _=>(jV (yL K (n:=dJ) r) Ae4 Ae2 Y4))))))))),by unfold sV;walk_at "r"⟩) rfl Ao8
def cl8:dY P w K mg base 2 "is_name" ["word"] (bK K cn 1 vW):=by refine bJ (d:=yT) T.dy2 ce7 Y3 (λf c A o s H E r=>⟨_,(aK (aQ (pf (bc9 T:) r (aE Ae1 (aE (fQ T.g_LETTERS) (aO (fQ T.g_MOST_LETTERS_words))))))),by unfold yT;walk_at "r"⟩) rfl Ao8
def ab0:dY P w K mg base 3 "are_names" ["names","least","most"] (bK K cn 3 nL):=by
 refine bJ (d:=vQ) T.cn3 ax3 Y3 (λf c A o s H E r=>⟨_,(aH (bT (dE (ax7 mM mM Ae2 (aR (bV K) rfl T.dW cW (aO Ae1)) Ae3)) (aK (aQ fU)) bI)
 (aK (aQ (vV (aR (kM K) rfl T.vU qH (aO (pm [3] (gC K Ae1) (λ_ _ _ _ _=>(pn 3 ax3)) (λ_ _ _ _ _=>dM) (λ_ _ _ _ _=>(pf (cl8 T:) r (aO Ae4)))))) (wA (jV (oe K r) (cy9 K T.dW T.fs4 (aO Ae1)) (aR (bV K) rfl T.dW cW (aO Ae1)) (uC _))))))),by unfold vQ;walk_at "r"⟩) rfl Ao8
def cr7:dY P w K mg base 3 "is_table" ["some"] (bK K cn 1 uF):=by
 refine bJ (d:=wW) T.cg8 zY Y3 (λf c A o s H E r=>⟨_,(aH (bT (dE (ax7 mM mM aG (aR (bV K) rfl T.dW cW (aO Ae1)) (fQ T.g_MOST_AGES))) (aK (aQ fU)) bI)
 (aH (bT (dE (bU K (aR (kM K) rfl T.vU qH (aO (pm [1] (gC K Ae1) (λ_ _ _ _ _=>(pn 1 zY)) (λ_ _ _ _ _=>dM) (λ_ _ _ _ _=>(pf (iN T:) r (aE Ae2 (aE aG (aO (fQ T.g_DARKEST))))))))) Ao8)) (aK (aQ fU)) bI)
 (aK (aQ (aR (kM K) rfl T.vU qH (aO (pm [2] (ct9 rfl T.fZ (aE aG (aO (aR (bV K) rfl T.dW cW (aO Ae1))))) (λ_ _ _ _ _=>(pn 2 zY)) (λ_ _ _ _ _=>dM) (λ_ _ _ _ _=>(jV mM (px K Ae1 Ae3) (px K Ae1 (aM cH Ae3 aG)) (uC _)))))))))),by unfold wW;walk_at "r"⟩) rfl Ao8
def ck6:dY P w K mg base 4 "are_inks" ["inks"] (bK K cn 1 wT):=by
 refine bJ (d:=xK) T.cb8 qG Y3 (λf c A o s H E r=>⟨_,(aH (bT (dE (bU K (pf (ab0 T:) r (aE (pm [1,2] (gC K Ae1) (λ_ _ _ _ _=>(gE K 2 rfl (bM (pn 1 qG) (bM (pn 2 qG) gF)))) (λ_ _ _ _ _=>dM) (λ_ _ _ _ _=>Ae2)) (aE aG (aO (fQ T.g_MOST_INKS))))) Ao8)) (aK (aQ fU)) bI)
 (aK (aQ (aR (kM K) rfl T.vU qH (aO (pm [1,2] (gC K Ae1) (λ_ _ _ _ _=>(gE K 2 rfl (bM (pn 1 qG) (bM (pn 2 qG) gF)))) (λ_ _ _ _ _=>dM) (λ_ _ _ _ _=>(pf (cr7 T:) r (aO Ae3))))))))),by unfold xK;walk_at "r"⟩) rfl Ao8
def ci7:dY P w K mg base 3 "is_reign" ["begin","length"] (bK K cn 2 sU):=by refine bJ (d:=xJ) T.cy7 ck2 Y3 (λf c A o s H E r=>⟨_,(aK (aQ (vV (pf (iN T:) r (aE Ae1 (aE (tW oE (fQ T.g_FARTHEST_YEAR)) (aO (fQ T.g_FARTHEST_YEAR))))) (wA (pf (iN T:) r (aE Ae2 (aE aG (aO (fQ T.g_LONGEST_REIGN))))))))),by unfold xJ;walk_at "r"⟩) rfl Ao8
def bk9:dY P w K mg base 4 "are_reigns" ["reigns"] (bK K cn 1 tJ):=by
 refine bJ (d:=uA) T.cg2 jX Y3 (λf c A o s H E r=>⟨_,(aH (bT (dE (bU K (pf (ab0 T:) r (aE (pm [1,2,3] (gC K Ae1) (λ_ _ _ _ _=>(gE K 3 rfl (bM (pn 1 jX) (bM (pn 2 jX) (bM (pn 3 jX) gF))))) (λ_ _ _ _ _=>dM) (λ_ _ _ _ _=>Ae2)) (aE aG (aO (fQ T.g_MOST_REIGNS))))) Ao8)) (aK (aQ fU)) bI)
 (aK (aQ (aR (kM K) rfl T.vU qH (aO (pm [1,2,3] (gC K Ae1) (λ_ _ _ _ _=>(gE K 3 rfl (bM (pn 1 jX) (bM (pn 2 jX) (bM (pn 3 jX) gF))))) (λ_ _ _ _ _=>dM) (λ_ _ _ _ _=>(pf (ci7 T:) r (aE Ae3 (aO Ae4)))))))))),by unfold uA;walk_at "r"⟩) rfl Ao8
def bf3(f y:Addr)(cdv:Value)(A:G0)(outer:bg)(s:B0)(H:Hp)(E:XK)(hr:Room 4 (A.deeper (PyProof.Rows.envOfC "Archive.__init__" (aL lW) s.heap.objs.size f cdv))):
 ∃t,PSs (kQ kS P w K mg base ["self","first","present","letters","inks","reigns","name","table","begin","length"] "Archive.__init__" (aL lW) f cdv A outer s H E).nox (cP lW) t/\RS [(0,.ref y)] K cn E t lY:=
 ⟨_,(aH (bT (dE (bU K (pf (cx2 T:) hr (aE Ae2 (aO Ae3))) Ao8)) (aK nO) bI)
 (aH (bT (dE (bU K (pf (ab0 T:) hr (aE Ae4 (aE aG (aO (fQ T.g_MOST_LETTERS_archives))))) Ao8)) (aK nO) bI)
 (aH (bT (dE (bU K (pf (ck6 T:) hr (aO Ae5)) Ao8)) (aK nO) bI)
 (aH (bT (dE (bU K (pf (bk9 T:) hr (aO Ae6)) Ao8)) (aK nO) bI)
 (aH (oV K Ae1 Ae2)
 (aH (oV K Ae1 Ae3)
 (aH (oV K Ae1 (jR (jL K) rfl T.kE iR (aO Ae4)))
 (aH (oV K Ae1 (pm [6,7] (gC K Ae5) (λ_ _ _ _ _=>(gE K 2 rfl (bM (pn 6 jT) (bM (pn 7 jT) gF)))) (λ_ _ _ _ _=>dM) (λ_ _ _ _ _=>(cD (aE Ae7 (aO (jR (jL K) rfl T.kE iR (aO Ae8))))))))
 (aK (oV K Ae1 (pm [6,8,9] (gC K Ae6) (λ_ _ _ _ _=>(gE K 3 rfl (bM (pn 6 jT) (bM (pn 8 jT) (bM (pn 9 jT) gF))))) (λ_ _ _ _ _=>dM) (λ_ _ _ _ _=>(cD (aE Ae7 (aE Ae9 (aO Af0)))))))))))))))),by unfold lY;walk_at "r"⟩
def di2:Mak P w K mg base 5 "Archive" Am6 (spI K cn "Archive" 5 sJ):=
 kW (d:=lY) T.ca8 jT Y3 (bf3 T) rfl Ao8
def bk6:dY P w K mg base 7 "_law_archive" ["_law_frame_here"] (bK K cn 1 qO):=by
 refine bJ (d:=qU) T.by6 pA Y3 (λf c A o s H E r=>⟨_,(aH (pk 1 pA [2,3] (gC K (px K Ae1 aG)) (λ_ _ _ _ _=>(gE K 2 rfl (bM (pn 2 pA) (bM (pn 3 pA) gF)))) (λ_ _ _ _ _=>dM) (λ_ _ _ _ _=>(cD (aE Ae3 (aO (jR (jL K) rfl T.kE iR (aO Ae4)))))))
 (aK (aQ (sP (di2 T:) (r.mono Y2) (aE (px K Ae1 aG) (aE (px K Ae1 aG) (aE (jR (jL K) rfl T.kE iR (aO (px K Ae1 aG))) (aE Ae2 (aO (jR (jL K) rfl T.kE iR (aO (px K Ae1 aG)))))))))))),by unfold qU;walk_at "r"⟩) rfl Ao8
def db8:dY P w K mg base 3 "is_due" ["archive","due","part"] (bK K cn 3 iA):=by
 refine bJ (d:=rE) T.dl8 aj3 Y3 (λf c A o s H E r=>⟨_,(aH (bT (pc (oe K r) Ae2 cC) (aK (aQ (jV (yL K (n:=dJ) r) Ae3 (eD K Ae1) Y4))) bI)
 (aH (bT (pc (oe K r) Ae2 cC) (aK (aQ (jV (yL K (n:=dJ) r) Ae3 (pm [3] (gC K (eD K Ae1)) (λ_ _ _ _ _=>(pn 3 aj3)) (λ_ _ _ _ _=>dM) (λ_ _ _ _ _=>(px K Ae4 aG))) Y4))) bI)
 (aH (bT (pc (oe K r) Ae2 cC) (aK (aQ (jV (yL K (n:=dJ) r) Ae3 (pm [4] (gC K (eD K Ae1)) (λ_ _ _ _ _=>(pn 4 aj3)) (λ_ _ _ _ _=>dM) (λ_ _ _ _ _=>(px K Ae5 aG))) Y4))) bI)
 (aK (aQ (pf (iN T:) r (aE Ae3 (aE (px K (xO T.d_NUMBERS Ae2) aG) (aO (px K (xO T.d_NUMBERS Ae2) aG)))))))))),by unfold rE;walk_at "r"⟩) rfl Ao8
def ds1:dY P w K mg base 4 "are_due" ["archive","word","parts"] (bK K cn 3 wB):=by
 refine bJ (d:=zM) T.dt2 az1 Y3 (λf c A o s H E r=>⟨_,(aH (bT (PW.pt (lF (ez8 (co9 T.d_PARTS Ae2) Y4) (mB (pc (sQ K (n:=dJ) r) (aR (bV K) rfl T.dW cW (aO Ae3)) (aR (bV K) rfl T.dW cW (aO (xO T.d_PARTS Ae2))))))) (aK (aQ fU)) bI)
 (aK (aQ (aR (kM K) rfl T.vU qH (aO (pm [3,4] (cm4 K T.ea0 (aE (xO T.d_PARTS Ae2) (aO Ae3))) (λ_ _ _ _ _=>(gE K 2 rfl (bM (pn 3 az1) (bM (pn 4 az1) gF)))) (λ_ _ _ _ _=>dM) (λ_ _ _ _ _=>(pf (db8 T:) r (aE Ae1 (aE Ae4 (aO Ae5))))))))))),by unfold zM;walk_at "r"⟩) rfl Ao8
def ae9(f:Addr)(cdv:Value)(A:G0)(outer:bg)(s:B0)(H:Hp)(E:XK)(hr:Room 0 (A.deeper (PyProof.Rows.envOfC "Archive.table" (aL lD) s.heap.objs.size f cdv))):
 ∃t,PSs (kQ kS P w K mg base ["self","name","other","table"] "Archive.table" (aL lD) f cdv A outer s H E).nox (cP lD) t/\RS [] K cn E t lC:=
 ⟨_,(aH (fJ D7 rfl (gC K (eD K Ae1)) (gE K 2 rfl (bM (pn 2 rF) (bM (pn 3 rF) gF))) (aK (bT (pc (oe K hr) Ae3 Ae2) (aK (aQ (jR (jL K) rfl T.kE iR (aO Ae4)))) bI)))
 (aK (aQ dZ))),by unfold lC;walk_at "r"⟩
def ah9:jF P w K mg base 1 Am6 "table" (bK K cn 2 gS):=
 cV (d:=lC) T.al8 T.pR rF Y3 (ae9 T) rfl Ao8 Y2
def ee0:∀q∈[(Am6,bK K cn 2 gS)],jF P w K mg base 1 q.1 "table" q.2:=cU (ah9 T) (aq1)
def dn1:dY P w K mg base 1 "ages_of" ["table","dark","error","greatest"] (bK K cn 4 wE):=by
 refine bJ (d:=yW) T.dx2 sS Y3 (λf c A o s H E r=>⟨_,(aH (pz 4 sS (aM cH (aR (bV K) rfl T.dW cW (aO Ae1)) aG))
 (aH (pk 5 sS [7] (fF rfl T.fZ (aO (aM (bA K) (aR (lJ K) rfl T.xL sI (aE Ae5 (aO Ae4))) aG))) (λ_ _ _ _ _=>(pn 7 sS)) (λ_ _ _ _ _=>(ce5 (pc mM (aR (ar4 K) rfl T.cx7 cl1 (aO (aM cH (px K Ae1 Ae8) Ae2))) Ae3))) (λ_ _ _ _ _=>Ae8))
 (aH (bT (pc (oe K r) (aR (bV K) rfl T.dW cW (aO Ae6)) aG) (aK (aQ dZ)) bI)
 (aH (pz 6 sS (px K Ae6 (aM cH (aR (bV K) rfl T.dW cW (aO Ae6)) aG)))
 (aK (aQ (cD (aE (px K Ae6 aG) (aO (an7 (pc (oe K r) Ae7 Ae5) Ae4 Ae7)))))))))),by unfold yW;walk_at "r"⟩) rfl Ao8
def df7:dY P w K mg base 1 "spaced" ["parts"] (bK K cn 1 ao1):=by refine bJ (d:=ax1) T.dg8 bk5 Y3 (λf c A o s H E r=>⟨_,(aK (aQ (xY K PySem.F.plainAttrs_str PySem.F.slot_str_join PySem.F.type_str_join (dn3 K) cC (aO (pm [1] (gC K Ae1) (λ_ _ _ _ _=>(pn 1 bk5)) (λ_ _ _ _ _=>dM) (λ_ _ _ _ _=>(jR dq1 rfl T.fr4 ew6 (aO Ae2)))))))),by unfold ax1;walk_at "r"⟩) rfl Ao8
def iS(f y:Addr)(cdv:Value)(A:G0)(outer:bg)(s:B0)(H:Hp)(E:XK)(hr:Room 1 (A.deeper (PyProof.Rows.envOfC "Saying.__init__" (aL fN) s.heap.objs.size f cdv))):
 ∃t,PSs (kQ kS P w K mg base ["self","archive","word","parts","low","high","names","part","due","name"] "Saying.__init__" (aL fN) f cdv A outer s H E).nox (cP fN) t/\RS [(0,.ref y)] K cn E t cF:=
 ⟨_,(aH (pk 6 eX [7,8] (cm4 K T.ea0 (aE Ae4 (aO (xO T.d_PARTS Ae3)))) (λ_ _ _ _ _=>(gE K 2 rfl (bM (pn 7 eX) (bM (pn 8 eX) gF)))) (λ_ _ _ _ _=>(ce5 (pc (oe K hr) Ae9 cC))) (λ_ _ _ _ _=>Ae8))
 (aH (oV K Ae1 (pm [9] (gC K Ae7) (λ_ _ _ _ _=>(pn 9 eX)) (λ_ _ _ _ _=>dM) (λ_ _ _ _ _=>(xY K L7 PySem.F.slot_list_index PySem.F.type_list_index (db2 K (n:=dJ) hr) (eD K Ae2) (aO Af0)))))
 (aH (oV K Ae1 Ae5)
 (aH (oV K Ae1 Ae6)
 (aK (oV K Ae1 (pf (df7 T:) hr (aO (aM (bA K) (cR (aO Ae3)) (jR (jL K) rfl T.kE iR (aO Ae4))))))))))),by unfold cF;walk_at "r"⟩
def fs2:Mak P w K mg base 2 "Ink" An2 (spI K cn "Ink" 5 ao7):=
 kW (d:=cF) T.fe0 eX Y3 (iS T) rfl Ao8
def af0:dY P w K mg base 1 "reign_called" ["archive","name"] (bK K cn 2 lX):=by
 refine bJ (d:=oY) T.bi4 zO Y3 (λf c A o s H E r=>⟨_,(aH (fJ D7 rfl (gC K (eD K Ae1)) (pn 2 zO) (aK (bT (pc (oe K r) (px K Ae3 aG) Ae2) (aK (aQ Ae3)) bI)))
 (aK (aQ dZ))),by unfold oY;walk_at "r"⟩) rfl Ao8
def av4:dY P w K mg base 3 "reign_year" ["begin","length","k"] (bK K cn 3 oI):=by
 refine bJ (d:=uB) T.ci2 be6 Y3 (λf c A o s H E r=>⟨_,(aH (bT (dE (bU K (pf (iN T:) r (aE Ae3 (aE aG (aO Ae2)))) Ao8)) (aK (aQ dZ)) bI)
 (aK (aQ (aM cH (aM (bA K) Ae1 Ae3) aG)))),by unfold uB;walk_at "r"⟩) rfl Ao8
def ec4:Mak P w K mg base 2 "Reign" Ao0 (spI K cn "Reign" 5 aa2):=
 kW (d:=cF) T.di8 eX Y3 (iS T) rfl Ao8
def ei0:Mak P w K mg base 2 "Under" Ao4 (spI K cn "Under" 5 ap1):=
 kW (d:=cF) T.de8 eX Y3 (iS T) rfl Ao8
def cv9:Mak P w K mg base 2 "Between" An1 (spI K cn "Between" 5 yI):=
 kW (d:=cF) T.ch8 eX Y3 (iS T) rfl Ao8
def eh0:Mak P w K mg base 2 "After" Am4 (spI K cn "After" 5 av1):=
 kW (d:=cF) T.dh8 eX Y3 (iS T) rfl Ao8
def ei9:Mak P w K mg base 2 "Same" Ao1 (spI K cn "Same" 5 ap3):=
 kW (d:=cF) T.el4 eX Y3 (iS T) rfl Ao8
def dy3:Mak P w K mg base 2 "Within" Ao5 (spI K cn "Within" 5 aa0):=
 kW (d:=cF) T.du2 eX Y3 (iS T) rfl Ao8
def el2:Mak P w K mg base 2 "Apart" Am5 (spI K cn "Apart" 5 ah2):=
 kW (d:=cF) T.df8 eX Y3 (iS T) rfl Ao8
def ch1:dY P w K mg base 4 "ink_saying" ["archive","parts"] (bK K cn 2 uD):=by
 refine bJ (d:=tP) T.co1 ax2 Y3 (λf c A o s H E r=>⟨_,(aH (pz 2 ax2 (pf (dn1 T:) r (aE (df5 Ae1 (ee0 T:) (r.mono Y2) (aO (px K Ae2 aG))) (aE (px K Ae2 aG) (aE (px K Ae2 aG) (aO (aM cH (eD K Ae1) (eD K Ae1))))))))
 (aH (bT (pc au3 Ae3 dZ) (aK nO) bI)
 (aK (aQ (sP (fs2 T:) (r.mono Y2) (aE Ae1 (aE cC (aE Ae2 (aE (aM cH (eD K Ae1) (px K Ae3 aG)) (aO (aM cH (eD K Ae1) (px K Ae3 aG)))))))))))),by unfold tP;walk_at "r"⟩) rfl Ao8
def ba3:dY P w K mg base 4 "reign_saying" ["archive","parts"] (bK K cn 2 pP):=by
 refine bJ (d:=oW) T.ba4 sY Y3 (λf c A o s H E r=>⟨_,(aH (pz 2 sY (pf (af0 T:) r (aE Ae1 (aO (px K Ae2 aG)))))
 (aH (pz 3 sY (pf (av4 T:) r (aE (px K Ae3 aG) (aE (px K Ae3 aG) (aO (px K Ae2 aG))))))
 (aH (bT (pc au3 Ae4 dZ) (aK nO) bI)
 (aK (aQ (sP (ec4 T:) (r.mono Y2) (aE Ae1 (aE cC (aE Ae2 (aE Ae4 (aO Ae4))))))))))),by unfold oW;walk_at "r"⟩) rfl Ao8
def bi3:dY P w K mg base 4 "under_saying" ["archive","parts"] (bK K cn 2 oS):=by
 refine bJ (d:=pO) T.bo3 zH Y3 (λf c A o s H E r=>⟨_,(aH (pz 2 zH (pf (af0 T:) r (aE Ae1 (aO (px K Ae2 aG)))))
 (aK (aQ (sP (ei0 T:) (r.mono Y2) (aE Ae1 (aE cC (aE Ae2 (aE (px K Ae3 aG) (aO (pf (av4 T:) r (aE (px K Ae3 aG) (aE (px K Ae3 aG) (aO (px K Ae3 aG)))))))))))))),by unfold pO;walk_at "r"⟩) rfl Ao8
def ag8:dY P w K mg base 4 "between_saying" ["archive","parts"] (bK K cn 2 mX):=by
 refine bJ (d:=mR) T.am8 ah6 Y3 (λf c A o s H E r=>⟨_,(aH (bT (pc av5 (px K Ae2 aG) (px K Ae2 aG)) (aK nO) bI)
 (aK (aQ (sP (cv9 T:) (r.mono Y2) (aE Ae1 (aE cC (aE Ae2 (aE (px K Ae2 aG) (aO (px K Ae2 aG)))))))))),by unfold mR;walk_at "r"⟩) rfl Ao8
def be3:dY P w K mg base 4 "after_saying" ["archive","parts"] (bK K cn 2 pE):=by refine bJ (d:=pI) T.by3 au9 Y3 (λf c A o s H E r=>⟨_,(aK (aQ (sP (eh0 T:) (r.mono Y2) (aE Ae1 (aE cC (aE Ae2 (aE aG (aO dZ)))))))),by unfold pI;walk_at "r"⟩) rfl Ao8
def bm6:dY P w K mg base 4 "same_saying" ["archive","parts"] (bK K cn 2 qM):=by refine bJ (d:=qV) T.bb7 bh3 Y3 (λf c A o s H E r=>⟨_,(aK (aQ (sP (ei9 T:) (r.mono Y2) (aE Ae1 (aE cC (aE Ae2 (aE aG (aO aG)))))))),by unfold qV;walk_at "r"⟩) rfl Ao8
def az8:dY P w K mg base 4 "within_saying" ["archive","parts"] (bK K cn 2 nQ):=by refine bJ (d:=nX) T.bk1 ac8 Y3 (λf c A o s H E r=>⟨_,(aK (aQ (sP (dy3 T:) (r.mono Y2) (aE Ae1 (aE cC (aE Ae2 (aE aG (aO (px K Ae2 aG))))))))),by unfold nX;walk_at "r"⟩) rfl Ao8
def bi2:dY P w K mg base 4 "apart_saying" ["archive","parts"] (bK K cn 2 oR):=by
 refine bJ (d:=pH) T.bs3 bi0 Y3 (λf c A o s H E r=>⟨_,(aH (bT (pc av5 (px K Ae2 aG) (px K Ae2 aG)) (aK nO) bI)
 (aK (aQ (sP (el2 T:) (r.mono Y2) (aE Ae1 (aE cC (aE Ae2 (aE (px K Ae2 aG) (aO (px K Ae2 aG)))))))))),by unfold pH;walk_at "r"⟩) rfl Ao8
def da5:dg5 P w K mg base 4 "MAKERS" (du8 K cn 2 tb_MAKERS):=ei1 T.dz2 (mK T.bd7 (ch1 T) Y2 (mK T.bw0 (ba3 T) Y2 (mK T.bm1 (bi3 T) Y2 (mK T.aj6 (ag8 T) Y2 (mK T.ba1 (be3 T) Y2 (mK T.bn3 (bm6 T) Y2 (mK T.ao8 (az8 T) Y2 (mK T.bx0 (bi2 T) Y2 (dx6)))))))))
def cy2:dY P w K mg base 5 "saying_of" ["archive","word","parts"] (bK K cn 3 dX):=by
 refine bJ (d:=vR) T.ci3 by8 Y3 (λf c A o s H E r=>⟨_,(aH (bT (dE (bU K (pf (ds1 T:) r (aE Ae1 (aE Ae2 (aO Ae3)))) Ao8)) (aK nO) bI)
 (aH (bT (PW.pt (qB (pc (oe K r) (px K (xO T.d_PARTS Ae2) aG) cC) (pF (pc (oe K r) (px K Ae3 aG) (px K Ae3 aG))))) (aK nO) bI)
 (aK (aQ (dh3 (da5 T:) (r.mono Y2) Ae2 (aE Ae1 (aO Ae3))))))),by unfold vR;walk_at "r"⟩) rfl Ao8
def ch6:dY P w K mg base 6 "_law_heap" ["_law_archive_here","_law_told"] (bK K cn 2 xC):=by refine bJ (d:=xA) T.cc8 qE Y3 (λf c A o s H E r=>⟨_,(aK (aQ (pm [2,3,4,5] (gC K Ae2) (λ_ _ _ _ _=>(gE K 4 rfl (bM (pn 2 qE) (bM (pn 3 qE) (bM (pn 4 qE) (bM (pn 5 qE) gF)))))) (λ_ _ _ _ _=>dM) (λ_ _ _ _ _=>(pf (cy2 T:) r (aE Ae1 (aE Ae3 (aO (jR (jL K) rfl T.kE iR (aO Ae4)))))))))),by unfold xA;walk_at "r"⟩) rfl Ao8
def uY:dY P w K mg base 1 "_law_steps" ["_law_frame_here","_law_told"] (bK K cn 2 jK):=by
 refine bJ (d:=vB) T.ck3 jN Y3 (λf c A o s H E r=>⟨_,(aH (pz 2 jN (cR oG))
 (aH (fJ D7 rfl (fF rfl T.fZ (aO (aR (bV K) rfl T.dW cW (aO Ae2)))) (pn 3 jN) (aH (pz 4 jN (px K (px K Ae2 Ae4) aG))
 (aH (tE (px K (px K Ae2 Ae4) aG) (gE K 2 rfl (bM (pn 5 jN) (bM (pn 6 jN) gF))))
 (aH (pz 7 jN (px K (aM (bA K) Ae5 (cD (aO dZ))) aG))
 (aH (bT (pc uP Ae7 dZ) (aK (fH (uK K Ae3 (aO (cD (aE Ae8 (aE (px K Ae5 aG) (aE Ae7 (aO Ae4))))))))) bI)
 (aK (bT (pc uP Ae6 dZ) (aK (fH (uK K Ae3 (aO (cD (aE (px K Ae5 aG) (aE Ae8 (aE (aM cH aG Ae6) (aO Ae4))))))))) bI)))))))
 (aH (fJ D7 rfl (fF rfl T.fZ (aO (aR (bV K) rfl T.dW cW (aO (px K Ae1 aG))))) (pn 8 jN) (aH (fH (uK K Ae3 (aO (cD (aE dZ (aE Ae9 (aE (px K Ae1 aG) (aO dZ))))))))
 (aK (fH (uK K Ae3 (aO (cD (aE Ae9 (aE dZ (aE (aM cH aG (px K Ae1 aG)) (aO dZ)))))))))))
 (aK (aQ Ae3))))),by unfold vB;walk_at "r"⟩) rfl Ao8
def iE(f:Addr)(cdv:Value)(A:G0)(outer:bg)(s:B0)(H:Hp)(E:XK)(hr:Room 0 (A.deeper (PyProof.Rows.envOfC "Saying.shown" (aL eV) s.heap.objs.size f cdv))):
 ∃t,PSs (kQ kS P w K mg base ["self"] "Saying.shown" (aL eV) f cdv A outer s H E).nox (cP eV) t/\RS [] K cn E t eW:=
 ⟨_,(aK (aQ (eD K Ae1))),by unfold eW;walk_at "r"⟩
def ap8:jF P w K mg base 1 An1 "shown" (bK K cn 1 bC):=
 cV (d:=eW) T.ai8 T.nC gQ Y3 (iE T) rfl Ao8 Y2
def bv5:jF P w K mg base 1 Ao4 "shown" (bK K cn 1 bC):=
 cV (d:=eW) T.bb4 T.rH gQ Y3 (iE T) rfl Ao8 Y2
def bw5:jF P w K mg base 1 Ao0 "shown" (bK K cn 1 bC):=
 cV (d:=eW) T.bw3 T.rJ gQ Y3 (iE T) rfl Ao8 Y2
def cr2:jF P w K mg base 1 An2 "shown" (bK K cn 1 bC):=
 cV (d:=eW) T.cq1 T.yP gQ Y3 (iE T) rfl Ao8 Y2
def bp2:jF P w K mg base 1 Ao5 "shown" (bK K cn 1 bC):=
 cV (d:=eW) T.bq1 T.oP gQ Y3 (iE T) rfl Ao8 Y2
def bz9:jF P w K mg base 1 Ao1 "shown" (bK K cn 1 bC):=
 cV (d:=eW) T.bs6 T.uX gQ Y3 (iE T) rfl Ao8 Y2
def bi6:jF P w K mg base 1 Am5 "shown" (bK K cn 1 bC):=
 cV (d:=eW) T.bg4 T.rL gQ Y3 (iE T) rfl Ao8 Y2
def bf6:jF P w K mg base 1 Am4 "shown" (bK K cn 1 bC):=
 cV (d:=eW) T.bu3 T.rK gQ Y3 (iE T) rfl Ao8 Y2
def cf4:∀q∈[(An2,bK K cn 1 bC),(Ao0,bK K cn 1 bC),(Ao4,bK K cn 1 bC),(An1,bK K cn 1 bC),(Am4,bK K cn 1 bC),(Ao1,bK K cn 1 bC),(Ao5,bK K cn 1 bC),(Am5,bK K cn 1 bC)],jF P w K mg base 1 q.1 "shown" q.2:=cU (cr2 T) (cU (bw5 T) (cU (bv5 T) (cU (ap8 T) (cU (bf6 T) (cU (bz9 T) (cU (bp2 T) (cU (bi6 T) (aq1))))))))
def iH(f:Addr)(cdv:Value)(A:G0)(outer:bg)(s:B0)(H:Hp)(E:XK)(hr:Room 0 (A.deeper (PyProof.Rows.envOfC "Saying.about" (aL eU) s.heap.objs.size f cdv))):
 ∃t,PSs (kQ kS P w K mg base ["self"] "Saying.about" (aL eU) f cdv A outer s H E).nox (cP eU) t/\RS [] K cn E t eT:=
 ⟨_,(aK (aQ (jR (jL K) rfl T.kE iR (aO (eD K Ae1))))),by unfold eT;walk_at "r"⟩
def bh6:jF P w K mg base 1 Ao0 "about" (bK K cn 1 bD):=
 cV (d:=eT) T.bq3 T.rJ gN Y3 (iH T) rfl Ao8 Y2
def aw9:jF P w K mg base 1 An1 "about" (bK K cn 1 bD):=
 cV (d:=eT) T.an8 T.nC gN Y3 (iH T) rfl Ao8 Y2
def bc3:jF P w K mg base 1 Ao5 "about" (bK K cn 1 bD):=
 cV (d:=eT) T.bc1 T.oP gN Y3 (iH T) rfl Ao8 Y2
def bs8:jF P w K mg base 1 Ao1 "about" (bK K cn 1 bD):=
 cV (d:=eT) T.bx6 T.uX gN Y3 (iH T) rfl Ao8 Y2
def bq6:jF P w K mg base 1 Am5 "about" (bK K cn 1 bD):=
 cV (d:=eT) T.be4 T.rL gN Y3 (iH T) rfl Ao8 Y2
def cz2:jF P w K mg base 1 An2 "about" (bK K cn 1 bD):=
 cV (d:=eT) T.cc2 T.yP gN Y3 (iH T) rfl Ao8 Y2
def bl6:jF P w K mg base 1 Ao4 "about" (bK K cn 1 bD):=
 cV (d:=eT) T.bv3 T.rH gN Y3 (iH T) rfl Ao8 Y2
def ba6:jF P w K mg base 1 Am4 "about" (bK K cn 1 bD):=
 cV (d:=eT) T.bc4 T.rK gN Y3 (iH T) rfl Ao8 Y2
def en3:∀q∈[(An2,bK K cn 1 bD),(Ao0,bK K cn 1 bD),(Ao4,bK K cn 1 bD),(An1,bK K cn 1 bD),(Am4,bK K cn 1 bD),(Ao1,bK K cn 1 bD),(Ao5,bK K cn 1 bD),(Am5,bK K cn 1 bD)],jF P w K mg base 1 q.1 "about" q.2:=cU (cz2 T) (cU (bh6 T) (cU (bl6 T) (cU (aw9 T) (cU (ba6 T) (cU (bs8 T) (cU (bc3 T) (cU (bq6 T) (aq1))))))))
def gO(f:Addr)(cdv:Value)(A:G0)(outer:bg)(s:B0)(H:Hp)(E:XK)(hr:Room 0 (A.deeper (PyProof.Rows.envOfC "Saying.bounds" (aL eH) s.heap.objs.size f cdv))):
 ∃t,PSs (kQ kS P w K mg base ["self"] "Saying.bounds" (aL eH) f cdv A outer s H E).nox (cP eH) t/\RS [] K cn E t eF:=
 ⟨_,(aK (aQ (cD (aE (eD K Ae1) (aO (eD K Ae1)))))),by unfold eF;walk_at "r"⟩
def bb2:jF P w K mg base 1 Ao4 "bounds" (bK K cn 1 aX):=
 cV (d:=eF) T.bo1 T.rH gH Y3 (gO T) rfl Ao8 Y2
def bf2:jF P w K mg base 1 Am5 "bounds" (bK K cn 1 aX):=
 cV (d:=eF) T.bg1 T.rL gH Y3 (gO T) rfl Ao8 Y2
def by2:jF P w K mg base 1 Am4 "bounds" (bK K cn 1 aX):=
 cV (d:=eF) T.bl1 T.rK gH Y3 (gO T) rfl Ao8 Y2
def br1:jF P w K mg base 1 Ao0 "bounds" (bK K cn 1 aX):=
 cV (d:=eF) T.bz0 T.rJ gH Y3 (gO T) rfl Ao8 Y2
def br6:jF P w K mg base 1 Ao1 "bounds" (bK K cn 1 aX):=
 cV (d:=eF) T.bd4 T.uX gH Y3 (gO T) rfl Ao8 Y2
def bd0:jF P w K mg base 1 Ao5 "bounds" (bK K cn 1 aX):=
 cV (d:=eF) T.aj8 T.oP gH Y3 (gO T) rfl Ao8 Y2
def al7:jF P w K mg base 1 An1 "bounds" (bK K cn 1 aX):=
 cV (d:=eF) T.al6 T.nC gH Y3 (gO T) rfl Ao8 Y2
def ba8:jF P w K mg base 1 An2 "bounds" (bK K cn 1 aX):=
 cV (d:=eF) T.bv6 T.yP gH Y3 (gO T) rfl Ao8 Y2
def dd8:∀q∈[(An2,bK K cn 1 aX),(Ao0,bK K cn 1 aX),(Ao4,bK K cn 1 aX),(An1,bK K cn 1 aX),(Am4,bK K cn 1 aX),(Ao1,bK K cn 1 aX),(Ao5,bK K cn 1 aX),(Am5,bK K cn 1 aX)],jF P w K mg base 1 q.1 "bounds" q.2:=cU (ba8 T) (cU (br1 T) (cU (bb2 T) (cU (al7 T) (cU (by2 T) (cU (br6 T) (cU (bd0 T) (cU (bf2 T) (aq1))))))))
def bc2:dY P w K mg base 2 "saying_steps" ["saying","number"] (bK K cn 2 pL):=by
 refine bJ (d:=oU) T.bj4 lN Y3 (λf c A o s H E r=>⟨_,(aH (pz 2 lN (zJ Ae1 (en3 T:) (r.mono Y2)))
 (aH (pz 3 lN (zJ Ae1 (dd8 T:) (r.mono Y2)))
 (aH (pz 4 lN (an7 (pc (oe K r) (aR (bV K) rfl T.dW cW (aO Ae3)) aG) (px K Ae3 aG) dZ))
 (aH (pz 5 lN (cR oG))
 (aH (bT (pc uP (px K Ae4 aG) dZ) (aK (fH (uK K Ae6 (aO (cD (aE Ae5 (aE (px K Ae3 aG) (aE (px K Ae4 aG) (aO Ae2))))))))) bI)
 (aH (bT (pc uP (px K Ae4 aG) dZ) (aK (fH (uK K Ae6 (aO (cD (aE (px K Ae3 aG) (aE Ae5 (aE (aM cH aG (px K Ae4 aG)) (aO Ae2))))))))) bI)
 (aK (aQ Ae6)))))))),by unfold oU;walk_at "r"⟩) rfl Ao8
def bo9:dY P w K mg base 1 "span_steps" ["archive","letter"] (bK K cn 2 tY):=by refine bJ (d:=tK) T.cx1 bb6 Y3 (λf c A o s H E r=>⟨_,(aK (aQ (cR (aE (cD (aE dZ (aE Ae2 (aE (eD K Ae1) (aO dZ))))) (aO (cD (aE Ae2 (aE dZ (aE (aM cH aG (eD K Ae1)) (aO dZ)))))))))),by unfold tK;walk_at "r"⟩) rfl Ao8
def ao9:dY P w K mg base 3 "steps_of" ["archive","sayings"] (bK K cn 2 uI):=by
 refine bJ (d:=xG) T.cd8 qA Y3 (λf c A o s H E r=>⟨_,(aH (pz 2 qA (cR oG))
 (aH (fJ D7 rfl (dx5 K T.cd3 (aO Ae2)) (gE K 2 rfl (bM (pn 3 qA) (bM (pn 4 qA) gF))) (aK (fH (xY K L7 V5 V4 aj4 Ae3 (aO (pf (bc2 T:) r (aE Ae5 (aO Ae4))))))))
 (aH (fJ D7 rfl (fF rfl T.fZ (aO (aR (bV K) rfl T.dW cW (aO (eD K Ae1))))) (pn 5 qA) (aK (fH (xY K L7 V5 V4 aj4 Ae3 (aO (pf (bo9 T:) r (aE Ae1 (aO Ae6))))))))
 (aK (aQ Ae3))))),by unfold xG;walk_at "r"⟩) rfl Ao8
def kH:dY P w K mg base 1 "place_of" ["end","ground"] (bK K cn 2 cZ):=by refine bJ (d:=tI) T.cz7 cs2 Y3 (λf c A o s H E r=>⟨_,(aK (aQ (an7 (pc au3 Ae1 dZ) Ae2 Ae1))),by unfold tI;walk_at "r"⟩) rfl Ao8
def dp0:dY P w K mg base 2 "is_kept" ["step","years"] (bK K cn 2 zG):=by
 refine bJ (d:=yU) T.dw2 br0 Y3 (λf c A o s H E r=>⟨_,(aH (pz 2 br0 (aM cH (aR (bV K) rfl T.dW cW (aO Ae2)) aG))
 (aK (aQ (jV mM (px K Ae2 (pf (kH T:) r (aE (px K Ae1 aG) (aO Ae3)))) (aM (bA K) (px K Ae2 (pf (kH T:) r (aE (px K Ae1 aG) (aO Ae3)))) (px K Ae1 aG)) (uC _))))),by unfold yU;walk_at "r"⟩) rfl Ao8
def bd6:dY P w K mg base 3 "raise_years" ["steps","years","raisers"] (spM K cn kC):=by
 refine dg2 (d:=qW) T.bn7 mH Y3 (λv1 v2 f cdv A outer s H E hr=>⟨_,(aH (pz 3 mH (aM cH (aR (bV K) rfl T.dW cW (aO Ae2)) aG))
 (aH (pz 4 mH dZ)
 (aH (fJ D7 rfl (gC K Ae1) (pn 5 mH) (aK (bT (dE (bU K (pf (dp0 T:) hr (aE Ae6 (aO Ae2))) Ao8)) (aH (pz 4 mH (pf (kH T:) hr (aE (px K Ae6 aG) (aO Ae4))))
 (aH (tE (aM cH (px K Ae2 (pf (kH T:) hr (aE (px K Ae6 aG) (aO Ae4)))) (px K Ae6 aG)) (ai3 Ae2 Ae5 yM))
 (aK (tE Ae6 (ai3 Ae3 Ae5 yM))))) bI)))
 (aK (aQ Ae5))))),by unfold qW;walk_at "r"⟩) rfl (λ_ _ _=>rfl)
def bc6:dY P w K mg base 2 "ring_behind" ["raisers","place"] (bK K cn 2 qP):=by
 refine bJ (d:=qX) T.bu6 jA Y3 (λf c A o s H E r=>⟨_,(aH (pz 2 jA (aM cH (aR (bV K) rfl T.dW cW (aO Ae1)) aG))
 (aH (fJ D7 rfl (fF rfl T.fZ (aO (aR (bV K) rfl T.dW cW (aO Ae1)))) (pn 3 jA) (aK (pz 1 jA (pf (kH T:) r (aE (px K (px K Ae1 Ae2) aG) (aO Ae3))))))
 (aH (pz 4 jA (cR (aO (px K Ae1 Ae2))))
 (aH (pz 5 jA (pf (kH T:) r (aE (px K (px K Ae1 Ae2) aG) (aO Ae3))))
 (aH (dj7 D7 (pc (sQ K (n:=dJ) r) Ae6 Ae2) (aH (fH (uK K Ae5 (aO (px K Ae1 Ae6))))
 (aK (pz 5 jA (pf (kH T:) r (aE (px K (px K Ae1 Ae6) aG) (aO Ae3)))))))
 (aK (aQ Ae5))))))),by unfold qX;walk_at "r"⟩) rfl Ao8
def aj5:dY P w K mg base 4 "settled_by" ["archive","steps"] (bK K cn 2 jQ):=by
 refine bJ (d:=tL) T.cv1 jZ Y3 (λf c A o s H E r=>⟨_,(aH (pz 2 jZ (aR (bV K) rfl T.dW cW (aO (eD K Ae1))))
 (aH (pz 3 jZ (aM (bA K) (aM (ad6 K) (cR (aO (aM cH (eD K Ae1) aG))) Ae3) (cR (aO aG))))
 (aH (pz 4 jZ (aM (ad6 K) (cR (aO dZ)) (aM (bA K) Ae3 aG)))
 (aH (pz 5 jZ dZ)
 (aH (fJ D7 rfl (fF rfl T.fZ (aO (aM (bA K) Ae3 aG))) (pn 6 jZ) (aK (pz 5 jZ (pf (bd6 T:) r (aE Ae2 (aE Ae4 (aO Ae5)))))))
 (aH (bT (pc au3 Ae6 dZ) (aK (aQ (cD (aE cC (aO (gL (pX K) Ae4 (gT aG) (gT Ae3))))))) bI)
 (aK (aQ (cD (aE cC (aO (pf (bc6 T:) r (aE Ae5 (aO Ae6)))))))))))))),by unfold tL;walk_at "r"⟩) rfl Ao8
def dq2:dY P w K mg base 5 "settled" ["archive","sayings"] (bK K cn 2 rZ):=by refine bJ (d:=wH) T.dr2 cx5 Y3 (λf c A o s H E r=>⟨_,(aK (aQ (pf (aj5 T:) r (aE Ae1 (aO (pf (ao9 T:) r (aE Ae1 (aO Ae2)))))))),by unfold wH;walk_at "r"⟩) rfl Ao8
def bu1:ad8 P w K mg base 5 "refuse_rings" ["archive","steps"] (bK K cn 2 pJ):=by refine aw4 (d:=pM) T.bf4 au8 Y3 (λf c A o s H E r=>⟨_,(aK (bT (pc (oe K r) (px K (pf (aj5 T:) r (aE Ae1 (aO Ae2))) aG) cC) (aK (cp9 T.e0_Stuck xe_of)) bI)),by unfold pM;walk_at "r"⟩) rfl Ao8
def ce1:dY P w K mg base 1 "span_costs" ["archive"] (bK K cn 1 tZ):=by
 refine bJ (d:=tN) T.cr1 nH Y3 (λf c A o s H E r=>⟨_,(aH (pz 1 nH (aR (bV K) rfl T.dW cW (aO (eD K Ae1))))
 (aH (pk 2 nH [3] (gC K (eD K Ae1)) (λ_ _ _ _ _=>(pn 3 nH)) (λ_ _ _ _ _=>dM) (λ_ _ _ _ _=>(aM (bA K) (aM (ad6 K) (cR (aO (aM cH (eD K Ae1) (eD K Ae1)))) Ae2) (cR (aO (aM cH aG (eD K Ae1)))))))
 (aH (fH (uK K Ae3 (aO (aM (bA K) (aM (ad6 K) (cR (aO (eD K Ae1))) Ae2) (cR (aO aG))))))
 (aH (fJ D7 rfl (fF rfl T.fZ (aO Ae2)) (pn 3 nH) (aK (tE aG (ai3 (px K Ae3 Ae4) Ae4 yM))))
 (aK (aQ Ae3)))))),by unfold tN;walk_at "r"⟩) rfl Ao8
def cr5:ad8 P w K mg base 6 "costs_by" ["archive","steps"] (bK K cn 2 pG):=by
 refine aw4 (d:=sK) T.ce8 jH Y3 (λf c A o s H E r=>⟨_,(aH (fH (bj2 (bu1 T:) xe_of.passes (r.mono Y2) (aE Ae1 (aO Ae2))))
 (aH (pz 2 jH (aR (bV K) rfl T.dW cW (aO (eD K Ae1))))
 (aH (pz 3 jH (pf (ce1 T:) r (aO Ae1)))
 (aH (PS.nox (fJ D7 rfl (gC K Ae2) (pn 4 jH) (aH (pz 5 jH (pf (kH T:) r (aE (px K Ae5 aG) (aO Ae3))))
 (aH (pz 6 jH (pf (kH T:) r (aE (px K Ae5 aG) (aO Ae3))))
 (aK (tE (aR (lJ K) rfl T.xL sI (aE (px K (px K Ae4 Ae6) Ae7) (aO (px K Ae5 aG)))) (ai3 (px K Ae4 Ae6) Ae7 yM)))))))
 (aH (PS.nox (fJ D7 rfl (fF rfl T.fZ (aO (aM (bA K) Ae3 aG))) (pn 7 jH) (aK (PS.nox (fJ D7 rfl (fF rfl T.fZ (aO (aM (bA K) Ae3 aG))) (pn 5 jH) (aK (PS.nox (fJ D7 rfl (fF rfl T.fZ (aO (aM (bA K) Ae3 aG))) (pn 6 jH) (aK (tE (aR (lJ K) rfl T.xL sI (aE (px K (px K Ae4 Ae6) Ae7) (aO (aM (bA K) (px K (px K Ae4 Ae6) Ae8) (px K (px K Ae4 Ae8) Ae7))))) (ai3 (px K Ae4 Ae6) Ae7 yM)))))))))))
 (aK (aQ Ae4))))))),by unfold sK;walk_at "r"⟩) rfl Ao8
def ab3:ad8 P w K mg base 7 "least_costs" ["archive","sayings"] (bK K cn 2 iT):=by refine aw4 (d:=nI) T.bk7 bl2 Y3 (λf c A o s H E r=>⟨_,(aK (aQ (bj2 (cr5 T:) xe_of.passes (r.mono Y2) (aE Ae1 (aO (pf (ao9 T:) r (aE Ae1 (aO Ae2)))))))),by unfold nI;walk_at "r"⟩) rfl Ao8
def cq2:dY P w K mg base 8 "_law_stuck" ["_law_archive_here","_law_sayings_here"] (bK K cn 2 vH):=by
 refine bJ (d:=vS) T.cl3 sW Y3 (λf c A o s H E r=>⟨_,(aH (pz 2 sW dZ)
 (aH (ep0 (j:=3) sW (ab3 T:) T.ct_ArchiveError r (aE Ae1 (aO Ae2)) (λ_=>(aK (pz 2 sW Ae4))))
 (aH (bT (PW.pt (lF (dE (bU K (aR (bk4 (do3 T) (dx3 T)) rfl T.fG eI (aE Ae3 (aO (fQ T.gc_Stuck)))) Ao8)) (mB (dE (bU K (aR (bk4 (bu5 T) (bz5 T)) rfl T.fG eI (aE Ae3 (aO (sX T.cf2 bo6)))) Ao8))))) (aK (aQ fU)) bI)
 (aH (bT (bU K (aR (bj5 T.mn_0 (fl5 T)) rfl T.fG eI (aE Ae3 (aO (cD (aE (fQ T.gc_BadArchive) (aE (fQ T.gc_BadRow) (aE (fQ T.gc_BadSaying) (aE (fQ T.gc_NoAge) (aE (fQ T.gc_NoDating) (aO (fQ T.gc_NoGap))))))))))) Ao8) (aK (aQ fU)) bI)
 (aK (aQ (cw0 (aR (bj5 T.mn_1 (fz5 T)) rfl T.fG eI (aE Ae3 (aO (cD (aE (fQ T.gc_NoName) (aE (fQ T.gc_NoNumber) (aE (fQ T.gc_NoRow) (aE (fQ T.gc_NoYear) (aO (fQ T.gc_TooMany))))))))))))))))),by unfold vS;refine cc1 ?_ (cc1 (ez9 ee2 (bn0 T) rfl ?_ ?_) ?_)<;>walk_at "r"⟩) rfl Ao8
def vC:dY P w K mg base 1 "_law_whole" ["_law_found"] (bK K cn 1 gY):=by refine bJ (d:=vO) T.cm3 bi8 Y3 (λf c A o s H E r=>⟨_,(aK (aQ (vV (aR (kN K) rfl T.fG eI (aE Ae1 (aO (sX T.dz9 dc1)))) (wA (cw0 (aR (kN K) rfl T.fG eI (aE Ae1 (aO (sX T.dv2 cq4))))))))),by unfold vO;walk_at "r"⟩) rfl Ao8
def au2:dY P w K mg base 2 "_law_is_step" ["_law_step","_law_steps_here"] (bK K cn 2 jY):=by
 refine bJ (d:=qN) T.bo7 ag0 Y3 (λf c A o s H E r=>⟨_,(aH (bT (PW.pt (lF (dE (bU K (aR (kN K) rfl T.fG eI (aE Ae1 (aO (sX T.em4 dr4)))) Ao8)) (lF (pc (sQ K (n:=dJ) r) (aR (bV K) rfl T.dW cW (aO Ae1)) aG) (mB (dE (bU K (pf (vC T:) r (aO (px K Ae1 aG))) Ao8)))))) (aK (aQ fU)) bI)
 (aH (fJ D7 rfl (gC K (cR (aE (px K Ae1 aG) (aE (px K Ae1 aG) (aO (px K Ae1 aG)))))) (pn 2 ag0) (aK (bT (PW.pt (qB (pc uP Ae3 dZ) (pF (dE (bU K (pf (vC T:) r (aO Ae3)) Ao8))))) (aK (aQ fU)) bI)))
 (aK (aQ (jV (yL K (n:=dJ) r) Ae1 Ae2 Y4))))),by unfold qN;walk_at "r"⟩) rfl Ao8
def bs1:dY P w K mg base 3 "_law_is_chain" ["_law_chain","_law_steps_here","_law_start","_law_end"] (bK K cn 4 pC):=by
 refine bJ (d:=pK) T.bp3 lH Y3 (λf c A o s H E r=>⟨_,(aH (bT (PW.pt (lF (dE (bU K (aR (kN K) rfl T.fG eI (aE Ae1 (aO (sX T.kE iR)))) Ao8)) (mB (dE (bU K (aR (kM K) rfl T.vU qH (aO (pm [5] (gC K Ae1) (λ_ _ _ _ _=>(pn 5 lH)) (λ_ _ _ _ _=>dM) (λ_ _ _ _ _=>(pf (au2 T:) r (aE Ae6 (aO Ae2))))))) Ao8))))) (aK (aQ fU)) bI)
 (aH (pz 4 lH Ae3)
 (aH (fJ D7 rfl (gC K Ae1) (pn 5 lH) (aH (bT (pc (sQ K (n:=dJ) r) (px K Ae6 aG) Ae5) (aK (aQ fU)) bI)
 (aK (pz 4 lH (px K Ae6 aG)))))
 (aK (aQ (jV (oe K r) Ae5 Ae4 (uC _))))))),by unfold pK;walk_at "r"⟩) rfl Ao8
def bp6:dY P w K mg base 4 "_law_is_ring" ["_law_ring","_law_steps_here"] (bK K cn 2 rA):=by
 refine bJ (d:=qT) T.bh7 mF Y3 (λf c A o s H E r=>⟨_,(aH (bT (PW.pt (lF (dE (bU K (aR (kN K) rfl T.fG eI (aE Ae1 (aO (sX T.kE iR)))) Ao8)) (lF (pc (oe K r) Ae1 (cR oG)) (mB (dE (bU K (pf (au2 T:) r (aE (px K Ae1 aG) (aO Ae2))) Ao8)))))) (aK (aQ fU)) bI)
 (aH (bT (dE (bU K (pf (bs1 T:) r (aE Ae1 (aE Ae2 (aE (px K (px K Ae1 aG) aG) (aO (px K (px K Ae1 aG) aG)))))) Ao8)) (aK (aQ fU)) bI)
 (aH (pz 2 mF (pm [3] (gC K Ae1) (λ_ _ _ _ _=>(pn 3 mF)) (λ_ _ _ _ _=>dM) (λ_ _ _ _ _=>(px K Ae4 aG))))
 (aH (bT (bU K (aR (dz1 K) rfl T.fp4 ew7 (aO (pm [4] (fF rfl T.fZ (aO (aR (bV K) rfl T.dW cW (aO Ae3)))) (λ_ _ _ _ _=>(pn 4 mF)) (λ_ _ _ _ _=>dM) (λ_ _ _ _ _=>(jV (yL K (n:=dJ) r) (px K Ae3 Ae5) (gL (pX K) Ae3 jU (gT Ae5)) Y4))))) Ao8) (aK (aQ fU)) bI)
 (aK (aQ (jV az5 (aR (da0 K) rfl T.fq4 ed7 (aO (pm [3] (gC K Ae1) (λ_ _ _ _ _=>(pn 3 mF)) (λ_ _ _ _ _=>dM) (λ_ _ _ _ _=>(px K Ae4 aG))))) aG (uC _)))))))),by unfold qT;walk_at "r"⟩) rfl Ao8
def co2:dY P w K mg base 1 "_law_holds" ["_law_years","_law_steps_here"] (bK K cn 2 vK):=by
 refine bJ (d:=vP) T.ca3 iO Y3 (λf c A o s H E r=>⟨_,(aH (fJ D7 rfl (gC K Ae2) (gE K 4 rfl (bM (pn 2 iO) (bM (pn 3 iO) (bM (pn 4 iO) (bM (pn 5 iO) gF))))) (aH (pz 6 iO aG)
 (aH (pz 7 iO aG)
 (aH (bT (pc uP Ae3 dZ) (aK (pz 6 iO (px K Ae1 Ae3))) bI)
 (aH (bT (pc uP Ae4 dZ) (aK (pz 7 iO (px K Ae1 Ae4))) bI)
 (aK (bT (pc av5 Ae8 (aM (bA K) Ae7 Ae5)) (aK (aQ fU)) bI)))))))
 (aK (aQ fU))),by unfold vP;walk_at "r"⟩) rfl Ao8
def ad9:dY P w K mg base 2 "_law_is_dating" ["_law_years","_law_many","_law_steps_here"] (bK K cn 3 nR):=by
 refine bJ (d:=nW) T.bv0 xW Y3 (λf c A o s H E r=>⟨_,(aH (bT (PW.pt (lF (dE (bU K (aR (kN K) rfl T.fG eI (aE Ae1 (aO (sX T.kE iR)))) Ao8)) (lF (pc (sQ K (n:=dJ) r) (aR (bV K) rfl T.dW cW (aO Ae1)) Ae2) (mB (dE (bU K (aR (kM K) rfl T.vU qH (aO (pm [3] (gC K Ae1) (λ_ _ _ _ _=>(pn 3 xW)) (λ_ _ _ _ _=>dM) (λ_ _ _ _ _=>(pf (vC T:) r (aO Ae4)))))) Ao8)))))) (aK (aQ fU)) bI)
 (aK (aQ (pf (co2 T:) r (aE Ae1 (aO Ae3)))))),by unfold nW;walk_at "r"⟩) rfl Ao8
def vE:dY P w K mg base 1 "_law_place" ["_law_end","_law_many"] (bK K cn 2 gX):=by
 refine bJ (d:=vJ) T.cg3 bc8 Y3 (λf c A o s H E r=>⟨_,(aH (bT (pc au3 Ae1 dZ) (aK (aQ Ae2)) bI)
 (aK (aQ Ae1))),by unfold vJ;walk_at "r"⟩) rfl Ao8
def bg6:dY P w K mg base 2 "_law_reached" ["_law_row_here","_law_steps_here","_law_start"] (bK K cn 3 qS):=by
 refine bJ (d:=qZ) T.ba7 fX Y3 (λf c A o s H E r=>⟨_,(aH (pz 3 fX (aM cH (aR (bV K) rfl T.dW cW (aO Ae1)) aG))
 (aH (pz 4 fX (cR (aO Ae3)))
 (aH (fJ D7 rfl (fF rfl T.fZ (aO (aM (bA K) Ae4 aG))) (pn 5 fX) (aH (bT (pc av5 (aR (bV K) rfl T.dW cW (aO Ae5)) Ae4) (aK do4) bI)
 (aK (fJ D7 rfl (gC K Ae2) (gE K 4 rfl (bM (pn 6 fX) (bM (pn 7 fX) (bM (pn 8 fX) (bM (pn 9 fX) gF))))) (aH (pz 10 fX (pf (vE T:) r (aE Ae7 (aO Ae4))))
 (aH (pz 11 fX (pf (vE T:) r (aE Ae8 (aO Ae4))))
 (aK (bT (PW.pt (qB (bk2 (yL K (n:=dJ) r) Af1 Ae5 Y4) (qB (bk2 (dv1 K (n:=dJ) r) Af2 Ae5 Y4) (pF (pc (oe K r) (px K Ae1 Af2) (aM (bA K) (px K Ae1 Af1) Ae9)))))) (aK (fH (uK K Ae5 (aO Af2)))) bI))))))))
 (aK (aQ (jV (oe K r) (aR (bv9 K) rfl T.dk8 dm0 (aO Ae5)) (cm5 T.kE T.fZ (aO (aM (bA K) Ae4 aG))) (uC _))))))),by unfold qZ;walk_at "r"⟩) rfl Ao8
def cz0:dY P w K mg base 3 "_law_is_row" ["_law_row_here","_law_steps_here","_law_start"] (bK K cn 3 lZ):=by
 refine bJ (d:=sT) T.cp1 kA Y3 (λf c A o s H E r=>⟨_,(aH (bT (PW.pt (lF (dE (bU K (aR (kN K) rfl T.fG eI (aE Ae1 (aO (sX T.kE iR)))) Ao8)) (lF (dE (bU K (aR (kM K) rfl T.vU qH (aO (pm [6] (gC K Ae1) (λ_ _ _ _ _=>(pn 6 kA)) (λ_ _ _ _ _=>dM) (λ_ _ _ _ _=>(pf (vC T:) r (aO Ae7)))))) Ao8)) (mB (pc (sQ K (n:=dJ) r) (px K Ae1 Ae3) aG))))) (aK (aQ fU)) bI)
 (aH (pz 3 kA (aM cH (aR (bV K) rfl T.dW cW (aO Ae1)) aG))
 (aH (fJ D7 rfl (gC K Ae2) (gE K 4 rfl (bM (pn 4 kA) (bM (pn 5 kA) (bM (pn 6 kA) (bM (pn 7 kA) gF))))) (aK (bT (pc av5 (px K Ae1 (pf (vE T:) r (aE Ae6 (aO Ae4)))) (aM (bA K) (px K Ae1 (pf (vE T:) r (aE Ae5 (aO Ae4)))) Ae7)) (aK (aQ fU)) bI)))
 (aK (aQ (pf (bg6 T:) r (aE Ae1 (aE Ae2 (aO Ae3))))))))),by unfold sT;walk_at "r"⟩) rfl Ao8
def bj3:dY P w K mg base 4 "_law_is_table" ["_law_found","_law_many","_law_steps_here"] (bK K cn 3 oT):=by
 refine bJ (d:=oX) T.bt3 zN Y3 (λf c A o s H E r=>⟨_,(aH (bT (PW.pt (lF (dE (bU K (aR (kN K) rfl T.fG eI (aE Ae1 (aO (sX T.kE iR)))) Ao8)) (mB (pc (sQ K (n:=dJ) r) (aR (bV K) rfl T.dW cW (aO Ae1)) (aM (bA K) Ae2 aG))))) (aK (aQ fU)) bI)
 (aH (fJ D7 rfl (fF rfl T.fZ (aO (aM (bA K) Ae2 aG))) (pn 3 zN) (aK (bT (PW.pt (lF (pc (sQ K (n:=dJ) r) (aR (bV K) rfl T.dW cW (aO (px K Ae1 Ae4))) (aM (bA K) Ae2 aG)) (mB (dE (bU K (pf (cz0 T:) r (aE (px K Ae1 Ae4) (aE Ae3 (aO Ae4)))) Ao8))))) (aK (aQ fU)) bI)))
 (aK (aQ fU)))),by unfold oX;walk_at "r"⟩) rfl Ao8
def pY:dY P w K mg base 9 "_law_right" ["_law_archive_here","_law_sayings_here","_law_steps_here"] (bK K cn 3 gU):=by
 refine bJ (d:=qC) T.ce3 oN Y3 (λf c A o s H E r=>⟨_,(aH (pz 3 oN (aR (bV K) rfl T.dW cW (aO (eD K Ae1))))
 (aH (tE (pf (dq2 T:) r (aE Ae1 (aO Ae2))) (gE K 2 rfl (bM (pn 4 oN) (bM (pn 5 oN) gF))))
 (aH (bT (pc (oe K r) Ae5 cC) (aK (aQ (vV (pf (bp6 T:) r (aE Ae6 (aO Ae3))) (wA (pf (cq2 T:) r (aE Ae1 (aO Ae2))))))) bI)
 (aH (bT (PW.pt (lF (pc (sQ K (n:=dJ) r) Ae5 cC) (mB (dE (bU K (pf (ad9 T:) r (aE Ae6 (aE Ae4 (aO Ae3)))) Ao8))))) (aK (aQ fU)) bI)
 (aH (pz 6 oN (bj2 (ab3 T:) fx2 (r.mono Y2) (aE Ae1 (aO Ae2))))
 (aH (bT (dE (bU K (pf (bj3 T:) r (aE Ae7 (aE Ae4 (aO Ae3)))) Ao8)) (aK (aQ fU)) bI)
 (aH (fH (uK K (px K Ae7 aG) (aO aG)))
 (aH (fH (ec1 K L7 PySem.F.slot_list_pop PySem.F.type_list_pop ep6 Ae7))
 (aK (aQ fU)))))))))),by unfold qC;walk_at "r"⟩) rfl Ao8
def eu5{f:Addr}{fd:FuncData}(F:Fun K "law" "law" wR f fd):FnOk P w K mg base kS 10 f fd ["_law_script"] (bK K cn 1 bv7):=by
 refine bt1 (d:=bq7) F mE (λcdv A outer s H E hr=>⟨_,(aH (pz 1 mE (pf (cp2 T:) hr (aE Ae1 (aO aG))))
 (aH (pz 2 mE (pf (bj8 T:) hr (aE (aM iI (pf (wU T:) hr (aE Ae1 (aO aG))) aG) (aO Ae2))))
 (aH (pz 3 mE (pf (bn6 T:) hr (aE (gL (pX K) Ae1 (gT aG) (gT aG)) (aE Ae2 (aE (jV (oe K hr) (aM bY (pf (wU T:) hr (aE Ae1 (aO aG))) aG) aG (uC _)) (aO Ae3))))))
 (aH (pz 4 mE (pf (bk6 T:) hr (aO Ae2)))
 (aH (pz 5 mE (pf (ch6 T:) hr (aE Ae5 (aO Ae4))))
 (aH (pz 6 mE (pf (uY T:) hr (aE Ae2 (aO Ae4))))
 (aH (pk 7 mE [11] (gC K Ae6) (λ_ _ _ _ _=>(pn 11 mE)) (λ_ _ _ _ _=>dM) (λ_ _ _ _ _=>(zJ Af2 (cf4 T:) (hr.mono Y2))))
 (aH (pz 8 mE (aM bY (aM iI (pf (wU T:) hr (aE Ae1 (aO aG))) aG) (aM (bA K) (aR (bV K) rfl T.dW cW (aO Ae4)) aG)))
 (aH (pz 9 mE (pf (uY T:) hr (aE Ae2 (aO (aM (bA K) (gL (pX K) Ae4 jU (gT Ae9)) (gL (pX K) Ae4 (gT (aM (bA K) Ae9 aG)) jU))))))
 (aH (bT (dE (bU K (pf (pY T:) hr (aE Ae5 (aE Ae6 (aO Ae7)))) Ao8)) (aK (aQ fU)) bI)
 (aH (bT (dE (bU K (pf (pY T:) hr (aE Ae5 (aE (aM (bA K) (gL (pX K) Ae6 jU (gT Ae9)) (gL (pX K) Ae6 (gT (aM (bA K) Ae9 aG)) jU)) (aO Af0)))) Ao8)) (aK (aQ fU)) bI)
 (aH (bT (dE (bU K (pf (pY T:) hr (aE Ae5 (aE (cR oG) (aO (pf (uY T:) hr (aE Ae2 (aO (cR oG)))))))) Ao8)) (aK (aQ fU)) bI)
 (aH (pz 10 mE (gL (pX K) Ae6 jU (gT (tW oE aG))))
 (aH (bT (dE (bU K (pf (pY T:) hr (aE Ae5 (aE Af1 (aO (pf (uY T:) hr (aE Ae2 (aO (gL (pX K) Ae4 jU (gT (tW oE aG)))))))))) Ao8)) (aK (aQ fU)) bI)
 (aH (fH (xY K L7 V5 V4 aj4 Af1 (aO (gL (pX K) Ae6 (gT (tW oE aG)) jU))))
 (aK (aQ (vV (pf (pY T:) hr (aE Ae5 (aE Af1 (aO Ae7)))) (wA (jV (oe K hr) (pm [11] (gC K Ae6) (λ_ _ _ _ _=>(pn 11 mE)) (λ_ _ _ _ _=>dM) (λ_ _ _ _ _=>(zJ Af2 (cf4 T:) (hr.mono Y2)))) Ae8 (uC _))))))))))))))))))))),by unfold bq7;walk_at "r"⟩) rfl Ao8
end
def eq6{l:PySem.W.OpenLaw}{w:World}{K:A1}{h:Heap}{mg:aa}{fa f0:Addr}(X:K.In h)(G:h.Ns mainGlobals mg)(hfa:mg "law"=some (.ref fa))
 {od0 an0:bb}{sl0:bp}{oc0 kV0 dc0 pm0 cd0 ct0:Value}
 (a0:PySem.W.nsIn K mainGlobals "law"=some (some (.ref f0)))(l0:K.lookup f0=some ⟨oc0,od0,.func (PySem.W.fnOf "law" "law" (jB wR) (cP wR) (aL wR) .none kV0 dc0 pm0 an0 cd0 ct0),sl0⟩)(c0:PySem.W.codeIn K cd0 "law"=true)(k0:PySem.W.keepIn K (.ref f0)=true)
 {cn:ac}{Am6 An2 Ao0 Ao4 An1 Am4 Ao1 Ao5 Am5 Ao2 Am7 Am8 An0 An3 An9 An5 Ao3 An7 An4 Am9 An8 An6:Addr}{sH xP jD:az}
 (T:Txt w K cn mg Am6 An2 Ao0 Ao4 An1 Am4 Ao1 Ao5 Am5 Ao2 Am7 Am8 An0 An3 An9 An5 Ao3 An7 An4 Am9 An8 An6 sH xP jD)
 (main:∀ns:List Int,ns.length<=63->(∀n∈ns,Builtin.Int.intBits n<=1048576)->bv7 [.lst false (ns.map .int)]=.ok (.bl true)):
 ∃fd:FuncData,(∀(s:B0)(v:Value),BindsTo s fd ⟨[v],[]⟩ [("_law_script",v)])/\∀base:Heap,K.In base->base.Ns mainGlobals mg->FnOk l.prog w K mg base kS 10 fa fd ["_law_script"] (bw7 K):=by
 have e:=hfa.symm.trans (Q7 X G a0);cases e;have F0:=ab5 (st:=wR) l0 c0 k0;have key:∀base:Heap,FnOk l.prog w K mg base kS 10 fa (PySem.W.fnOf "law" "law" (jB wR) (cP wR) (aL wR) .none kV0 dc0 pm0 an0 cd0 ct0) ["_law_script"] (bw7 K):=by intro base;exact law_fn (eu5 T F0) main
 exact⟨_,λs v=>.of_eq rfl,λbase _ _=>key base⟩
def jG(n k:Int):Int:=
 let p:=(n%1000000021+4099*k+77)*30011%2140000027
 let f:=p/46133*(p%46133)+6007*(p/46133)+271*(p%46133)+k
 f*(f%1009+7919)%1700000009
def bh2(n k:Int):0<=jG n k/\jG n k<1700000009:=⟨G4 _ Y2,J8 _ Y2⟩
def cw3(n k:Int):fS [.int n,.int k]=.ok (.int (jG n k)):=by unfold fS vN;have q:∀f:Int,mulOk f (f%1009+7919):=λf=>ca7 (by have:=G4 f (show(1009:Int)≠0 by decide);omega) (by have:=J8 f (show(0:Int)<1009 by decide);omega);have q2:∀p:Int,mulOk (p/46133) (p%46133):=λp=>ca7 (by have:=G4 p (show(46133:Int)≠0 by decide);omega) (by have:=J8 p (show(0:Int)<46133 by decide);omega);have q3:∀p:Int,zV p 46133:=λp=>⟨Y2,Y2⟩;walk_at "e";rfl
def do1(o:Bool)(ns:ah)(k:Nat):kK [.lst o (ns.map .int),.int k]=.ok (.int (ns.getD k 0)):=by
 unfold kK xB;by_cases h:k<ns.length
 . have h1:decide ((k:Int)<(ns.length:Nat))=true:=by simpa using h
   have h2:atI (ns.map T.int) (k:Int)=some (.int (ns.getD k 0)):=gG (by simp[A4,A2 h]);walk_at "e"
 . have h1:decide ((k:Int)<(ns.length:Nat))=false:=by simpa using h
   have h2:ns.getD k 0=0:=by simp[A4,O9 (show ns.length<=k by omega)]
   walk_at "e"
def eight:List Str:=["a","ab","abc","b","ba","zzzzzzzz","zzzzzzzy","q"]
def turned(k:Nat):List Str:=eight.drop k++eight.take k
def cb0(xs:List α)(k:Nat)(h:k<=xs.length):eR xs (some (k:Int)) none=xs.drop k:=by
 unfold eR;have e1:HT.sIx xs.length 0 (some (k:Int))=k:=by simp only[HT.sIx];rw[D3 X8];omega
 have e2:HT.sIx xs.length xs.length none=xs.length:=rfl;rw[e1,e2,S4 Y1]
def ar0(xs:List α)(k:Nat):eR xs none (some (k:Int))=xs.take k:=by
 unfold eR;have e1:HT.sIx xs.length 0 none=0:=rfl;have e2:HT.sIx xs.length xs.length (some (k:Int))=min k xs.length:=by simp only[HT.sIx];rw[D3 X8];omega
 rw[e1,e2,List.drop_zero,Nat.sub_zero];rw[List.take_eq_take_iff];omega
def eo1(n:Int):vT [.int n]=.ok (.lst true ((turned (n%8).toNat).map .str)):=by
 unfold vT vF;have h0:=G4 n (show(8:Int)≠0 by decide);have h1:=J8 n (show(0:Int)<8 by decide);obtain⟨k,hk⟩:=uS h0;have hk8:k<8:=X8
 have c1:eR [T.str "a",.str "ab",.str "abc",.str "b",.str "ba",.str "zzzzzzzz",.str "zzzzzzzy",.str "q"] (some (n%8)) none=(eight.drop k).map .str:=by rw[hk];exact(cb0 (eight.map T.str) k (by show k<=8;omega)).trans List.map_drop.symm
 have c2:eR [T.str "a",.str "ab",.str "abc",.str "b",.str "ba",.str "zzzzzzzz",.str "zzzzzzzy",.str "q"] none (some (n%8))=(eight.take k).map .str:=by rw[hk];exact(ar0 (eight.map T.str) k).trans V7.symm
 have l1:(eight.drop k).length+(eight.take k).length<=100000:=by simp[eight];omega
 rw[show(turned (n%8).toNat)=eight.drop k++eight.take k by rw[hk];rfl,F7];clear hk;walk_at "e"
structure Fm where
 a:Int
 s:Int
 n:List Str
 i:List (Str×List Int)
 r:List (Str×Int×Int)
def gJ(o:Bool)(p:Str×List Int):T:=.tup [.str p.1,.lst o (p.2.map .int)]
def iL(p:cw):T:=.tup [.str p.1,.int p.2.1,.int p.2.2]
def iD(o:Bool)(f:Fm):T:=.tup [.int f.a,.int (f.a+f.s),.lst o (f.n.map .str),.lst o (f.i.map (gJ o)),.lst o (f.r.map iL)]
def oZ(w:Str):Bool:=decide (1<=(w.length:Int))&&(decide ((w.length:Int)<=8)&&w.cps.toList.all λc=>occ "abcdefghijklmnopqrstuvwxyz" ⟨#[c]⟩)
structure TabOk (xs:ah):Prop where
 l1:1<=xs.length
 l60:xs.length<=60
 b:∀x∈xs,0<=x/\x<=408
 f:xs.Pairwise (λa b=>b<=a)
structure Gd (f:Fm):Prop where
 s0:0<=f.s
 s1:f.s<=300
 f0:-3000<=f.a
 f1:f.a+f.s<=3000
 n1:1<=f.n.length
 n8:f.n.length<=8
 nn:∀x∈f.n,oZ x=true
 nd:f.n.Nodup
 i1:2<=f.i.length
 i6:f.i.length<=6
 ind:(f.i.map (·.1)).Nodup
 inn:∀p∈f.i,oZ p.1=true/\TabOk p.2
 r1:2<=f.r.length
 r8:f.r.length<=8
 rnd:(f.r.map (·.1)).Nodup
 rn:∀p∈f.r,oZ p.1=true/\-4000<=p.2.1/\p.2.1<=4000/\1<=p.2.2/\p.2.2<=100
def cj1(l:ah){i:Int}(h0:0<=i)(h1:i<l.length):∃v,atI (l.map T.int) i=some (.int v)/\v∈l:=by
 obtain⟨k,rfl⟩:=uS h0;have hk:k<l.length:=X8
 exact⟨l[k],gG (by simp[hk]),L8 hk⟩
def sixI:List Str:=["oak","soot","oa","ink","oakoak","s"]
def sixR:List Str:=["an","b","annab","zz","nn","a"]
def dy0(l:am)(h1:i<l.length):∃v,atI (l.map T.str) (0+(i:Int))=some (.str v)/\l[i]?=some v:=by rw[W7];exact⟨l[i],gG (by simp[h1]),A2 h1⟩
def nJ(l:ck):bF (l.map (gJ false))=true:=mU (λa=>by simp only[gJ,cQ,bF,qF,S6,J4]) l
def zX(l:ck):dI (l.map (gJ true))=true:=kX (λa=>by simp only[gJ,cK,dI,lV,J4]) l
theorem rV(o:Bool):∀l:List (Str×List Int),frzs (l.map (gJ o))=l.map (gJ false)
 |[]=>rfl
 |p::l=>by simp only[B9,frzs,rV o l,gJ,frz,oO]
def mP(l:b9):bF (l.map iL)=true:=mU (λa=>rfl) l
def ac9(l:b9):dI (l.map iL)=true:=kX (λa=>rfl) l
def uQ(l:b9):frzs (l.map iL)=l.map iL:=yE (λa=>rfl) l
def ex3(ns:ah):∃f,vM [.lst false (ns.map .int),.int 8]=.ok (iD true f)/\Gd f:=by
 unfold vM uZ
 have ew:=cw3
 have ec:kK [.lst false (ns.map .int),.int 0]=.ok (.int (ns.getD 0 0)):=do1 false ns 0
 have en:=eo1
 have hp:as4 (.int 10) (.int 15)=.ok (.int 1000000000000000):=by
  rw[bh0,gM (show am4 10 15 from⟨Y2,Y2,Y2⟩)]
  rfl
 have hc0:0<=ns.getD 0 0%1000000000000000:=G4 _ Y2
 generalize hc:ns.getD 0 0%1000000000000000=c at hc0
 obtain⟨span,hs,ms⟩:=cj1 [0,1,3,8,20,20,60,300] (i:=c%8) X8 (by simp;omega)
 obtain⟨first,hf,mf⟩:=cj1 [-3000,3000-span,-10,1400] (i:=c/8%4) X8 (by simp;omega)
 simp only[B9,K4]at hs hf
 walk_at "e"
 clear hs hf hp ec en
 generalize hL:cY _ _ _ _=o
 obtain⟨ρ',rfl,inks,o7,o8,o9,o10,rfl,il,inm,iok⟩:=fY (λi U=>∃(inks:ck)(o7 o8 o9 o10:be),U=[some (T.lst false (List.map T.int ns)),some (T.int 8),some (T.int c),some (T.int span),
  some (T.int first),some (T.lst true (eR (List.map T.str (turned (c/32%8).toNat)) none (some (1+c/256%8)))),some (T.lst true (inks.map (gJ true))),o7,o8,o9,o10,none,none]/\
  inks.length=i/\inks.map (·.1)=sixI.take i/\∀p∈inks,TabOk p.2) hL ⟨[],_,_,_,_,rfl,rfl,rfl,dN⟩ (by
  rintro i t U et ⟨inks,o7,o8,o9,o10,rfl,il,inm,iok⟩
  obtain⟨hi,rfl⟩:=mL et
  have hw:=bh2 c 6
  have hi':i<6:=X8
  obtain⟨m,hm,mm⟩:=cj1 [12,60] (i:=c/18432%4/3) X8 (by simp;omega)
  obtain⟨nm,hn,en⟩:=dy0 sixI (i:=i) (by show i<6;exact hi')
  simp only[B9,K4,sixI]at hm hn
  have hm0:0<m:=by simp at mm;omega
  have hw2:=G4 (jG c (0+(i:Int))) (show m≠0 by omega)
  have hw3:=J8 (jG c (0+(i:Int))) hm0
  have hw4:jG c (0+(i:Int))%m<60:=by simp at mm;omega
  clear mm
  clear hL et
  walk_at "e"
  generalize hL:cY _ _ _ _=o
  obtain⟨ρ',rfl,xs,d,p10,rfl,xl,xb,xf,hd0,hd1⟩:=fY (λj U=>∃(xs:ah)(d:Int)(p10:be),U=[some (T.lst false (List.map T.int ns)),some (T.int 8),some (T.int c),some (T.int span),
   some (T.int first),some (T.lst true (eR (List.map T.str (turned (c/32%8).toNat)) none (some (1+c/256%8)))),some (T.lst true (inks.map (gJ true))),some (.int (0+(i:Int))),some (.int d),some (.lst true (xs.map .int)),p10,none,none]/\
   xs.length=j+1/\(∀x∈xs,d<=x/\x<=408)/\xs.Pairwise (λa b=>b<=a)/\0<=d/\d<=408) hL ⟨[400+c/2048%9],_,_,rfl,rfl,by simp;omega,Y1,X8,X8⟩ (by
   rintro j t U et ⟨xs,d,p10,rfl,xl,xb,xf,hd0,hd1⟩
   obtain⟨hj,rfl⟩:=mL et
   have hj':j<60:=X8
   have z0:=G4 (jG c (10*(0+(j:Int))+(0+(i:Int)))) (show(13:Int)≠0 by decide)
   have hl:xs.length<=100000:=X8
   clear hL et
   walk_at "e"
   refine⟨xs++[if d-jG c (10*(0+(j:Int))+(0+(i:Int)))%13>0 then d-jG c (10*(0+(j:Int))+(0+(i:Int)))%13 else 0],_,_,by rw[F7];rfl,by simp[xl],?_,?_,?_,?_⟩
   . intro x hx
     rcases A6.mp hx with hx|hx
     . have:=xb x hx
       split<;>omega
     . have hx:=C3.mp hx
       subst hx
       split<;>omega
   . rw[List.pairwise_append]
     refine⟨xf,Y1,λa ha b hb=>?_⟩
     have hb:=C3.mp hb
     subst hb
     have:=xb a ha
     split<;>omega
   . split<;>omega
   . split<;>omega)
  rw[eC]at xl
  clear hL
  have hl:inks.length<=100000:=X8
  walk_at "e"
  refine⟨inks++[(nm,xs)],_,_,_,_,by rw[F7];rfl,by simp[il],?_,?_⟩
  . rw[F7,inm,List.take_succ,en]
    rfl
  . intro p hp
    rcases A6.mp hp with hp|hp
    . exact iok p hp
    . have hp:=C3.mp hp
      subst hp
      exact⟨by show 1<=xs.length;omega,by show xs.length<=60;omega,λx hx=>⟨N2 hd0 (xb x hx).1,(xb x hx).2⟩,xf⟩)
 rw[eC]at il inm
 clear hL
 have h9:0<span+9:=by simp at ms;omega
 have b0:=G4 (jG c 3) (show span+9≠0 by omega)
 have b1:=J8 (jG c 3) h9
 have b2:=bh2 c 7
 have sb:0<=span/\span<=300:=by simp at ms;omega
 have fb:-3000<=first/\first+span<=3000:=by simp at mf;omega
 walk_at "e"
 have t1:Int.toNat 1=1:=rfl
 generalize hL:cY _ _ _ _=o
 obtain⟨ρ',rfl,r0,rest,b,q7,rfl,e0,rn,rl,rb,hb0,hb1⟩:=fY (λi U=>∃(r0:cw)(rest:b9)(b:Int)(q7:be),U=[some (T.lst false (List.map T.int ns)),some (T.int 8),some (T.int c),some (T.int span),
  some (T.int first),some (T.lst true (eR (List.map T.str (turned (c/32%8).toNat)) none (some (1+c/256%8)))),some (T.lst true (inks.map (gJ true))),q7,o8,o9,o10,some (.int b),some (.lst true (iL r0::rest.map iL))]/\
  r0.1="ann"/\rest.map (·.1)=(sixR.take i).reverse++[("anna":Str)]/\rest.length=i+1/\(∀p∈r0::rest,-4000<=p.2.1/\p.2.1<=4000/\1<=p.2.2/\p.2.2<=100)/\first-5-4*i<=b/\b<=first+span+3+4*i) hL
  ⟨("ann",first-5+jG c 3%(span+9),1+jG c 4%30),[("anna",first-5+jG c 3%(span+9)+3,1+jG c 5%100)],_,_,rfl,rfl,rfl,rfl,by simp;omega,X8,X8⟩ (by
  rintro i t U et ⟨r0,rest,b,q7,rfl,e0,rn,rl,rb,hb0,hb1⟩
  obtain⟨hi,rfl⟩:=mL et
  have hi':i<6:=X8
  obtain⟨nm,hn,en⟩:=dy0 sixR (i:=i) (by show i<6;exact hi')
  simp only[B9,K4,sixR]at hn
  have l1:(rest.map iL).length+1<=100000:=by rw[B7];omega
  have l2:1<=(rest.map iL).length+1:=X8
  rw[B7]at l1 l2
  clear hL et
  walk_at "e"
  rw[C7 ⟨Y2,X8⟩]
  refine⟨r0,(nm,b+jG c (8+(0+(i:Int)))%9-4,1+jG c (14+(0+(i:Int)))%60)::rest,_,_,rfl,e0,?_,by simp[rl],?_,?_,?_⟩
  . rw[B9,rn,List.take_succ,en]
    simp
  . intro p hp
    rcases B6.mp hp with rfl|hp
    . exact rb _ A9
    . rcases B6.mp hp with rfl|hp
      . simp only
        omega
      . exact rb p (A5 _ hp)
  . omega
  . omega)
 rw[eC]at rn rl hb0 hb1
 clear hL
 have k0:0<=1+c/256%8:=X8
 obtain⟨kn,hkn⟩:=uS k0
 have ct:eR (List.map T.str (turned (c/32%8).toNat)) none (some (1+c/256%8))=((turned (c/32%8).toNat).take kn).map .str:=by
  rw[hkn,ar0,V7]
 have hk8:1<=kn/\kn<=8:=X8
 obtain⟨kt,hkt⟩:∃kt:Nat,kt<8/\(c/32%8).toNat=kt:=⟨(c/32%8).toNat,X8,rfl⟩
 obtain⟨im,him⟩:∃im:Nat,(2<=im/\im<=6)/\(2+jG c 6%5).toNat=im:=⟨_,X8,rfl⟩
 obtain⟨rm,hrm⟩:∃rm:Nat,rm<=6/\(jG c 7%7).toNat=rm:=⟨_,X8,rfl⟩
 rw[hkt.2]at ct
 rw[him.2]at il inm
 rw[hrm.2]at rn rl
 rw[hkt.2]
 refine⟨⟨first,span,(turned kt).take kn,inks,r0::rest⟩,?_,?_⟩
 . clear hkn
   walk_at "e"
   simp only[iD,B9]
 . have turn_ok:∀k,k<8->(turned k).length=8/\(turned k).Nodup/\∀x∈turned k,oZ x=true:=X9
   obtain⟨u1,u2,u3⟩:=turn_ok kt hkt.1
   have ink_ok:sixI.Nodup/\∀x∈sixI,oZ x=true:=X9
   have rg_ok:∀k,k<=6->(("ann":Str)::((sixR.take k).reverse++[("anna":Str)])).Nodup/\∀x∈("ann":Str)::((sixR.take k).reverse++[("anna":Str)]),oZ x=true:=X9
   obtain⟨v1,v2⟩:=rg_ok rm hrm.1
   have rnm:(r0::rest).map (·.1)=("ann":Str)::((sixR.take rm).reverse++[("anna":Str)]):=by rw[B9,rn,e0]
   exact{
    s0:=sb.1
    s1:=sb.2
    f0:=fb.1
    f1:=fb.2
    n1:=by simp[u1];omega
    n8:=by simp[u1];omega
    nn:=λx hx=>u3 x (M8 hx)
    nd:=u2.sublist (List.take_sublist _ _)
    i1:=by show 2<=inks.length;omega
    i6:=by show inks.length<=6;omega
    ind:=by show(inks.map (·.1)).Nodup;rw[inm];exact ink_ok.1.sublist (List.take_sublist _ _)
    inn:=λp hp=>⟨ink_ok.2 _ (M8 (i:=im) (by rw[<-inm];exact N9 hp)),iok p hp⟩
    r1:=by simp[rl]
    r8:=by simp[rl];omega
    rnd:=by show((r0::rest).map (·.1)).Nodup;rw[rnm];exact v1
    rn:=λp hp=>⟨v2 _ (by rw[<-rnm];exact N9 hp),rb p hp⟩}
def uV(h:n<=100000):n<=sizeLine:=J2 h Y2
theorem fw4(l:List α)(p:α->Bool):(l.map λc=>p c).all id=l.all p:=by
 induction l with
 |nil=>rfl
 |cons a l ih=>simp only[B9,List.all_cons,ih,id]
theorem nN:∀{l:List α},(∀a∈l,(match b (g a) U with|some ρ1=>(c ρ1).bind λk=>if k=true then d ρ1 else .no|none=>.no)=.ok (f a))->cL b c d U (l.map g)=.ok (l.map f)
 |[],_=>rfl
 |a::l,h=>by
  have h0:=h a A9;have ih:=nN (l:=l) λu hu=>h u (A5 _ hu);simp only[B9,cL];cases e:b (g a) U with
  |none=>rw[e]at h0;cases h0
  |some ρ1=>
   rw[e]at h0;simp only at h0⊢;cases e2:c ρ1 with
   |ok k=>
    rw[e2]at h0;simp only[oQ]at h0⊢;cases k with
    |true=>rw[C7 rfl]at h0⊢;rw[h0,ih];rfl
    |false=>rw[D3 Y2]at h0;cases h0
   |ex x=>rw[e2]at h0;cases h0
   |no=>rw[e2]at h0;cases h0
theorem bl9(w s:Str)(m:Int)(hw:w.length<=100000):uH [.str w,.str s,.int m]=.ok (.bl (decide (1<=(w.length:Int))&&(decide ((w.length:Int)<=m)&&w.cps.toList.all λc=>occ s ⟨#[c]⟩))):=by
 unfold uH sV;have h2:w.cps.toList.length<=sizeLine:=by rw[<-eb0];exact uV hw
 have hc:cL (aJ 3) cO (aF (inT false) (aB 3) (aB 1)) [some (.str w),some (.str s),some (.int m),none] (w.cps.toList.map λc=>T.str ⟨#[c]⟩)=.ok ((w.cps.toList.map λc=>occ s ⟨#[c]⟩).map .bl):=by rw[J3];exact eO λc _=>by walk_at "e";rfl
 walk_at "e";cases hA:decide (1<=(w.length:Int))with
 |false=>walk_at "e"
 |true=>
  cases hB:decide ((w.length:Int)<=m)with
  |false=>walk_at "e"
  |true=>walk_at "e";rw[fw4]
def ak4(h:oZ w=true):w.length<=8:=by unfold oZ at h;simp only[E4,decide_eq_true_iff]at h;omega
def cj9(h:oZ w=true):vW [.str w]=.ok (.bl true):=by unfold vW yT;have h1:=bl9 w "abcdefghijklmnopqrstuvwxyz" 8 (by have:=ak4 h;omega);rw[show(decide (1<=(w.length:Int))&&(decide ((w.length:Int)<=8)&&w.cps.toList.all λc=>occ "abcdefghijklmnopqrstuvwxyz" ⟨#[c]⟩))=true from h]at h1;walk_at "e"
theorem at9(x l u:Int):eE [.int x,.int l,.int u]=.ok (.bl (decide (l<=x)&&decide (x<=u))):=by
 have h:wZ [.int x]=.ok (.bl true):=by unfold wZ xD;walk_at "e"
 unfold eE nY;cases hA:decide (l<=x)with
 |true=>walk_at "e"
 |false=>walk_at "e"
def rG(h1:l<=x)(h2:x<=u):eE [.int x,.int l,.int u]=.ok (.bl true):=by rw[at9,E8 h1,E8 h2];rfl
def eb7(l:List α):l.map (λ_=>T.bl true)=(l.map λ_=>true).map T.bl:=by rw[J3];rfl
def sC(o:Bool)(l:List α):lU false [.lst o (l.map λ_=>T.bl true)]=.ok (.bl true):=by rw[eb7,cb6];simp
def uO{xs:ah}{i:Nat}(h:i<xs.length):atI (xs.map T.int) (i:Int)=some (.int (xs.getD i 0)):=
 gG (by rw[E3,A2 h,A4,A2 h];rfl)
def ei8{xs:ah}(h:xs.Pairwise (λa b=>b<=a)){i:Nat}(hi:i+1<xs.length):xs.getD (i+1) 0<=xs.getD i 0:=by rw[List.pairwise_iff_getElem]at h;have:=h i (i+1) X8 hi X8;simpa[A4,A2 hi,A2 (show i<xs.length by omega)]using this
def ck5(o:Bool){xs:ah}(h:TabOk xs):uF [.lst o (xs.map .int)]=.ok (.bl true):=by
 unfold uF wW;obtain⟨h1,h60,hb,hf⟩:=h;have hc1:cL (aJ 1) cO (aW 3 eE (aD (aB 1) (aD Al9 (aD (dC (.int 1000000)) aI)))) [some (.lst o (xs.map .int)),none,none] (xs.map .int)=.ok (xs.map λ_=>.bl true):=by refine eO λc hc=>?_;have:=rG (hb c hc).1 (N2 (hb c hc).2 (show(408:Int)<=1000000 by decide));walk_at "e"
 have hc2:cL (aJ 2) cO (aF uG Ak7 (aF aP (aB 0) (aF dH (aB 2) Am0))) [some (.lst o (xs.map .int)),none,none] (fL 1 ((xs.length:Int)-1).toNat)=.ok ((List.range (xs.length-1)).map λ_=>.bl true):=by
  unfold fL;rw[show((xs.length:Int)-1).toNat=xs.length-1 by omega];refine eO λi hi=>?_;have hi:=G6.mp hi;have a1:atI (xs.map T.int) (1+(i:Int))=some (.int (xs.getD (i+1) 0)):=by rw[show(1:Int)+(i:Int)=((i+1:Nat):Int) by omega];exact uO X8
  have a2:atI (xs.map T.int) (1+(i:Int)-1)=some (.int (xs.getD i 0)):=by rw[show(1:Int)+(i:Int)-1=(i:Int) by omega];exact uO X8
  have a3:=E8 (ei8 hf (i:=i) X8);walk_at "e"
 have hl2:(fL 1 ((xs.length:Int)-1).toNat).length<=sizeLine:=by rw[eC];exact uV X8
 have k1:decide (1<=(xs.length:Int))=true:=E8 X8;have k2:decide ((xs.length:Int)<=60)=true:=E8 X8;have y1:=λo=>sC o xs;have y2:=λo=>sC o (List.range (xs.length-1));clear hb hf;walk_at "e"
def cp5(h1:-4000<=b)(h2:b<=4000)(h3:1<=l)(h4:l<=100):sU [.int b,.int l]=.ok (.bl true):=by unfold sU xJ;have k1:=rG h1 h2;have k2:=rG h3 h4;walk_at "e"
def cn2(h1:-3000<=a)(h2:a<=b)(h3:b<=3000)(h4:b-a<=300):vL [.int a,.int b]=.ok (.bl true):=by unfold vL vD;have k1:=rG h1 (show a<=3000 by omega);have k2:=rG (show -3000<=b by omega) h3;have k3:decide (0<=b-a)=true:=E8 X8;have k4:decide (b-a<=300)=true:=E8 X8;walk_at "e"
def zU{o:Bool}{ss:am}{l u:Int}(h1:l<=ss.length)(h2:(ss.length:Int)<=u)(h3:ss.length<=1000)(hn:∀x∈ss,oZ x=true)(nd:ss.Nodup):nL [.lst o (ss.map .str),.int l,.int u]=.ok (.bl true):=by
 unfold nL vQ;have hc:cL (aJ 3) cO (aW 1 vW (aD (aB 3) aI)) [some (.lst o (ss.map .str)),some (.int l),some (.int u),none] (ss.map .str)=.ok (ss.map λ_=>.bl true):=by refine eO λc hc=>?_;have:=cj9 (hn c hc);walk_at "e"
 have k1:decide (l<=(ss.length:Int))=true:=E8 h1;have k2:decide ((ss.length:Int)<=u)=true:=E8 h2;have y1:=λo=>sC o ss;have ls:=db3 o nd h3;have l4:ss.length<=100000:=X8
 clear hn nd;walk_at "e";simp
def cc6{is:ck}(h6:is.length<=6)(nd:(is.map (·.1)).Nodup)(ok:∀p∈is,oZ p.1=true/\TabOk p.2):wT [.lst false (is.map (gJ false))]=.ok (.bl true):=by
 unfold wT xK;have hc1:cL Aj9 cO (aU (aB 1)) [some (.lst false (is.map (gJ false))),none,none] (is.map (gJ false))=.ok ((is.map (·.1)).map .str):=by rw[J3];exact nN λp _=>by simp only[gJ];walk_at "e";rfl
 have hc2:cL Aj9 cO (aW 1 uF (aD (aB 2) aI)) [some (.lst false (is.map (gJ false))),none,none] (is.map (gJ false))=.ok (is.map λ_=>.bl true):=by refine nN λp hp=>?_;simp only[gJ];have:=ck5 false (ok p hp).2;walk_at "e"
 have nm:=zU (o:=false) (ss:=is.map (·.1)) (l:=0) (u:=6) X8 (by simp;omega) (by simp;omega) (λx hx=>by obtain⟨p,hp,rfl⟩:=K8.mp hx;exact(ok p hp).1) nd;have y1:=λo=>sC o is;have n1:=nJ is;have l4:is.length<=100000:=X8
 clear ok nd;walk_at "e"
def bp9{rs:b9}(h8:rs.length<=8)(nd:(rs.map (·.1)).Nodup)(ok:∀p∈rs,oZ p.1=true/\-4000<=p.2.1/\p.2.1<=4000/\1<=p.2.2/\p.2.2<=100):tJ [.lst false (rs.map iL)]=.ok (.bl true):=by
 unfold tJ uA;have hc1:cL (fO (aY (aJ 1) Ah1)) cO (aU (aB 1)) [some (.lst false (rs.map iL)),none,none,none] (rs.map iL)=.ok ((rs.map (·.1)).map .str):=by rw[J3];exact nN λp _=>by simp only[iL];walk_at "e";rfl
 have hc2:cL (fO (aY (aJ 1) Ah1)) cO (aW 2 sU Al0) [some (.lst false (rs.map iL)),none,none,none] (rs.map iL)=.ok (rs.map λ_=>.bl true):=by refine nN λp hp=>?_;simp only[iL];obtain⟨_,k1,k2,k3,k4⟩:=ok p hp;have:=cp5 k1 k2 k3 k4;walk_at "e"
 have nm:=zU (o:=false) (ss:=rs.map (·.1)) (l:=0) (u:=8) X8 (by simp;omega) (by simp;omega) (λx hx=>by obtain⟨p,hp,rfl⟩:=K8.mp hx;exact(ok p hp).1) nd;have y1:=λo=>sC o rs;have n1:=mP rs;have l4:rs.length<=100000:=X8
 clear ok nd;walk_at "e"
def cB(o:Bool)(f:Fm):T:=.ins o "Archive" ["first","present","letters","inks","reigns"] [.int f.a,.int (f.a+f.s),.lst o (f.n.map .str),.lst o (f.i.map (gJ o)),.lst o (f.r.map iL)]
theorem fi1:hV "first" []=none:=rfl
def fi2:hV "present" ["first"]=none:=X9
def fi3:hV "letters" ["first","present"]=none:=X9
def fi4:hV "inks" ["first","present","letters"]=none:=X9
def fi5:hV "reigns" ["first","present","letters","inks"]=none:=X9
def ct1:(["Archive"]:List Str).contains "Archive"=true:=X9
def cq0{f:Fm}(g:Gd f):sJ [.int f.a,.int (f.a+f.s),.lst false (f.n.map .str),.lst false (f.i.map (gJ false)),.lst false (f.r.map iL)]=.ok (cB true f):=by
 unfold sJ lY cB;have k1:=cn2 g.f0 (show f.a<=f.a+f.s by have:=g.s0;omega) g.f1 (by have:=g.s1;omega);have k2:=zU (o:=false) (l:=1) (u:=8) (ss:=f.n) (by have:=g.n1;omega) (by have:=g.n8;omega) (by have:=g.n8;omega) g.nn g.nd;have k3:=cc6 g.i6 g.ind g.inn;have k4:=bp9 g.r8 g.rnd g.rn;have n1:=nJ f.i;have n2:=mP f.r;have z1:=rV false f.i;have z2:=uQ f.r;have i1:=fi1;have i2:=fi2;have i3:=fi3;have i4:=fi4;have i5:=fi5;have c1:=ct1;have d0:∀x y z:T,cL (fO Ai4) cO (dD (aD (aU (aB 6)) (aD (bX kR (aD (aB 7) aI)) aI))) [some x,some (.int f.a),some (.int (f.a+f.s)),some y,some (.lst false (f.i.map (gJ false))),some z,none,none,none,none] (f.i.map (gJ false))=.ok (f.i.map (gJ true)):=λx y z=>
  nN λp _=>by simp only[gJ];walk_at "e"
 have d1:∀x y z:T,cL (fO (aY (aJ 6) (aY (aJ 8) (aY (aJ 9) fV)))) cO (dD (aD (aU (aB 6)) (aD (aU (aB 8)) (aD (aU (aB 9)) aI)))) [some x,some (.int f.a),some (.int (f.a+f.s)),some y,some z,some (.lst false (f.r.map iL)),none,none,none,none] (f.r.map iL)=.ok (f.r.map iL):=λx y z=>
  nN λp _=>by simp only[iL];walk_at "e"
 have l5:f.r.length<=100000:=by have:=g.r8;omega
 have l4:f.i.length<=100000:=by have:=g.i6;omega
 clear g;have q1:decide (0<1000)=true:=rfl;have q2:decide (1<1000)=true:=rfl;have q3:decide (2<1000)=true:=rfl;have q4:decide (3<1000)=true:=rfl;have q5:decide (4<1000)=true:=rfl;walk_at "e"
def jP(o:Bool)(f:Fm):frz (cB o f)=cB false f:=by simp only[cB,frz,frzs,yS,rV,uQ]
def iP(f:Fm):cQ (cB false f)=true:=by simp only[cB,cQ,bF,lT,nJ,mP,S6,J4]
def cn1(f:Fm):cK (cB true f)=true:=by simp only[cB,cK,dI,zR,zX,ac9,J4]
def as1(o:Bool)(f:Fm):eQ ["Archive"] "first" (cB o f)=.ok (.int f.a):=Y4
def am1(o:Bool)(f:Fm):eQ ["Archive"] "present" (cB o f)=.ok (.int (f.a+f.s)):=Y4
def mW(o:Bool)(f:Fm):eQ ["Archive"] "letters" (cB o f)=.ok (.lst o (f.n.map .str)):=Y4
def ci4(o:Bool)(f:Fm):eQ ["Archive"] "inks" (cB o f)=.ok (.lst o (f.i.map (gJ o))):=Y4
def bl5(o:Bool)(f:Fm):eQ ["Archive"] "reigns" (cB o f)=.ok (.lst o (f.r.map iL)):=Y4
def kD{α:Type}(a:α)(l:List α):atI (a::l) 0=some a:=gG (j:=0) rfl
def jM{α:Type}(a b:α)(l:List α):atI (a::b::l) 1=some b:=gG (j:=1) rfl
def rO{α:Type}(a b c:α)(l:List α):atI (a::b::c::l) 2=some c:=gG (j:=2) rfl
def yK{α:Type}(a b c d:α)(l:List α):atI (a::b::c::d::l) 3=some d:=gG (j:=3) rfl
local macro_rules|`(tactic|walk_at "B")=>`(tactic|(have b0:=@kD T;have b1:=@jM T;have b2:=@rO T;have b3:=@yK T))
def ix4{α:Type}(a b c d e:α)(l:List α):atI (a::b::c::d::e::l) 4=some e:=gG (j:=4) rfl
def bj6(g:Gd f):qO [iD false f]=.ok (cB true f):=by
 unfold qO qU;have hc:cL (fO Ah1) cO (dD (aD (aU (aB 2)) (aD Ah4 aI))) [some (iD false f),none,none,none] (f.i.map (gJ false))=.ok (f.i.map (gJ true)):=
  nN λp _=>by simp only[gJ];walk_at "e"
 have k:=cq0 g;have n1:=nJ f.i;have n2:=mP f.r;have z1:=rV true f.i;have z2:=uQ f.r;have z3:=zX f.i;have l4:f.i.length<=100000:=by have:=g.i6;omega
 have ca:=cn1 f;have a0:=λl=>kD (T.int f.a) l;simp only[iD]at hc⊢;clear g;walk_at "B";have b4:=@ix4 T;walk_at "e"
def nV:Option Int->T
 |none=>.non
 |some h=>.int h
def kG:List Str:= Am3 
def gI(o:Bool)(c:Str)(ls:ah)(lo:Int)(hi:a_)(x:Str):T:=.ins o c ["spoken","low","high","text"] [.lst o (ls.map .int),.int lo,nV hi,.str x]
def bv2(h:a_):cQ (nV h)=true/\cK (nV h)=true/\frz (nV h)=nV h:=by cases h<;>exact⟨rfl,rfl,rfl⟩
def ag1(h:a_):cQ (nV h)=true:=(bv2 h).1
def ag7(h:a_):cK (nV h)=true:=(bv2 h).2.1
def dl2(h:a_):frz (nV h)=nV h:=(bv2 h).2.2
def bk8(c:Str)(ls:ah)(lo:Int)(hi:a_)(x:Str):cK (gI true c ls lo hi x)=true:=by simp only[gI,cK,dI,lV,ag7,J4]
def ds6(c:Str)(ls:ah)(lo:Int)(hi:a_)(x:Str):cQ (gI false c ls lo hi x)=true:=by simp only[gI,cQ,bF,qF,ag1,S6,J4]
def cw9(o:Bool)(c:Str)(ls:ah)(lo:Int)(hi:a_)(x:Str):frz (gI o c ls lo hi x)=gI false c ls lo hi x:=by simp only[gI,frz,frzs,oO,dl2]
theorem fj1:hV "spoken" []=none:=rfl
def fj2:hV "low" ["spoken"]=none:=X9
def fj3:hV "high" ["spoken","low"]=none:=X9
def fj4:hV "text" ["spoken","low","high"]=none:=X9
def ct8:∀c∈kG,( Am3 :List Str).contains c=true:=X9
def el3(h:∀y∈ys,y.length<=2000000)(hl:ys.length<=5)(o:Bool):an1 (.str " ") [.lst o (ys.map .str)]=.ok (.str (Txt.join " " ys)):=by
 rw[cr3,C7];have hs:(ys.map (·.length)).sum<=ys.length*2000000:=by
  clear hl;induction ys with
  |nil=>simp
  |cons y ys ih=>have h1:=h y A9;have h2:=ih λz hz=>h z (A5 _ hz);simp only[B9,List.sum_cons,List.length_cons];omega
 have h1:(" ":Str).length=1:=X9
 rw[h1];have:ys.length*2000000<=5*2000000:=Nat.mul_le_mul_right _ hl;omega
theorem az3(n:Str):∀ss:List Str,uN (.str n) (ss.map .str)=some (ss.map λs=>s==n)
 |[]=>rfl
 |s::ss=>by simp only[B9,uN,az3 n ss];rfl
theorem cr4:∀{ss:am}{l:Nat},ss.Nodup->ss[l]?=some n->an2 (ss.map λs=>s==n)=some l
 |[],l,_,h=>by simp at h
 |s::ss,0,_,h=>by simp at h;subst h;simp[an2]
 |s::ss,l+1,nd,h=>by
  rw[E7]at nd;simp only[List.getElem?_cons_succ]at h;have hne:(s==n)=false:=by simp;rintro rfl;exact nd.1 (C4 h)
  simp only[B9,hne,an2,cr4 nd.2 h];rfl
def er3{f:Fm}(g:Gd f){l:Nat}{n:Str}(h:f.n[l]?=some n)(o:Bool):az0 (.lst o (f.n.map .str)) [.str n]=.ok (.int (l:Int)):=by simp only[az0,az3,cr4 g.nd h]
def dr7{ss:am}{n:Str}(h:n∈ss)(o:Bool):inT false (.str n) (.lst o (ss.map .str))=.ok (.bl true):=by
 have:(ss.map λs=>s==n).any id=true:=by rw[List.any_map,O5];exact⟨n,h,Y1⟩
 simp only[inT,az3,O7,O2,this]
def de5{ts:aw}{ys:am}{z:Str}(hn:bF ts=true)(hl:ts.length<=100000)(hx:∀a:Option T,cL (aJ 1) cO (bX yY (aD (aB 1) aI)) [a,none] ts=.ok (ys.map .str))(hj:an1 (.str " ") [.lst true (ys.map .str)]=.ok (.str z)):ao1 [.lst false ts]=.ok (.str z):=by unfold ao1 ax1;walk_at "e"
def en9{f:Fm}(g:Gd f){c w:Str}(hc:c∈kG){ps:aw}{ds:aw}{nl:List (Str×Nat)}{xs:am}{lo:Int}{hi:a_}(hp:bF ps=true)(hpl:ps.length<=4)(hk:kt_PARTS.lookup w=some (.tup ds))(hds:bF ds=true)
 (h7:∀a b d e h i:Option T,cL (fO (aY (aJ 7) (aY (aJ 8) fV))) Ak5 (aU (aB 7)) [a,b,d,e,h,i,none,none,none,none] (lG ps ds)=.ok ((nl.map (·.1)).map .str))
 (hn:nl.length<=4)(hnl:∀p∈nl,f.n[p.2]?=some p.1)
 (hx:∀a:Option T,cL (aJ 1) cO (bX yY (aD (aB 1) aI)) [a,none] (.str w::ps)=.ok ((w::xs).map .str))(hxl:xs.length<=4)(hxb:∀y∈w::xs,y.length<=2000000):
 ∃x,mV (cF (bZ 10 [.ins true c [] [],cB false f,.str w,.lst false ps,.int lo,nV hi]))=.ok (gI true c (nl.map λp=>(p.2:Int)) lo hi x):=by
 refine⟨Txt.join " " (w::xs),?_⟩;unfold cF gI;have hl7:(lG ps ds).length<=sizeLine:=by rw[an3];exact uV X8
 have i1:=fj1;have i2:=fj2;have i3:=fj3;have i4:=fj4;have cc:=ct8 c hc;have fl:=mW false f;have h9:cL (aJ 9) cO Al6 [some (.ins true c [] []),some (cB false f),some (.str w),some (.lst false ps),some (.int lo),some (nV hi),some (.lst true ((nl.map (·.1)).map .str)),none,none,none] ((nl.map (·.1)).map .str)=.ok ((nl.map λp=>(p.2:Int)).map .int):=by rw[J3,J3];refine eO (α:=Str×Nat) λp hp=>?_;have:=er3 g (hnl p hp) false;walk_at "e";exact this
 have nh:=ag1 hi;have jn:=el3 (ys:=w::xs) hxb (by simp;omega) true;have sp:=de5 (ts:=.str w::ps) (by simp only[bF,cQ,hp,J4]) (by simp only[List.length_cons];omega) hx jn;have zp:=jI ps hp;clear hx jn;have np:=lT;have hxl2:1+xs.length<=sizeLine:=uV X8;have hnn:(nl.map (·.1)).length<=100000:=by simp;omega
 have q1:decide (0<1000)=true:=rfl;have q2:decide (1<1000)=true:=rfl;have q3:decide (2<1000)=true:=rfl;have q4:decide (3<1000)=true:=rfl;clear g hnl hxb;walk_at "e"
def dm2(h:a∈lG ts us):∃(i:Nat)(t u:T),ts[i]?=some t/\us[i]?=some u/\a=.tup [t,u]:=by obtain⟨i,hi⟩:=List.getElem?_of_mem h;obtain⟨t,u,h1,h2,h3⟩:=bo5 hi;exact⟨i,t,u,h1,h2,h3⟩
def ck7{ts:aw}{i:Nat}{t:T}(h:bF ts=true)(e:ts[i]?=some t):cQ t=true:=by rw[sG,J6]at h;exact h t (C4 e)
def cu9{f:Fm}{w:Str}{ps:aw}{ds:am}(hk:kt_PARTS.lookup w=some (.tup (ds.map .str)))(hp:bF ps=true)(hl:ps.length=ds.length)(h4:ds.length<=4)
 (h:∀(i:Nat)(d:Str)(p:T),ds[i]?=some d->ps[i]?=some p->iA [cB false f,.str d,p]=.ok (.bl true)):wB [cB false f,.str w,.lst false ps]=.ok (.bl true):=by
 unfold wB zM;have na:=iP f;have za:=jP false f;have hc:cL (fO Al1) cO (aW 3 iA Ak8) [some (cB false f),some (.str w),some (.lst false ps),none,none] (lG (ds.map .str) ps)=.ok ((lG (ds.map .str) ps).map λ_=>.bl true):=by
  have:=nN (b:=fO Al1) (c:=cO) (d:=aW 3 iA Ak8) (U:=[some (cB false f),some (.str w),some (.lst false ps),none,none]) (g:=id) (f:=λ_=>T.bl true) (l:=lG (ds.map .str) ps) λa ha=>?_
  . rw[List.map_id]at this;exact this
  obtain⟨i,t,u,h1,h2,rfl⟩:=dm2 ha;rw[E3]at h1;cases e:ds[i]? with
  |none=>rw[e]at h1;cases h1
  |some d=>rw[e]at h1;cases h1;have k:=h i d u e h2;have nu:=ck7 hp h2;have zu:=bd5 u nu;simp only[id];clear h hk hp ha;walk_at "e"
 have hs:(kt_PARTS.lookup w).isSome=true:=by rw[hk];rfl
 have e1:(!((ps.length:Int)==(ds.length:Int)))=false:=by rw[hl];simp
 have hpl:(lG (ds.map .str) ps).length<=sizeLine:=by rw[an3,B7];exact uV X8
 have y:=λo=>sC o (lG (ds.map .str) ps);have nd:=lT ds;clear h hl;walk_at "e"
def xX:∀d∈(["ink","reign","dark","place","year","later","gap"]:List Str),(d=="letter")=false:=X9
def ea5:∀d∈(["reign","dark","place","year","later","gap"]:List Str),(d=="ink")=false:=X9
def fk5:∀d∈(["dark","place","year","later","gap"]:List Str),(d=="reign")=false:=X9
def gZ(h:n∈f.n):iA [cB false f,.str "letter",.str n]=.ok (.bl true):=by unfold iA rE;have k:=dr7 h false;have fl:=mW false f;have e:(("letter":Str)=="letter")=true:=M4 _;walk_at "e"
def eg1(g:Gd f)(h:n∈f.i.map (·.1)):iA [cB false f,.str "ink",.str n]=.ok (.bl true):=by
 unfold iA rE;have fl:=ci4 false f;have e:(("ink":Str)=="ink")=true:=M4 _;have e1:=xX "ink" X9;have k:=dr7 h true;have b0:=@kD T;have l6:f.i.length<=100000:=by have:=g.i6;omega
 have n1:=nJ f.i;have hc:cL (aJ 3) cO (aU Ah6) [some (cB false f),some (.str "ink"),some (.str n),none,none] (f.i.map (gJ false))=.ok ((f.i.map (·.1)).map .str):=by rw[J3];exact eO λp _=>by simp only[gJ];walk_at "e";rfl
 clear g h;walk_at "e"
def br4(g:Gd f)(h:n∈f.r.map (·.1)):iA [cB false f,.str "reign",.str n]=.ok (.bl true):=by
 unfold iA rE;have fl:=bl5 false f;have e:(("reign":Str)=="reign")=true:=M4 _;have e1:=xX "reign" X9;have e2:=ea5 "reign" X9;have k:=dr7 h true;have b0:=@kD T;have l6:f.r.length<=100000:=by have:=g.r8;omega
 have n1:=mP f.r;have hc:cL (aJ 4) cO (aU Ah7) [some (cB false f),some (.str "reign"),some (.str n),none,none] (f.r.map iL)=.ok ((f.r.map (·.1)).map .str):=by rw[J3];exact eO λp _=>by simp only[iL];walk_at "e";rfl
 clear g h;walk_at "e"
def sE(hd:d∈(["dark","place","year","later","gap"]:List Str))(hk:kt_NUMBERS.lookup d=some (.tup [.int lo,.int hi]))(h1:lo<=i)(h2:i<=hi):iA [cB false f,.str d,.int i]=.ok (.bl true):=by unfold iA rE;have e1:=xX d (A5 _ (A5 _ hd));have e2:=ea5 d (A5 _ hd);have e3:=fk5 d hd;have k:=rG h1 h2;have b0:=@kD T;have b1:=@jM T;walk_at "e"
def cg4:kt_NUMBERS.lookup ("dark":Str)=some (.tup [.int 0,.int 1000000]):=Y4
def dh4:kt_NUMBERS.lookup ("place":Str)=some (.tup [.int 1,.int 100]):=Y4
def cn4:kt_NUMBERS.lookup ("year":Str)=some (.tup [.int (-4000),.int 4000]):=Y4
def dc8:kt_NUMBERS.lookup ("later":Str)=some (.tup [.int 0,.int 300]):=Y4
def ce9:kt_NUMBERS.lookup ("gap":Str)=some (.tup [.int (-300),.int 300]):=Y4
abbrev d_ink:List Str:=["letter","ink","dark","dark"]
abbrev d_reign:List Str:=["letter","reign","place"]
abbrev d_under:List Str:=["letter","reign"]
abbrev d_between:List Str:=["letter","year","year"]
abbrev d_two:List Str:=["letter","letter"]
abbrev d_within:List Str:=["letter","letter","later"]
abbrev d_apart:List Str:=["letter","letter","gap","gap"]
def ei5:kt_PARTS.lookup ("ink":Str)=some (.tup (d_ink.map .str)):=Y4
def df4:kt_PARTS.lookup ("reign":Str)=some (.tup (d_reign.map .str)):=Y4
def dk4:kt_PARTS.lookup ("under":Str)=some (.tup (d_under.map .str)):=Y4
def cg5:kt_PARTS.lookup ("between":Str)=some (.tup (d_between.map .str)):=Y4
def dp7:kt_PARTS.lookup ("after":Str)=some (.tup (d_two.map .str)):=Y4
def eb1:kt_PARTS.lookup ("same":Str)=some (.tup (d_two.map .str)):=Y4
def cr8:kt_PARTS.lookup ("within":Str)=some (.tup (d_within.map .str)):=Y4
def dk6:kt_PARTS.lookup ("apart":Str)=some (.tup (d_apart.map .str)):=Y4
def er4:tb_MAKERS.lookup ("ink":Str)=some uD:=Y4
def de7:tb_MAKERS.lookup ("reign":Str)=some pP:=Y4
def du7:tb_MAKERS.lookup ("under":Str)=some oS:=Y4
def cv5:tb_MAKERS.lookup ("between":Str)=some mX:=Y4
def dj5:tb_MAKERS.lookup ("after":Str)=some pE:=Y4
def ez2:tb_MAKERS.lookup ("same":Str)=some qM:=Y4
def dl1:tb_MAKERS.lookup ("within":Str)=some nQ:=Y4
def dj6:tb_MAKERS.lookup ("apart":Str)=some oR:=Y4
def dd4(hk:kt_PARTS.lookup w=some (.tup ds))(hp:bF ps=true)(hds:bF ds=true)(hd:wB [cB false f,.str w,.lst false ps]=.ok (.bl true))(h1:atI ds 1=some (.str d1))
 (h2:(d1=="letter")=false\/((d1=="letter")=true/\∃a b:Str,atI ps 0=some (.str a)/\atI ps 1=some (.str b)/\(a==b)=false))(hm:tb_MAKERS.lookup w=some F)(hF:F [cB false f,.lst false ps]=.ok r)(hc:cK r=true):
 dX [cB false f,.str w,.lst false ps]=.ok r:=by
 unfold dX vR;have na:=iP f;have za:=jP false f;have zp:=jI ps hp;rcases h2 with h2|⟨h2,a,b,h3,h4,h5⟩
 . walk_at "e"
 . walk_at "e"
def pB(xs:ah)(d e:Int)(j:Nat):Bool:=decide ((if xs.getD (min j (xs.length-1)) 0-d<0 then -(xs.getD (min j (xs.length-1)) 0-d)else xs.getD (min j (xs.length-1)) 0-d)<=e)
def iU(xs:ah)(d e:Int)(n:Nat):List Int:=((List.range n).filter (pB xs d e)).map λ(j:Nat)=>(j:Int)
def dt6:List Int->T
 |[]=>.non
 |a::l=>.tup [.int a,.int ((a::l).getD l.length 0)]
def rQ(xs:ah)(d e:Int)(n:Nat):iU xs d e (n+1)=iU xs d e n++(if pB xs d e n=true then [(n:Int)]else []):=by unfold iU;rw[Q9,List.filter_append,F7];congr 1;simp only[List.filter_cons,List.filter_nil];split<;>rfl
def dz6:atI ((a::l).map T.int) (-1)=some (.int ((a::l).getD l.length 0)):=by
 have e0:pU ((a::l).map T.int).length (-1)=some l.length:=by unfold pU;rw[D3 Y2,B7,E1,C7 X8];congr 1;omega
 unfold atI;rw[e0];show((a::l).map T.int)[l.length]?=_;rw[E3,A4,A2 Y1];rfl
theorem am2(xs:ah)(d e:Int)(n m:Nat)(h:∀j,n<=j->j<n+m->pB xs d e j=false):iU xs d e (n+m)=iU xs d e n:=by
 induction m with
 |zero=>rfl
 |succ m ih=>rw[<-Nat.add_assoc,rQ,ih (λj h1 h2=>h j h1 X8),h (n+m) X8 X8];simp
def ai4(h:pB xs d e n=true):∃l,iU xs d e (n+1)=l++[(n:Int)]:=⟨iU xs d e n,by rw[rQ,C7 h]⟩
def aq9(xs:ah)(d e:Int)(n:Nat):∀x∈iU xs d e n,x<n:=by intro x hx;unfold iU at hx;obtain⟨j,hj,rfl⟩:=K8.mp hx;have:=G6.mp (W9.mp hj).1;omega
def bz4(l:ah)(z:Int):(l++[z]).getD l.length 0=z:=by rw[A4,M3 (D4 _)];simp
def eg3(xs:ah)(d e:Int)(G:Nat)(h0:0<xs.length)(a:Int)(l:ah)(hh:iU xs d e (min (xs.length-1) G+1)=a::l):
 dt6 (iU xs d e (G+1))=.tup [.int a,.int (if(a::l).getD l.length 0=((xs.length-1:Nat):Int)then(G:Int)else(a::l).getD l.length 0)]:=by
 have hmem:(a::l).getD l.length 0∈a::l:=by rw[A4,A2 Y1];exact L8 _
 have hb:=aq9 xs d e (min (xs.length-1) G+1) _ (by rw[hh];exact hmem);rcases Nat.lt_or_ge (xs.length-1) G with hG|hG
 . rw[W8 X8]at hh hb;have same:∀j,xs.length-1<=j->pB xs d e j=pB xs d e (xs.length-1):=by intro j hj;unfold pB;rw[W2 hj,Nat.min_self]
   cases hp:pB xs d e (xs.length-1)with
   |true=>
    have hG':pB xs d e G=true:=by rw[same G X8,hp]
    obtain⟨l1,h1⟩:=ai4 hG';obtain⟨l2,h2⟩:=ai4 hp;rw[hh]at h2;have pre:∀m,∃r,iU xs d e (xs.length-1+1+m)=a::l++r:=by
     intro m;induction m with
     |zero=>exact⟨[],by rw[Nat.add_zero,hh,K0]⟩
     |succ m ih=>obtain⟨r,hr⟩:=ih;rw[<-Nat.add_assoc,rQ,hr,J0];exact⟨_,rfl⟩
    obtain⟨r,hr⟩:=pre (G+1-(xs.length-1+1));rw[show xs.length-1+1+(G+1-(xs.length-1+1))=G+1 by omega]at hr;have last:(a::l).getD l.length 0=((xs.length-1:Nat):Int):=by
     have:l.length=l2.length:=by have:=N4 List.length h2;simp at this;exact this
     rw[h2,this,bz4]
    rw[last,C7 rfl,hr];rw[hr]at h1;show T.tup [.int a,.int ((a::(l++r)).getD (l++r).length 0)]=_;have h1':a::(l++r)=l1++[(G:Int)]:=h1;have hlen:(l++r).length=l1.length:=by have:=N4 List.length h1';simp at this⊢;exact this
    rw[h1',hlen,bz4]
   |false=>have hs:=am2 xs d e (xs.length-1+1) (G+1-(xs.length-1+1)) (λj h1 h2=>by rw[same j X8,hp]);rw[show xs.length-1+1+(G+1-(xs.length-1+1))=G+1 by omega,hh]at hs;rw[hs];have hz:iU xs d e (xs.length-1+1)=iU xs d e (xs.length-1):=am2 xs d e (xs.length-1) 1 (λj h1 h2=>by rw[show j=xs.length-1 by omega,hp]);have hb2:=aq9 xs d e (xs.length-1) _ (by rw[<-hz,hh];exact hmem);rw[D3 X8];rfl
 . rw[W2 hG]at hh hb;rw[hh];show T.tup [.int a,.int ((a::l).getD l.length 0)]=_;have:(if(a::l).getD l.length 0=((xs.length-1:Nat):Int)then(G:Int)else(a::l).getD l.length 0)=(a::l).getD l.length 0:=by
    split
    . next h=>rw[h];rw[h]at hb;omega
    . rfl
   rw[this]
def dm6(xs:ah)(d e:Int)(G:Nat)(h0:0<xs.length)(hh:iU xs d e (min (xs.length-1) G+1)=[]):iU xs d e (G+1)=[]:=by
 rcases Nat.lt_or_ge (xs.length-1) G with hG|hG
 . rw[W8 X8]at hh;have hp:pB xs d e (xs.length-1)=false:=by
    cases hp:pB xs d e (xs.length-1)with
    |false=>rfl
    |true=>obtain⟨l,h⟩:=ai4 hp;rw[hh]at h;simp at h
   have hs:=am2 xs d e (xs.length-1+1) (G+1-(xs.length-1+1)) (λj h1 h2=>by
    have:pB xs d e j=pB xs d e (xs.length-1):=by unfold pB;rw[W2 X8,Nat.min_self]
    rw[this,hp])
   rw[show xs.length-1+1+(G+1-(xs.length-1+1))=G+1 by omega,hh]at hs;exact hs
 . rw[W2 hG]at hh;exact hh
theorem de0(o:Bool)(xs:ah)(d e:Int)(G:Nat)(h0:xs≠[])(hx:xs.length<=1000)(hG:G<=1000):wE [.lst o (xs.map .int),.int d,.int e,.int G]=.ok (dt6 (iU xs d e (G+1))):=by
 unfold wE yW;have hl:0<xs.length:=U7.mpr h0;obtain⟨n,hn⟩:∃n,min (xs.length-1) G+1=n:=⟨_,rfl⟩;have e1:(if(G:Int)<(xs.length:Int)-1 then(G:Int)else(xs.length:Int)-1)+1=(n:Int):=by split<;>omega
 have k1:-(2^62)<=(n:Int)/\(n:Int)<2^62:=X8
 have k2:(fL 0 (n:Int).toNat).length<=sizeLine:=by rw[eC];exact uV X8
 have hc:cL (aJ 7) Ak9 (aU (aB 7)) [some (.lst o (xs.map .int)),some (.int d),some (.int e),some (.int G),some (.int ((xs.length:Int)-1)),none,none,none] (fL 0 (n:Int).toNat)=.ok ((iU xs d e n).map .int):=by
  unfold fL iU;rw[K1,J3];refine al9 λi hi=>?_;have hi:=G6.mp hi;have a1:=uO (xs:=xs) (i:=i) X8;have hp:pB xs d e i=decide ((if xs.getD i 0-d<0 then -(xs.getD i 0-d)else xs.getD i 0-d)<=e):=by unfold pB;rw[W8 X8]
  have z:(0:Int)+(i:Int)=(i:Int):=W7 _;refine⟨?_,λ_=>?_⟩
  . rw[hp];clear hp;walk_at "e"
  . clear hp;walk_at "e";rfl
 walk_at "e";have hlast:((xs.length:Int)-1)=((xs.length-1:Nat):Int):=X8
 cases hh:iU xs d e n with
 |nil=>rw[<-hn]at hh;have z1:=dm6 xs d e G hl hh;have z2:(((0:Nat):Int)==0)=true:=rfl;rw[z1];clear hh hn e1 hc z1 hlast;walk_at "e";rfl
 |cons a l=>
  rw[<-hn]at hh;rw[eg3 xs d e G hl a l hh];have q1:atI ((a::l).map T.int) 0=some (.int a):=gG (j:=0) rfl;have q2:atI ((a::l).map T.int) ((((a::l).map T.int).length:Int)-1)=some (.int ((a::l).getD l.length 0)):=by have:=uO (xs:=a::l) (i:=l.length) Y1;rw[B7,E1,show((l.length+1:Nat):Int)-1=(l.length:Int) by omega];exact this
  have q3:((((a::l).map T.int).length:Int)==0)=false:=by rw[B7,E1,G3];omega
  have q3':(((l.length+1:Nat):Int)==0)=false:=by rw[G3];omega
  have q4:(2:Nat)<=sizeLine:=Y2
  have q5:bF ((a::l).map T.int)=true:=qF _;clear hh hn e1 hc;generalize(a::l).map T.int=X at q1 q2 q3 q5⊢;generalize(a::l).getD l.length 0=z at q2⊢;cases hz:(z==((xs.length-1:Nat):Int))with
  |true=>have hz':z=((xs.length-1:Nat):Int):=eq_of_beq hz;rw[C7 hz'];clear hz';walk_at "e"
  |false=>
   have hz':¬z=((xs.length-1:Nat):Int):=by rw[G3]at hz;exact hz
   rw[D3 hz'];clear hz';walk_at "e"
theorem ay4{α:Type}{b:bq}{body:Fr->bR}{g r:α->T}{key:α->Str}{n:Str}(Iv:cm)
 (hs:∀a U,Iv U->∃ρ1,b (g a) U=some ρ1/\(((key a==n)=true/\body ρ1=.rt (r a))\/((key a==n)=false/\∃ρ2,body ρ1=.nx ρ2/\Iv ρ2))):
 ∀{l:List α}{U:Fr}{a0:α},Iv U->l.find? (λa=>key a==n)=some a0->cY b body (l.map g) U=.rt (r a0)
 |[],U,a0,_,h=>by simp at h
 |a::l,U,a0,hi,h=>by
  obtain⟨ρ1,h1,h2⟩:=hs a U hi;rw[List.find?_cons]at h;simp only[B9,cY,h1];rcases h2 with⟨k,h2⟩|⟨k,ρ2,h2,h3⟩
  . rw[k]at h;cases h;rw[h2]
  . rw[k]at h;rw[h2];exact ay4 Iv hs h3 h
theorem bm2{α:Type}{key:α->Str}:∀{l:List α}{a:α},(l.map key).Nodup->a∈l->l.find? (λx=>key x==key a)=some a
 |[],a,_,h=>by cases h
 |x::l,a,nd,h=>by
  rw[B9,E7]at nd;rw[List.find?_cons];rcases B6.mp h with rfl|h
  . simp
  . have:(key x==key a)=false:=by simp;intro e;exact nd.1 (by rw[e];exact N9 h)
    rw[this];exact bm2 nd.2 h
def ek4{f:Fm}(g:Gd f){p:Str×List Int}(hp:p∈f.i):gS [cB false f,.str p.1]=.ok (.lst true (p.2.map .int)):=by
 unfold gS lC;have fl:=ci4 false f;have n1:=nJ f.i;have key:∀o2 o3:Option T,cY (fO Ah1) (cI (bE (aF fI (aB 2) (aB 1))) (bH [] Ah4) bN) (f.i.map (gJ false)) [some (cB false f),some (.str p.1),o2,o3]=.rt (.lst true (p.2.map .int)):=λo2 o3=>by
  refine ay4 (key:=λq:Str×List Int=>q.1) (r:=λq:Str×List Int=>.lst true (q.2.map .int)) (λU=>∃o2 o3,U=[some (cB false f),some (.str p.1),o2,o3]) ?_ ⟨o2,o3,rfl⟩ (bm2 (key:=λq:Str×List Int=>q.1) g.ind hp);rintro a U ⟨o2,o3,rfl⟩;refine⟨[some (cB false f),some (.str p.1),some (.str a.1),some (.lst false (a.2.map .int))],rfl,?_⟩;cases e:(a.1==p.1)with
  |true=>exact .inl ⟨rfl,by walk_at "e"⟩
  |false=>exact .inr ⟨rfl,[some (cB false f),some (.str p.1),some (.str a.1),some (.lst false (a.2.map .int))],by walk_at "e",_,_,rfl⟩
 clear g;walk_at "e"
def bq9{f:Fm}(g:Gd f){p:cw}(hp:p∈f.r):lX [cB false f,.str p.1]=.ok (iL p):=by
 unfold lX oY;have fl:=bl5 false f;have n1:=mP f.r;have b0:=@kD T;have key:∀o2:Option T,cY (aJ 2) (cI (bE (aF fI Ai3 (aB 1))) (bH [] (aU (aB 2))) bN) (f.r.map iL) [some (cB false f),some (.str p.1),o2]=.rt (iL p):=λo2=>by
  refine ay4 (key:=λq:Str×Int×Int=>q.1) (r:=λq:Str×Int×Int=>iL q) (λU=>∃o2,U=[some (cB false f),some (.str p.1),o2]) ?_ ⟨o2,rfl⟩ (bm2 (key:=λq:Str×Int×Int=>q.1) g.rnd hp);rintro a U ⟨o2,rfl⟩;refine⟨[some (cB false f),some (.str p.1),some (iL a)],rfl,?_⟩;simp only[iL];cases e:(a.1==p.1)with
  |true=>exact .inl ⟨rfl,by walk_at "e"⟩
  |false=>exact .inr ⟨rfl,[some (cB false f),some (.str p.1),some (.tup [.str a.1,.int a.2.1,.int a.2.2])],by walk_at "e",_,rfl⟩
 clear g;walk_at "e"
def aq4(h1:1<=k)(h2:k<=l):oI [.int b,.int l,.int k]=.ok (.int (b+k-1)):=by unfold oI uB;have:=rG h1 h2;walk_at "e"
def wD(h1:-10000000<=i)(h2:i<=10000000):i.natAbs.log2<1920:=by
 by_cases e:i.natAbs=0
 . rw[e];decide
 . rw[Nat.log2_lt e];exact E5 (show i.natAbs<2^24 by omega) (Nat.pow_le_pow_right Y2 Y2)
def vY(h1:-1000000<=i)(h2:i<=1000000):(toString i:Str).length<=2000000:=by have:=PyProof.Rows.len_str_of_int i;omega
def kU{f:Fm}(g:Gd f){l:Nat}{n:Str}(h:f.n[l]?=some n):n.length<=2000000:=by have:=ak4 (g.nn n (C4 h));omega
def eL:(("letter":Str)=="letter")=true:=M4 _
def dy6(f:Fm):List Str->List T->Prop
 |[],[]=>True
 |d::ds,p::ps=>iA [cB false f,.str d,p]=.ok (.bl true)/\dy6 f ds ps
 |_,_=>False
theorem bo8:∀{ds:am}{ps:aw},dy6 f ds ps->∀(i:Nat)(d:Str)(p:T),ds[i]?=some d->ps[i]?=some p->iA [cB false f,.str d,p]=.ok (.bl true)
 |[],_,_,i,d,p,h,_=>by simp at h
 |_::_,[],h,_,_,_,_,_=>h.elim
 |d::ds,p::ps,h,0,_,_,e1,e2=>by cases e1;cases e2;exact h.1
 |d::ds,p::ps,h,i+1,_,_,e1,e2=>bo8 h.2 i _ _ e1 e2
def wF(g:Gd f)(nl:List (Str×Nat))(xs:am)(hk:kt_PARTS.lookup w=some (.tup (ds.map .str)))(hm:tb_MAKERS.lookup w=some F)(hl:ps.length=ds.length)(h4:ds.length<=4/\nl.length<=4/\xs.length<=4)(hp:bF ps=true)(hd:dy6 f ds ps)(hnl:∀p∈nl,f.n[p.2]?=some p.1)(hxb:∀y∈xs,y.length<=2000000)(h1:atI (ds.map .str) 1=some (T.str d1))
 (h2:(d1=="letter")=false\/((d1=="letter")=true/\∃a b:Str,atI ps 0=some (.str a)/\atI ps 1=some (.str b)/\(a==b)=false))
 (h7:∀a b d e h i:Option T,cL (fO (aY (aJ 7) (aY (aJ 8) fV))) Ak5 (aU (aB 7)) [a,b,d,e,h,i,none,none,none,none] (lG ps (ds.map .str))=.ok ((nl.map (·.1)).map .str))
 (hx:∀a:Option T,cL (aJ 1) cO (bX yY (aD (aB 1) aI)) [a,none] (.str w::ps)=.ok ((w::xs).map .str))
 (hF:∀x,mV (cF (bZ 10 [.ins true c [] [],cB false f,.str w,.lst false ps,.int lo,nV hi]))=.ok (gI true c (nl.map λp=>(p.2:Int)) lo hi x)->cK (gI true c (nl.map λp=>(p.2:Int)) lo hi x)=true->F [cB false f,.lst false ps]=.ok (gI true c (nl.map λp=>(p.2:Int)) lo hi x))
 (hc:autoParam (c∈kG) ZO)(hw:autoParam (w.length<=2000000) ZO):
 ∃x,dX [cB false f,.str w,.lst false ps]=.ok (gI true c (nl.map λp=>(p.2:Int)) lo hi x):=by
 obtain⟨x,e⟩:=en9 g hc (lo:=lo) (hi:=hi) hp X8 hk (lT ds) h7 h4.2.1 hnl hx h4.2.2 (P9.mpr ⟨hw,hxb⟩);have k:=bk8 c (nl.map λp=>(p.2:Int)) lo hi x;exact⟨x,dd4 hk hp (lT ds) (cu9 hk hp hl h4.1 (bo8 hd)) h1 h2 hm (hF x e k) k⟩
def al1{f:Fm}{l:Nat}{n:Str}(h:f.n[l]?=some n):∀p∈[(n,l)],f.n[p.2]?=some p.1:=P9.mpr ⟨h,nofun⟩
def al2{f:Fm}{l m:Nat}{n k:Str}(h:f.n[l]?=some n)(h':f.n[m]?=some k):∀p∈[(n,l),(k,m)],f.n[p.2]?=some p.1:=P9.mpr ⟨h,al1 h'⟩
def xl{a:Str}{xs:am}(h:a.length<=2000000)(k:∀y∈xs,y.length<=2000000):∀y∈a::xs,y.length<=2000000:=P9.mpr ⟨h,k⟩
def x0:∀y∈([]:List Str),y.length<=2000000:=nofun
def xn(g:Gd f)(h:oZ n=true):n.length<=2000000:=by have:=ak4 h;omega
local macro_rules | `(tactic| walk_at "7") => `(tactic| (intros; simp only [B9, K4, lG, List.zipWith_cons_cons, List.zipWith_nil_left, cL]; walk_at "e"))
local macro_rules | `(tactic| walk_at "x") => `(tactic| (intros; simp only [cL]; walk_at "e"))
def ba0{f:Fm}(g:Gd f){l:Nat}{n:Str}(h:f.n[l]?=some n){lo hi:Int}(h1:-4000<=lo)(h2:lo<=hi)(h3:hi<=4000):
 ∃x,dX [cB false f,.str "between",.lst false [.str n,.int lo,.int hi]]=.ok (gI true "Between" [(l:Int)] lo (some hi) x):=by
 have e1:=eL;have e2:=xX "year" X9;have g_lo:=wD (show -10000000<=lo by omega) X8;have g_hi:=wD (show -10000000<=hi by omega) X8;refine wF g (c:="Between") (d1:="year") [(n,l)] [n,toString lo,toString hi] cg5 cv5 rfl ⟨Y2,Y1,Y1⟩ rfl ⟨gZ (C4 h),sE X9 cn4 X8 X8,sE X9 cn4 X8 X8,trivial⟩ (al1 h) (xl (kU g h)<|xl (vY X8 X8)<|xl (vY X8 X8)<|x0) (jM _ _ _) (.inl e2) (by walk_at "7") (by walk_at "x") λx hx cs=>?_;unfold mX mR;have hm:yI [cB false f,.str "between",.lst false [.str n,.int lo,.int hi],.int lo,.int hi]=.ok (gI true "Between" [(l:Int)] lo (some hi) x):=hx;walk_at "B";have na:=iP f;have za:=jP false f;have k1:decide (hi<lo)=false:=D6 X8;clear hx;walk_at "e"
def dt4{f:Fm}(g:Gd f){l m:Nat}{n k:Str}(h:f.n[l]?=some n)(h':f.n[m]?=some k)(hne:(n==k)=false):
 ∃x,dX [cB false f,.str "after",.lst false [.str n,.str k]]=.ok (gI true "After" [(l:Int),(m:Int)] 1 none x):=by
 have e1:=eL;refine wF g (c:="After") (d1:="letter") [(n,l),(k,m)] [n,k] dp7 dj5 rfl ⟨Y2,Y1,Y1⟩ rfl ⟨gZ (C4 h),gZ (C4 h'),trivial⟩ (al2 h h') (xl (kU g h)<|xl (kU g h')<|x0) (jM _ _ _) (.inr ⟨e1,n,k,kD _ _,jM _ _ _,hne⟩) (by walk_at "7") (by walk_at "x") λx hx cs=>?_;unfold pE pI;have hm:av1 [cB false f,.str "after",.lst false [.str n,.str k],.int 1,.non]=.ok (gI true "After" [(l:Int),(m:Int)] 1 none x):=hx;walk_at "B";have na:=iP f;have za:=jP false f;clear hx;walk_at "e"
def ea4{f:Fm}(g:Gd f){l m:Nat}{n k:Str}(h:f.n[l]?=some n)(h':f.n[m]?=some k)(hne:(n==k)=false):
 ∃x,dX [cB false f,.str "same",.lst false [.str n,.str k]]=.ok (gI true "Same" [(l:Int),(m:Int)] 0 (some 0) x):=by
 have e1:=eL;refine wF g (c:="Same") (d1:="letter") [(n,l),(k,m)] [n,k] eb1 ez2 rfl ⟨Y2,Y1,Y1⟩ rfl ⟨gZ (C4 h),gZ (C4 h'),trivial⟩ (al2 h h') (xl (kU g h)<|xl (kU g h')<|x0) (jM _ _ _) (.inr ⟨e1,n,k,kD _ _,jM _ _ _,hne⟩) (by walk_at "7") (by walk_at "x") λx hx cs=>?_;unfold qM qV;have hm:ap3 [cB false f,.str "same",.lst false [.str n,.str k],.int 0,.int 0]=.ok (gI true "Same" [(l:Int),(m:Int)] 0 (some 0) x):=hx;walk_at "B";have na:=iP f;have za:=jP false f;clear hx;walk_at "e"
def cr9{f:Fm}(g:Gd f){l m:Nat}{n k:Str}(h:f.n[l]?=some n)(h':f.n[m]?=some k)(hne:(n==k)=false){hi:Int}(h1:0<=hi)(h2:hi<=300):
 ∃x,dX [cB false f,.str "within",.lst false [.str n,.str k,.int hi]]=.ok (gI true "Within" [(l:Int),(m:Int)] 0 (some hi) x):=by
 have e1:=eL;have e2:=xX "later" X9;have g_hi:=wD (show -10000000<=hi by omega) X8;refine wF g (c:="Within") (d1:="letter") [(n,l),(k,m)] [n,k,toString hi] cr8 dl1 rfl ⟨Y2,Y1,Y1⟩ rfl ⟨gZ (C4 h),gZ (C4 h'),sE X9 dc8 h1 h2,trivial⟩ (al2 h h') (xl (kU g h)<|xl (kU g h')<|xl (vY X8 X8)<|x0) (jM _ _ _) (.inr ⟨e1,n,k,kD _ _,jM _ _ _,hne⟩) (by walk_at "7") (by walk_at "x") λx hx cs=>?_;unfold nQ nX;have hm:aa0 [cB false f,.str "within",.lst false [.str n,.str k,.int hi],.int 0,.int hi]=.ok (gI true "Within" [(l:Int),(m:Int)] 0 (some hi) x):=hx;walk_at "B";have na:=iP f;have za:=jP false f;clear hx;walk_at "e"
def by9{f:Fm}(g:Gd f){l m:Nat}{n k:Str}(h:f.n[l]?=some n)(h':f.n[m]?=some k)(hne:(n==k)=false){lo hi:Int}(h1:-300<=lo)(h2:lo<=hi)(h3:hi<=300):
 ∃x,dX [cB false f,.str "apart",.lst false [.str n,.str k,.int lo,.int hi]]=.ok (gI true "Apart" [(l:Int),(m:Int)] lo (some hi) x):=by
 have e1:=eL;have e2:=xX "gap" X9;have g_lo:=wD (show -10000000<=lo by omega) X8;have g_hi:=wD (show -10000000<=hi by omega) X8;refine wF g (c:="Apart") (d1:="letter") [(n,l),(k,m)] [n,k,toString lo,toString hi] dk6 dj6 rfl ⟨Y2,Y1,Y1⟩ rfl ⟨gZ (C4 h),gZ (C4 h'),sE X9 ce9 X8 X8,sE X9 ce9 X8 X8,trivial⟩ (al2 h h') (xl (kU g h)<|xl (kU g h')<|xl (vY X8 X8)<|xl (vY X8 X8)<|x0) (jM _ _ _) (.inr ⟨e1,n,k,kD _ _,jM _ _ _,hne⟩) (by walk_at "7") (by walk_at "x") λx hx cs=>?_;unfold oR pH;have hm:ah2 [cB false f,.str "apart",.lst false [.str n,.str k,.int lo,.int hi],.int lo,.int hi]=.ok (gI true "Apart" [(l:Int),(m:Int)] lo (some hi) x):=hx;walk_at "B";have na:=iP f;have za:=jP false f;have k1:decide (hi<lo)=false:=D6 X8;clear hx;walk_at "e"
def dd6{f:Fm}(g:Gd f){l:Nat}{n:Str}(h:f.n[l]?=some n){p:cw}(hp:p∈f.r){k:Int}(h1:1<=k)(h2:k<=p.2.2):
 ∃x,dX [cB false f,.str "reign",.lst false [.str n,.str p.1,.int k]]=.ok (gI true "Reign" [(l:Int)] (p.2.1+k-1) (some (p.2.1+k-1)) x):=by
 have e1:=eL;have h100:=(g.rn p hp).2.2.2.2;have e2:=xX "reign" X9;have e3:=xX "place" X9;have g_k:=wD (show -10000000<=k by omega) X8;refine wF g (c:="Reign") (d1:="reign") [(n,l)] [n,p.1,toString k] df4 de7 rfl ⟨Y2,Y1,Y1⟩ rfl ⟨gZ (C4 h),br4 g (N9 hp),sE X9 dh4 h1 X8,trivial⟩ (al1 h) (xl (kU g h)<|xl (xn g (g.rn p hp).1)<|xl (vY X8 X8)<|x0) (jM _ _ _) (.inl e2) (by walk_at "7") (by walk_at "x") λx hx cs=>?_;unfold pP oW;have hm:aa2 [cB false f,.str "reign",.lst false [.str n,.str p.1,.int k],.int (p.2.1+k-1),.int (p.2.1+k-1)]=.ok (gI true "Reign" [(l:Int)] (p.2.1+k-1) (some (p.2.1+k-1)) x):=hx;walk_at "B";have na:=iP f;have za:=jP false f;have k1:=bq9 g hp;have k2:=aq4 (b:=p.2.1) h1 h2;simp only[iL]at k1;clear hx;walk_at "e"
def dm7{f:Fm}(g:Gd f){l:Nat}{n:Str}(h:f.n[l]?=some n){p:cw}(hp:p∈f.r):
 ∃x,dX [cB false f,.str "under",.lst false [.str n,.str p.1]]=.ok (gI true "Under" [(l:Int)] p.2.1 (some (p.2.1+p.2.2-1)) x):=by
 have e1:=eL;have e2:=xX "reign" X9;refine wF g (c:="Under") (d1:="reign") [(n,l)] [n,p.1] dk4 du7 rfl ⟨Y2,Y1,Y1⟩ rfl ⟨gZ (C4 h),br4 g (N9 hp),trivial⟩ (al1 h) (xl (kU g h)<|xl (xn g (g.rn p hp).1)<|x0) (jM _ _ _) (.inl e2) (by walk_at "7") (by walk_at "x") λx hx cs=>?_;unfold oS pO;have hm:ap1 [cB false f,.str "under",.lst false [.str n,.str p.1],.int p.2.1,.int (p.2.1+p.2.2-1)]=.ok (gI true "Under" [(l:Int)] p.2.1 (some (p.2.1+p.2.2-1)) x):=hx;walk_at "B";have na:=iP f;have za:=jP false f;have k1:=bq9 g hp;have k2:=aq4 (b:=p.2.1) (l:=p.2.2) (k:=p.2.2) (g.rn p hp).2.2.2.1 (U4 _);simp only[iL]at k1;clear hx;walk_at "e"
def dl5:hV "table" ["first","present","letters","inks","reigns"]=none:=X9
def ek3:tm_table.lookup ("Archive":Str)=some gS:=Y4
def cu6(ho:o U=.ok (cB b f))(hr:r U=.ok ts):jS 2 "table" tm_table o r U=tD 2 gS (cB b f::ts):=by simp only[jS,ho,hr,oQ,cB,dl5,ek3]
local macro_rules | `(tactic| walk_at "7") => `(tactic| (intros; simp only [B9, K4, lG, List.zipWith_cons_cons, List.zipWith_nil_left, cL]; walk_at "e"))
local macro_rules | `(tactic| walk_at "x") => `(tactic| (intros; simp only [cL]; walk_at "e"))
def ew8{f:Fm}(g:Gd f){l:Nat}{n:Str}(h:f.n[l]?=some n){p:Str×List Int}(hp:p∈f.i){d e:Int}(h1:0<=d)(h2:d<=1000000)(h3:0<=e)(h4:e<=1000000){a z:Int}{r:ah}(hh:iU p.2 d e (f.s.toNat+1)=a::r)(hz:(a::r).getD r.length 0=z):
 ∃x,dX [cB false f,.str "ink",.lst false [.str n,.str p.1,.int d,.int e]]=.ok (gI true "Ink" [(l:Int)] (f.a+f.s-z) (some (f.a+f.s-a)) x):=by
 have e1:=eL;have e2:=xX "ink" X9;have e3:=xX "dark" X9;have g_d:=wD (show -10000000<=d by omega) X8;have g_e:=wD (show -10000000<=e by omega) X8;refine wF g (c:="Ink") (d1:="ink") [(n,l)] [n,p.1,toString d,toString e] ei5 er4 rfl ⟨Y2,Y1,Y1⟩ rfl ⟨gZ (C4 h),eg1 g (N9 hp),sE X9 cg4 X8 X8,sE X9 cg4 X8 X8,trivial⟩ (al1 h) (xl (kU g h)<|xl (xn g (g.inn p hp).1)<|xl (vY X8 X8)<|xl (vY X8 X8)<|x0) (jM _ _ _) (.inl e2) (by clear hh hz;walk_at "7") (by clear hh hz;walk_at "x") λx hx cs=>?_;unfold uD tP;have hm:ao7 [cB false f,.str "ink",.lst false [.str n,.str p.1,.int d,.int e],.int (f.a+f.s-z),.int (f.a+f.s-a)]=.ok (gI true "Ink" [(l:Int)] (f.a+f.s-z) (some (f.a+f.s-a)) x):=hx;walk_at "B";have na:=iP f;have za:=jP false f;have fp:=am1 false f;have ff:=as1 false f;have ht:=ek4 g hp;have hA:wE [.lst false (p.2.map .int),.int d,.int e,.int (f.a+f.s-f.a)]=.ok (.tup [.int a,.int z]):=by have:=de0 false p.2 d e f.s.toNat (by have:=(g.inn p hp).2.l1;intro q;rw[q]at this;simp at this) (by have:=(g.inn p hp).2.l60;omega) (by have:=g.s1;omega);rw[hh]at this;simp only[dt6,hz]at this;rw[show f.a+f.s-f.a=(f.s.toNat:Int) by have:=g.s0;omega];exact this
 have hmt:jS 2 "table" tm_table (aB 0) (aD Ag1 aI) [some (cB false f),some (.lst false [.str n,.str p.1,.int d,.int e]),none]=.ok (.lst true (p.2.map .int)):=by rw[cu6 (b:=false) (f:=f) (ts:=[.str p.1]) rfl (by clear hA hm hx hh hz;walk_at "e")];clear hA hm hx hh hz;walk_at "e"
 clear hh hz;clear hx;walk_at "e"
def do8(c:Int)(m:Nat)(hm:m<=8):∃xs:List Int,rW [.int c,.int m]=.ok (.lst true (xs.map .int))/\xs.length=m/\∀x∈xs,0<=x:=by
 unfold rW zL;have ew:=cw3;have h60:as4 (.int 10) (.int 60)=.ok (.int 1000000000000000000000000000000000000000000000000000000000000):=by rw[bh0,gM (show am4 10 60 from⟨Y2,Y2,Y2⟩)];rfl
 have h18:as4 (.int 10) (.int 18)=.ok (.int 1000000000000000000):=by rw[bh0,gM (show am4 10 18 from⟨Y2,Y2,Y2⟩)];rfl
 walk_at "e";generalize hL:cY _ _ _ _=o;obtain⟨ρ',rfl,xs,r,o4,rfl,xl,xb,hr⟩:=fY (λi U=>∃(xs:ah)(r:Int)(o4:be),U=[some (.int c),some (.int m),some (.int r),some (.lst true (xs.map .int)),o4]/\xs.length=i/\(∀x∈xs,0<=x)/\0<=r) hL ⟨[],_,_,rfl,rfl,dN,G4 _ Y2⟩ (by
  rintro i t U et ⟨xs,r,o4,rfl,xl,xb,hr⟩;obtain⟨hi,rfl⟩:=mL et;have hl:xs.length<=100000:=X8
  clear hL et;by_cases hA:c<0\/1000000000000000000<=c
  . have k:(decide (c<0)||decide (1000000000000000000<=c))=true:=by simpa using hA
    cases h1:decide (c<0)with
    |true=>walk_at "e";exact⟨xs++[r%10007],_,_,by rw[F7];rfl,by simp[xl],λx hx=>(A6.mp hx).elim (xb x) (λq=>by rw[C3.mp q];exact G4 _ Y2),X8⟩
    |false=>
     have h2:decide (1000000000000000000<=c)=true:=by rw[h1]at k;simpa using k
     walk_at "e";exact⟨xs++[r%10007],_,_,by rw[F7];rfl,by simp[xl],λx hx=>(A6.mp hx).elim (xb x) (λq=>by rw[C3.mp q];exact G4 _ Y2),X8⟩
  . have h1:decide (c<0)=false:=D6 X8;have h2:decide (1000000000000000000<=c)=false:=D6 X8;walk_at "e";exact⟨xs++[jG (jG c (0+(i:Int))+c) (0+(i:Int))],_,_,by rw[F7];rfl,by simp[xl],λx hx=>(A6.mp hx).elim (xb x) (λq=>by rw[C3.mp q];exact(bh2 _ _).1),hr⟩)
 rw[eC]at xl;refine⟨xs,?_,X8,xb⟩;clear hL;walk_at "e"
def dc3(c:Int)(g:Gd f):∃ys:List Int,tS [.int c,iD false f]=.ok (.lst true (ys.map .int))/\ys.length=f.n.length/\∀y∈ys,f.a<=y/\y<=f.a+f.s:=by
 obtain⟨xs,h1,h2,h3⟩:=do8 c f.n.length g.n8;have hs:=g.s0;have hm:0<f.a+f.s-f.a+1:=X8
 refine⟨xs.map λx=>f.a+x%(f.a+f.s-f.a+1),?_,by simp[h2],λy hy=>?_⟩
 . unfold tS sO;have hx:xs.length<=100000:=by have:=g.n8;omega
   have hc:cL (aJ 2) cO (aF bS Ag5 (aF cN (aB 2) Al3)) [some (.int c),some (iD false f),none] (xs.map .int)=.ok ((xs.map λx=>f.a+x%(f.a+f.s-f.a+1)).map .int):=by rw[J3];refine eO λx _=>?_;simp only[iD];have b0:=@kD T;have b1:=@jM T;clear h1 h2 h3;walk_at "e";rfl
   have b2:=@rO T;simp only[iD]at hc⊢;clear h2 h3;walk_at "e"
 . obtain⟨x,_,rfl⟩:=K8.mp hy;have:=G4 x (show f.a+f.s-f.a+1≠0 by omega);have:=J8 x hm;omega
structure Sd where
 word:Str
 cls:Str
 parts:List T
 ls:List Nat
 lo:Int
 hi:Option Int
def iF(o:Bool)(s:Sd):T:=.tup [.str s.word,.lst o s.parts,.tup (s.ls.map λ(l:Nat)=>T.int (l:Int)),.tup [.int s.lo,nV s.hi]]
structure SdOk (f:Fm) (s:Sd):Prop where
 np:bF s.parts=true
 cp:dI s.parts=true
 c8:s.cls∈kG
 l12:s.ls.length=1\/s.ls.length=2
 lb:∀l∈s.ls,l<f.n.length
 made:∃x,dX [cB false f,.str s.word,.lst false s.parts]=.ok (gI true s.cls (s.ls.map λ(l:Nat)=>(l:Int)) s.lo s.hi x)
def lb1{i n:Nat}(h:i<n):∀l∈[i],l<n:=λl q=>by rw[C3.mp q];exact h
def lb2{i j n:Nat}(h:i<n)(k:j<n):∀l∈[i,j],l<n:=λl q=>by
 rcases B6.mp q with rfl|q
 . exact h
 . rw[C3.mp q];exact k
def eo7:("Ink":Str)∈kG:=X9
def dg4:("Reign":Str)∈kG:=X9
def dx7:("Under":Str)∈kG:=X9
def ai9:("Between":Str)∈kG:=X9
def du3:("After":Str)∈kG:=X9
def ed3:("Same":Str)∈kG:=X9
def cn8:("Within":Str)∈kG:=X9
def cm0:("Apart":Str)∈kG:=X9
def am0{f:Fm}{k:Nat}(h:k<f.n.length):∃n,f.n[k]?=some n/\atI (f.n.map T.str) (k:Int)=some (.str n):=
 ⟨f.n[k],A2 h,gG (by simp[h])⟩
def dt1{xs:ah}{k:Nat}(h:k<xs.length):∃v∈xs,atI (xs.map T.int) (k:Int)=some (.int v):=
 ⟨xs[k],L8 h,gG (by simp[h])⟩
theorem ex6{xs:ah}(h:xs.length=6)(hb:∀x∈xs,0<=x):∃a b c d e g:Int,xs.map T.int=[.int a,.int b,.int c,.int d,.int e,.int g]/\0<=a/\0<=b/\0<=c/\0<=d/\0<=e/\0<=g:=by
 match xs,h with
 |[a,b,c,d,e,g],_=>exact⟨a,b,c,d,e,g,rfl,hb a Y1,hb b Y1,hb c Y1,hb d Y1,hb e Y1,hb g Y1⟩
def dp9{f:Fm}(g:Gd f){i j:Nat}{n k:Str}(h1:f.n[i]?=some n)(h2:f.n[j]?=some k)(h:i≠j):(n==k)=false:=by simp;rintro rfl;obtain⟨a1,a2⟩:=C8.mp h1;obtain⟨b1,b2⟩:=C8.mp h2;exact h ((List.getElem_inj g.nd).mp (a2.trans b2.symm))
def ea8{f:Fm}(g:Gd f){a b c d e w:Int}(hc:0<=c)(hd:0<=d)(he:0<=e){i j:Nat}(hi:i<f.n.length)(hj:j<f.n.length):∃s,tT [.lst false [.int a,.int b,.int c,.int d,.int e,.int w],iD false f,.int i,.int j]=.ok (iF true s)/\SdOk f s:=by
 obtain⟨n,hn,an⟩:=am0 hi;obtain⟨k,hk,ak⟩:=am0 hj;unfold tT wY;walk_at "B";have b4:=@ix4 T;have s0:=g.s0;have s1:=g.s1;have f0:=g.f0;have f1:=g.f1;have m1:0<f.a+f.s-f.a+61:=X8
 have m2:=G4 d (show f.a+f.s-f.a+61≠0 by omega);have m3:=J8 d m1;simp only[iD];by_cases q:i=j\/c%2=0
 . have k0:(((i:Int)==(j:Int))||(c%2==0))=true:=by
    rcases q with q|q
    . subst q;simp
    . simp[q]
   obtain⟨x,hx⟩:=ba0 g hn (lo:=f.a-30+d%(f.a+f.s-f.a+61)) (hi:=f.a-30+d%(f.a+f.s-f.a+61)+e%40) X8 X8 X8;refine⟨⟨"between","Between",[.str n,.int (f.a-30+d%(f.a+f.s-f.a+61)),.int (f.a-30+d%(f.a+f.s-f.a+61)+e%40)],[i],f.a-30+d%(f.a+f.s-f.a+61),some (f.a-30+d%(f.a+f.s-f.a+61)+e%40)⟩,?_,⟨rfl,rfl,ai9,.inl rfl,lb1 hi,x,hx⟩⟩;have ct:eR [T.str n,T.str k] none (some 1)=[T.str n]:=ar0 [T.str n,T.str k] 1;clear hx hn hk;cases h1:((i:Int)==(j:Int))with
   |true=>walk_at "e";rfl
   |false=>
    have h2:(c%2==0)=true:=by rw[h1]at k0;simpa using k0
    walk_at "e";rfl
 . have h1:((i:Int)==(j:Int))=false:=by simp;omega
   have h2:(c%2==0)=false:=by simp;omega
   have hne:=dp9 g hn hk X8;obtain⟨x,hx⟩:=by9 g hn hk hne (lo:=d%601-300) (hi:=if d%601-300+e%40<300 then d%601-300+e%40 else 300) X8 (by split<;>omega) (by split<;>omega);refine⟨⟨"apart","Apart",[.str n,.str k,.int (d%601-300),.int (if d%601-300+e%40<300 then d%601-300+e%40 else 300)],[i,j],d%601-300,some (if d%601-300+e%40<300 then d%601-300+e%40 else 300)⟩,?_,⟨rfl,rfl,cm0,.inr rfl,lb2 hi hj,x,hx⟩⟩;clear hx hn hk;walk_at "e";rfl
def bs7(f:Fm):aP (iD false f) (.int 0)=.ok (.int f.a)/\aP (iD false f) (.int 1)=.ok (.int (f.a+f.s))/\aP (iD false f) (.int 2)=.ok (.lst false (f.n.map .str))/\aP (iD false f) (.int 3)=.ok (.lst false (f.i.map (gJ false)))/\aP (iD false f) (.int 4)=.ok (.lst false (f.r.map iL)):=by simp only[iD,cs5,kD,jM,rO,yK,ix4];exact⟨trivial,trivial,trivial,trivial,trivial⟩
theorem da8{f:Fm}(g:Gd f){num gap:Int}(hn0:0<=num){i j:Nat}(hi:i<f.n.length)(hj:j<f.n.length)(hij:i≠j)(g0:-300<=gap)(g1:gap<=300):∃s,oA [.int num,iD false f,.tup [.int i,.int j],.int gap]=.ok (iF true s)/\SdOk f s:=by
 obtain⟨n,hn,an⟩:=am0 hi;obtain⟨k,hk,ak⟩:=am0 hj;have hne:=dp9 g hn hk hij;unfold oA tH;have b2:=(bs7 f).2.2.1;obtain⟨x1,hx1⟩:=ea4 g hn hk hne;obtain⟨x2,hx2⟩:=dt4 g hn hk hne;have hc:∀q1 q2 q3 q4 q5:Option T,cL (aJ 9) cO (aU (aF aP Ag0 (aB 9))) [some (.int num),some (iD false f),some (.tup [.int i,.int j]),some (.int gap),q1,q2,q3,q4,q5,none] [.int i,.int j]=.ok [.str n,.str k]:=by intros;simp only[cL];walk_at "e"
 have z1:=G4 (num/4) (show(4:Int)≠0 by decide);have tA:∀a1 a2 l,kF (bE (aF fI (aB 3) Al9)) Ak0 (some (.int num)::a1::a2::some (.int gap)::l)=.ok (gap==0&&num%4==0):=λa1 a2 l=>by cases h:(gap==0)<;>walk_at "e"
 have tB:∀a1 a2 l,kF Al8 (bE (aF ltT Ag3 Am1)) (some (.int num)::a1::a2::some (.int gap)::l)=.ok (decide (0<gap)&&decide (num%4<2)):=λa1 a2 l=>by cases h:decide (0<gap)<;>walk_at "e"
 have tC:∀a1 a2 l,kF (bE (aF geT (aB 3) Al9)) (bE (aF fI Ag3 Am1)) (some (.int num)::a1::a2::some (.int gap)::l)=.ok (decide (0<=gap)&&num%4==2):=λa1 a2 l=>by cases h:decide (0<=gap)<;>walk_at "e"
 generalize kF (bE (aF fI (aB 3) Al9)) Ak0=ZA at*;generalize kF Al8 (bE (aF ltT Ag3 Am1))=ZB at*;generalize kF (bE (aF geT (aB 3) Al9)) (bE (aF fI Ag3 Am1))=ZC at*;cases hA:(gap==0&&num%4==0)with
 |true=>refine⟨⟨"same","Same",[.str n,.str k],[i,j],0,some 0⟩,?_,⟨rfl,rfl,ed3,.inr rfl,lb2 hi hj,x1,hx1⟩⟩;rw[hA]at tA;clear hx1 hx2 hn hk hA tB tC;walk_at "e";rfl
 |false=>
  rw[hA]at tA;cases hB:(decide (0<gap)&&decide (num%4<2))with
  |true=>refine⟨⟨"after","After",[.str n,.str k],[i,j],1,none⟩,?_,⟨rfl,rfl,du3,.inr rfl,lb2 hi hj,x2,hx2⟩⟩;rw[hB]at tB;clear hx1 hx2 hn hk hA hB tC;walk_at "e";rfl
  |false=>
   rw[hB]at tB;cases hC:(decide (0<=gap)&&num%4==2)with
   |true=>have c0:0<=gap:=of_decide_eq_true (Bool.and_eq_true_iff.mp hC).1;obtain⟨x3,hx3⟩:=cr9 g hn hk hne (hi:=if gap+num/4%4<300 then gap+num/4%4 else 300) (by split<;>omega) (by split<;>omega);refine⟨⟨"within","Within",[.str n,.str k,.int (if gap+num/4%4<300 then gap+num/4%4 else 300)],[i,j],0,some (if gap+num/4%4<300 then gap+num/4%4 else 300)⟩,?_,⟨rfl,rfl,cn8,.inr rfl,lb2 hi hj,x3,hx3⟩⟩;rw[hC]at tC;clear hx1 hx2 hx3 hn hk hA hB hC;walk_at "e";rfl
   |false=>obtain⟨x4,hx4⟩:=by9 g hn hk hne (lo:=if gap-num/4%6>-300 then gap-num/4%6 else -300) (hi:=if gap+num/4/6%6<300 then gap+num/4/6%6 else 300) (by split<;>omega) (by split<;>split<;>omega) (by split<;>omega);refine⟨⟨"apart","Apart",[.str n,.str k,.int (if gap-num/4%6>-300 then gap-num/4%6 else -300),.int (if gap+num/4/6%6<300 then gap+num/4/6%6 else 300)],[i,j],if gap-num/4%6>-300 then gap-num/4%6 else -300,some (if gap+num/4/6%6<300 then gap+num/4/6%6 else 300)⟩,?_,⟨rfl,rfl,cm0,.inr rfl,lb2 hi hj,x4,hx4⟩⟩;rw[hC]at tC;clear hx1 hx2 hx4 hn hk hA hB hC;walk_at "e";rfl
def ap5{a:Int}{n:Nat}(h:0<n):0<=a%(n:Int)/\a%(n:Int)<n:=⟨G4 _ X8,J8 _ X8⟩
def ez6{α:Type}{g:α->T}{l:List α}(h:0<l.length)(a:Int):∃p∈l,atI (l.map g) (a%(l.length:Int))=some (g p):=by
 obtain⟨h0,h1⟩:=ap5 (a:=a) h;obtain⟨k,hk⟩:=uS h0;rw[hk]at h1⊢;have hk':k<l.length:=X8
 exact⟨l[k],L8 hk',gG (by simp[hk'])⟩
def cz4{xs:ah}(h:0<xs.length){a:Int}(ha:0<=a):atI (xs.map T.int) (if(xs.length:Int)-1<a then(xs.length:Int)-1 else a)=some (.int (xs.getD (min a.toNat (xs.length-1)) 0)):=by
 have e:(if(xs.length:Int)-1<a then(xs.length:Int)-1 else a)=((min a.toNat (xs.length-1):Nat):Int):=by split<;>omega
 rw[e];exact uO X8
def db7{xs:ah}{d e:Int}{n j:Nat}(hj:j<n)(h:pB xs d e j=true):(j:Int)∈iU xs d e n:=by unfold iU;exact K8.mpr ⟨j,W9.mpr ⟨G6.mpr hj,h⟩,rfl⟩
def dq3{f:Fm}(g:Gd f){num y:Int}(hn0:0<=num){i:Nat}(hi:i<f.n.length)(y0:f.a<=y)(y1:y<=f.a+f.s):∃s,oC [.int num,iD false f,.int i,.int y]=.ok (iF true s)/\SdOk f s:=by
 obtain⟨n,hn,an⟩:=am0 hi;unfold oC sN;walk_at "B";have b4:=@ix4 T;have s0:=g.s0;have s1:=g.s1;have f0:=g.f0;have f1:=g.f1;obtain⟨m0,m1,m2,m3,m4⟩:=bs7 f;by_cases c0:num%4=0
 . have h0:(num%4==0)=true:=by simp[c0]
   clear c0;obtain⟨p,hp,ap⟩:=ez6 (g:=gJ false) (l:=f.i) (by have:=g.i1;omega) (num/4);obtain⟨t1,t60,tb,tf⟩:=(g.inn p hp).2;have hlen:0<(f.i.length:Int):=by have:=g.i1;omega
   obtain⟨er,her⟩:∃er,num/4/2%5=er:=⟨_,rfl⟩;have e0:0<=er/\er<5:=X8
   have ix:=cz4 (xs:=p.2) t1 (a:=f.a+f.s-y) X8;have er1:0<2*er+1:=X8
   have z1:=G4 (num/4/10) (show 2*er+1≠0 by omega);have z2:=J8 (num/4/10) er1;obtain⟨D,hD⟩:∃D,p.2.getD (min (f.a+f.s-y).toNat (p.2.length-1)) 0=D:=⟨_,rfl⟩;have dB:0<=D/\D<=408:=by rw[<-hD,A4,A2 (show min (f.a+f.s-y).toNat (p.2.length-1)<p.2.length by omega)];exact tb _ (L8 _)
   obtain⟨dk,hdk⟩:∃dk,(if D+num/4/10%(2*er+1)-er>0 then D+num/4/10%(2*er+1)-er else 0)=dk:=⟨_,rfl⟩;have dkB:0<=dk/\dk<=412/\D-dk<=er/\dk-D<=er:=by rw[<-hdk];split<;>omega
   rw[hD]at ix;simp only[gJ]at ap;have pin:pB p.2 dk er (f.a+f.s-y).toNat=true:=by unfold pB;rw[hD];exact E8 (by split<;>omega)
   have hmem:=db7 (n:=f.s.toNat+1) X8 pin;obtain⟨a,r,hh⟩:∃a r,iU p.2 dk er (f.s.toNat+1)=a::r:=by
    cases q:iU p.2 dk er (f.s.toNat+1)with
    |nil=>rw[q]at hmem;cases hmem
    |cons a r=>exact⟨a,r,rfl⟩
   have hdm:dk<=1000000:=X8
   obtain⟨x,hx⟩:=ew8 g hn hp (d:=dk) (e:=er) X8 hdm X8 X8 hh rfl;refine⟨⟨"ink","Ink",[.str n,.str p.1,.int dk,.int er],[i],f.a+f.s-(a::r).getD r.length 0,some (f.a+f.s-a)⟩,?_,⟨rfl,rfl,eo7,.inl rfl,lb1 hi,x,hx⟩⟩;have rg:-(2^62)<=f.a+f.s-f.a+1/\f.a+f.s-f.a+1<2^62:=X8
   clear hx hn hmem pin hD tb tf;walk_at "e";generalize hL:cY _ _ _ _=o;obtain⟨ρ',rfl,o11,rfl⟩:=fY (λj U=>∃(o11:be),U=[some (.int num),some (iD false f),some (.int i),some (.int y),some (.str n),some (.int (num/4)),some (.str p.1),some (.lst false (p.2.map .int)),some (.int er),some (.int dk),some (.lst true ((iU p.2 dk er j).map .int)),o11,none,none,none,none,none,none]) hL ⟨_,rfl⟩ (by
    rintro j t U et ⟨o11,rfl⟩;obtain⟨hj,rfl⟩:=mL et;have ixj:=cz4 (xs:=p.2) t1 (a:=0+(j:Int)) X8;rw[show(0+(j:Int)).toNat=j by omega]at ixj;have hl:(iU p.2 dk er j).length<=100000:=by unfold iU;rw[B7];exact J2 (List.length_filter_le _ _) (by rw[P7];omega)
    have hsucc:=rQ p.2 dk er j;clear hL et hh hdk ix;cases hB:pB p.2 dk er j with
    |true=>rw[C7 hB]at hsucc;unfold pB at hB;clear hsucc;walk_at "e";refine⟨some (.int (0+(j:Int))),?_⟩;rw[rQ,C7 (show pB p.2 dk er j=true from hB),F7,show(0+(j:Int))=(j:Int) by omega];rfl
    |false=>unfold pB at hB;clear hsucc;walk_at "e";refine⟨some (.int (0+(j:Int))),?_⟩;rw[rQ,D3 (by rw[show pB p.2 dk er j=false from hB];decide),K0])
   rw[eC,show(f.a+f.s-f.a+1).toNat=f.s.toNat+1 by omega,hh];clear hL hh hdk;have ae:=dz6 (a:=a) (l:=r);simp only[B9]at ae⊢;walk_at "e";rfl
 . have h0:(num%4==0)=false:=by simpa using c0
   clear c0;have hlen:0<(f.r.length:Int):=by have:=g.r1;omega
   obtain⟨k0,k1⟩:=ap5 (a:=num/4/2) (n:=f.r.length) X8;obtain⟨kn,hkn⟩:=uS k0;have hk':kn<=f.r.length:=X8
   have c1:eR (f.r.map iL) (some (num/4/2%(f.r.length:Int))) none=(f.r.drop kn).map iL:=by rw[hkn,cb0 _ _ (by simpa using hk'),List.map_drop]
   have c2:eR (f.r.map iL) none (some (num/4/2%(f.r.length:Int)))=(f.r.take kn).map iL:=by rw[hkn,ar0,V7]
   have n1:=mP;have z1:=uQ;have l1:(f.r.drop kn).length+(f.r.take kn).length<=100000:=by have:=g.r8;simp;omega
   have mA:=(F7 (f:=iL) (l₁:=f.r.drop kn) (l₂:=f.r.take kn)).symm;clear hkn k0 k1;have hmem:∀q∈f.r.drop kn++f.r.take kn,q∈f.r:=λq hq=>(A6.mp hq).elim List.mem_of_mem_drop M8;walk_at "e";generalize hL:cY _ _ _ _=o;have hx:=bp5 (λ_ U=>∃(o13 o14 o15:be),U=[some (.int num),some (iD false f),some (.int i),some (.int y),some (.str n),some (.int (num/4)),none,none,none,none,none,none,some (.int (num/4/2%(f.r.length:Int))),o13,o14,o15,none,none]) (λ_=>False) (λt=>∃s,t=iF true s/\SdOk f s) hL ⟨_,_,_,rfl⟩ (by
    rintro j t U et ⟨o13,o14,o15,rfl⟩;rw[E3]at et;cases eq:(f.r.drop kn++f.r.take kn)[j]? with
    |none=>rw[eq]at et;cases et
    |some q=>
     rw[eq]at et;have et:=(E9 et).symm;subst et;have hq:=hmem q (C4 eq);obtain⟨_,r1,r2,r3,r4⟩:=g.rn q hq;simp only[iL];clear hL c1 c2 mA n1 z1 l1 hmem eq;by_cases t1:num%4=1
     . have e1:(num%4==1)=true:=by simp[t1]
       clear t1;by_cases t2:q.2.1<=y/\y<q.2.1+q.2.2
       . have e2:decide (q.2.1<=y)=true:=E8 t2.1;have e3:decide (y<q.2.1+q.2.2)=true:=E8 t2.2;cases e4:(num/4%2==0)with
         |true=>obtain⟨x,hx⟩:=dd6 g hn hq (k:=y-q.2.1+1) X8 X8;rw[show q.2.1+(y-q.2.1+1)-1=y by omega]at hx;clear t2 hn;walk_at "e";exact⟨⟨"reign","Reign",[.str n,.str q.1,.int (y-q.2.1+1)],[i],y,some y⟩,rfl,⟨rfl,rfl,dg4,.inl rfl,lb1 hi,x,hx⟩⟩
         |false=>obtain⟨x,hx⟩:=dm7 g hn hq;clear t2 hn;walk_at "e";exact⟨⟨"under","Under",[.str n,.str q.1],[i],q.2.1,some (q.2.1+q.2.2-1)⟩,rfl,⟨rfl,rfl,dx7,.inl rfl,lb1 hi,x,hx⟩⟩
       . by_cases t3:q.2.1<=y
         . have e2:decide (q.2.1<=y)=true:=E8 t3;have e3:decide (y<q.2.1+q.2.2)=false:=D6 X8;clear t2 t3 hn;walk_at "e";exact⟨_,_,_,rfl⟩
         . have e2:decide (q.2.1<=y)=false:=D6 t3;clear t2 t3 hn;walk_at "e";exact⟨_,_,_,rfl⟩
     . have e1:(num%4==1)=false:=by simpa using t1
       clear t1 hn;walk_at "e";exact⟨_,_,_,rfl⟩)
   rcases hx with⟨ρ',rfl,(⟨o13,o14,o15,rfl⟩|h)⟩|⟨t,rfl,s,rfl,hs⟩
   . obtain⟨x,hx⟩:=ba0 g hn (lo:=if y-num/4%9>-4000 then y-num/4%9 else -4000) (hi:=if y+num/4/9%9<4000 then y+num/4/9%9 else 4000) (by split<;>omega) (by split<;>split<;>omega) (by split<;>omega);refine⟨⟨"between","Between",[.str n,.int (if y-num/4%9>-4000 then y-num/4%9 else -4000),.int (if y+num/4/9%9<4000 then y+num/4/9%9 else 4000)],[i],if y-num/4%9>-4000 then y-num/4%9 else -4000,some (if y+num/4/9%9<4000 then y+num/4/9%9 else 4000)⟩,?_,⟨rfl,rfl,ai9,.inl rfl,lb1 hi,x,hx⟩⟩;clear hL c1 c2 mA n1 z1 l1 hmem hx hn;walk_at "e";rfl
   . exact h.elim
   . exact⟨s,rfl,hs⟩
def ix5{α:Type}(a b c d e g:α)(l:List α):atI (a::b::c::d::e::g::l) 5=some g:=gG (j:=5) rfl
def aq2{f:Fm}{s:Sd}(h:SdOk f s):cK (iF true s)=true:=by have q:dI (s.ls.map λ(l:Nat)=>T.int (l:Int))=true:=kX Ao8 _;simp only[iF,cK,dI,h.cp,q,ag7,J4]
abbrev zT:Fr->Res Bool:=kF (eS (aB 2)) Ak4
abbrev zF:Fr->bR:=(cI zT (iX 6 [] cG (aW 4 tT (aD (aB 8) (aD (aB 1) (aD (aB 9) (aD (aB 11) aI)))))) (cI Ai5 (iX 6 [] cG (aW 4 oC Aj7)) (iX 6 [] cG (aW 4 oA Ah3))))
def ev6(f:Fm):frz (iD false f)=iD false f:=by simp only[iD,frz,frzs,yS,rV,uQ]
theorem ej3{f:Fm}(g:Gd f){fl:Bool}{a b c d e w:Int}(hc:0<=c)(hd:0<=d)(he:0<=e){i j:Nat}(hi:i<f.n.length)(hj:j<f.n.length)(hij:¬f.n.length=1->i≠j){ys:ah}(yl:ys.length=f.n.length)(yb:∀y∈ys,f.a<=y/\y<=f.a+f.s){ss:List Sd}(hsl:ss.length<=100000)(a0 a3 a5 a7 a12:be):
 ∃s,SdOk f s/\zF [a0,some (iD false f),some (.bl fl),a3,some (.int f.n.length),a5,some (.lst true (ss.map (iF true))),a7,some (.lst true [.int a,.int b,.int c,.int d,.int e,.int w]),some (.int i),some (.lst true (ys.map .int)),some (.int j),a12]=.nx [a0,some (iD false f),some (.bl fl),a3,some (.int f.n.length),a5,some (.lst true ((ss++[s]).map (iF true))),a7,some (.lst true [.int a,.int b,.int c,.int d,.int e,.int w]),some (.int i),some (.lst true (ys.map .int)),some (.int j),a12]:=by
 have b2:=@rO T;have b3:=@yK T;have b5:=@ix5 T;have zf:=ev6 f;have s1:=g.s1;have tst:zT [a0,some (iD false f),some (.bl fl),a3,some (.int f.n.length),a5,some (.lst true (ss.map (iF true))),a7,some (.lst true [.int a,.int b,.int c,.int d,.int e,.int w]),some (.int i),some (.lst true (ys.map .int)),some (.int j),a12]=.ok (fl&&(w%8==5)):=by cases fl<;>walk_at "e"
 obtain⟨yi,hyi,ai⟩:=dt1 (xs:=ys) (k:=i) X8;obtain⟨yj,hyj,aj⟩:=dt1 (xs:=ys) (k:=j) X8;have yi2:=yb yi hyi;have yj2:=yb yj hyj;unfold zF;generalize zT=Z at*;clear yb hyi hyj;simp only[F7,B9,K4];cases h8:(fl&&(w%8==5))with
 |true=>obtain⟨s,hF,hs⟩:=ea8 g (a:=a) (b:=b) (w:=w) hc hd he hi hj;refine⟨s,hs,?_⟩;have ccs:=aq2 hs;rw[h8]at tst;clear h8 hs hij yi2 yj2 ai aj;walk_at "e"
 |false=>
  rw[h8]at tst;by_cases hm1:f.n.length=1\/c%5<2
  . obtain⟨s,hF,hs⟩:=dq3 g hd hi yi2.1 yi2.2;refine⟨s,hs,?_⟩;have ccs:=aq2 hs;by_cases hm:f.n.length=1
    . have t1:((f.n.length:Int)==1)=true:=by simp[hm]
      clear h8 hs hij yi2 yj2 aj hm1 hm;walk_at "e"
    . have t1:((f.n.length:Int)==1)=false:=by simp;omega
      have t2:decide (c%5<2)=true:=E8 (hm1.resolve_left hm);clear h8 hs hij yi2 yj2 aj hm1 hm;walk_at "e"
  . have t1:((f.n.length:Int)==1)=false:=by simp;omega
    have t2:decide (c%5<2)=false:=D6 λq=>hm1 (.inr q);obtain⟨s,hF,hs⟩:=da8 g (gap:=yi-yj) hd hi hj (hij λq=>hm1 (.inl q)) X8 X8;refine⟨s,hs,?_⟩;have ccs:=aq2 hs;clear h8 hs hij yi2 yj2 hm1;walk_at "e"
def da1{f:Fm}(g:Gd f)(cs:ah)(hcs:cs.length<=100)(fl:Bool)(hid:ah)(hl:hid.length=f.n.length)(hb:∀y∈hid,f.a<=y/\y<=f.a+f.s):
 ∃ss:List Sd,qY [.lst false (cs.map .int),iD false f,.bl fl,.lst false (hid.map .int)]=.ok (.lst true (ss.map (iF true)))/\ss.length=cs.length/\∀s∈ss,SdOk f s:=by
 unfold qY qL;have b0:=@kD T;have b1:=@jM T;have b4:=@ix4 T;have b5:=@ix5 T;obtain⟨f0,f1,f2,_⟩:=bs7 f;have s0:=g.s0;have n1:=g.n1;have n8:=g.n8;walk_at "e";generalize hL:cY _ _ _ _=o;obtain⟨ρ',rfl,ss,o7,o8,o9,o10,o11,o12,rfl,sl,sb⟩:=fY (λj U=>∃(ss:List Sd)(o7 o8 o9 o10 o11 o12:be),U=[some (.lst false (cs.map .int)),some (iD false f),some (.bl fl),some (.lst false (hid.map .int)),some (.int f.n.length),some (.int (f.a+f.s-f.a)),some (.lst true (ss.map (iF true))),o7,o8,o9,o10,o11,o12]/\ss.length=j/\∀s∈ss,SdOk f s) hL ⟨[],_,_,_,_,_,_,rfl,rfl,dN⟩ (by
  rintro j0 t U et ⟨ss,o7,o8,o9,o10,o11,o12,rfl,sl,sb⟩;rw[E3]at et;cases eq:cs[j0]? with
  |none=>rw[eq]at et;cases et
  |some cell=>
   rw[eq]at et;have et:=(E9 et).symm;subst et;have hj0:j0<cs.length:=(C8.mp eq).1;have hsl:ss.length<=100000:=X8
   clear hL eq;obtain⟨xs,hr,hxl,hxb⟩:=do8 cell 6 Y2;obtain⟨a,b,c,d,e,w,hx6,ha0,hb0,hc0,hd0,he0,hw0⟩:=ex6 hxl hxb;rw[hx6]at hr;have hr:rW [.int cell,.int 6]=.ok (.lst true [.int a,.int b,.int c,.int d,.int e,.int w]):=hr;clear hx6 hxl hxb;obtain⟨i0,i1⟩:=ap5 (a:=a) (n:=f.n.length) X8;obtain⟨i,hie⟩:=uS i0;have hi:i<f.n.length:=X8
   have mx:0<(if(f.n.length:Int)-1>1 then(f.n.length:Int)-1 else 1):=by split<;>omega
   have mx1:=G4 (b/3) (show(if(f.n.length:Int)-1>1 then(f.n.length:Int)-1 else 1)≠0 by omega);have mx2:=J8 (b/3) mx;have mp:0<(f.n.length:Int):=X8
   obtain⟨j1,j2⟩:=ap5 (a:=(i:Int)+1+b/3%(if(f.n.length:Int)-1>1 then(f.n.length:Int)-1 else 1)) (n:=f.n.length) X8;obtain⟨j,hje⟩:=uS j1;have hj:j<f.n.length:=X8
   have hij:¬f.n.length=1->i≠j:=by
    intro hm hq;subst hq;generalize b/3%(if(f.n.length:Int)-1>1 then(f.n.length:Int)-1 else 1)=v at*;have hv:v<(f.n.length:Int)-1:=by split at mx2<;>omega
    by_cases q:(i:Int)+1+v<f.n.length
    . rw[Int.emod_eq_of_lt X8 q]at hje;omega
    . rw[show(i:Int)+1+v=((i:Int)+1+v-f.n.length)+(f.n.length:Int)*1 by omega,Int.add_mul_emod_self_left,Int.emod_eq_of_lt X8 X8]at hje;omega
   clear i0 i1 j1 j2;have put:=λ(ys:ah) yl yb (o:be)=>ej3 g (fl:=fl) (a:=a) (b:=b) (w:=w) hc0 hd0 he0 hi hj hij (ys:=ys) yl yb hsl (some (.lst false (cs.map .int))) (some (.lst false (hid.map .int))) (some (.int (f.a+f.s-f.a))) (some (.int cell)) o;have out:∀s,SdOk f s->(ss++[s]).length=j0+1/\∀q∈ss++[s],SdOk f q:=λs hs=>⟨by simp[sl],λq hq=>(A6.mp hq).elim (sb q) (λz=>by rw[C3.mp z];exact hs)⟩;show yA _ (sSeq _ (sSeq _ (sSeq _ (sSeq _ (sSeq _ zF))))) _;generalize zF=Z at*;have zh:=oO hid;by_cases h3:(fl&&(b%3==0))=true
   . obtain⟨rfl,h3⟩:=Bool.and_eq_true_iff.mp h3;have rg:-(2^62)<=(f.n.length:Int)/\(f.n.length:Int)<2^62:=X8
     have mspan:0<f.a+f.s-f.a+1:=X8
     obtain⟨ys,hys,hyl,yb⟩:∃ys:List Int,(∀q:Option T,cL (aJ 12) cO Ah8 [some (.lst false (cs.map .int)),some (iD false f),some (.bl true),some (.lst false (hid.map .int)),some (.int f.n.length),some (.int (f.a+f.s-f.a)),some (.lst true (ss.map (iF true))),some (.int cell),some (.lst true [.int a,.int b,.int c,.int d,.int e,.int w]),some (.int i),some (.lst true (hid.map .int)),q,none] (fL 0 (f.n.length:Int).toNat)=.ok (ys.map .int))/\ys.length=f.n.length/\∀y∈ys,f.a<=y/\y<=f.a+f.s:=by
      refine⟨(List.range f.n.length).map λ(k:Nat)=>f.a+(e+7*w*(0+(k:Int)))%(f.a+f.s-f.a+1),λq=>?_,Y1,λy hy=>?_⟩
      . unfold fL;rw[J3,K1];refine eO λk hk=>?_;have hk:=G6.mp hk;have mk:mulOk (7*w) (0+(k:Int)):=ca7 X8 X8;clear hr hie hje put out;walk_at "e";rfl
      . obtain⟨k,_,rfl⟩:=K8.mp hy;have:=G4 (e+7*w*(0+(k:Int))) (show f.a+f.s-f.a+1≠0 by omega);have:=J8 (e+7*w*(0+(k:Int))) mspan;omega
     have ity:(fL 0 (f.n.length:Int).toNat).length<=sizeLine:=by rw[eC];exact uV X8
     obtain⟨s,hs,pz⟩:=put ys hyl yb o12;have out:=out s hs;clear put hs sb sl hb hl;walk_at "e";exact⟨_,_,_,_,_,_,_,rfl,out⟩
   . obtain⟨s,hs,pz⟩:=put hid hl hb o12;have out:=out s hs;clear put hs sb sl hb hl;cases fl with
     |false=>clear h3;walk_at "e";exact⟨_,_,_,_,_,_,_,rfl,out⟩
     |true=>
      have h3:(b%3==0)=false:=by simpa using h3
      walk_at "e";exact⟨_,_,_,_,_,_,_,rfl,out⟩)
 clear hL;rw[B7]at sl;refine⟨ss,?_,sl,sb⟩;walk_at "e"
open Classical in
def txt(f:Fm)(s:Sd):Str:=if h:∃x,dX [cB false f,.str s.word,.lst false s.parts]=.ok (gI true s.cls (s.ls.map λ(l:Nat)=>(l:Int)) s.lo s.hi x)then Classical.choose h else ""
def gB(o:Bool)(f:Fm)(s:Sd):T:=gI o s.cls (s.ls.map λ(l:Nat)=>(l:Int)) s.lo s.hi (txt f s)
def ef3(h:SdOk f s):dX [cB false f,.str s.word,.lst false s.parts]=.ok (gB true f s):=by unfold gB txt;rw[dif_pos h.made];exact Classical.choose_spec h.made
def az9(o:Bool)(f:Fm)(s:Sd):frz (gB o f s)=gB false f s:=cw9 _ _ _ _ _ _
def bt8(f:Fm)(s:Sd):cK (gB true f s)=true:=bk8 _ _ _ _ _
def dz7(f:Fm)(s:Sd):cQ (gB false f s)=true:=ds6 _ _ _ _ _
theorem yG(o:Bool)(f:Fm):∀ss:List Sd,frzs (ss.map (gB o f))=ss.map (gB false f)
 |[]=>rfl
 |s::ss=>by simp only[B9,frzs,az9,yG o f ss]
def cn5(f:Fm)(ss:List Sd):dI (ss.map (gB true f))=true:=kX (bt8 f) ss
def tO(f:Fm)(ss:List Sd):bF (ss.map (gB false f))=true:=mU (dz7 f) ss
def ey6(h:SdOk f s)(o:Bool):frz (iF o s)=iF false s:=by have q:frzs (s.ls.map λ(l:Nat)=>T.int (l:Int))=s.ls.map λ(l:Nat)=>T.int (l:Int):=yE Ao8 _;simp only[iF,frz,frzs,jI _ h.np,q,dl2]
def dr5(h:SdOk f s):cQ (iF false s)=true:=by have q:bF (s.ls.map λ(l:Nat)=>T.int (l:Int))=true:=mU Ao8 _;simp only[iF,cQ,bF,h.np,q,ag1,S6,J4]
theorem ak1(o:Bool):∀{ss:List Sd},(∀s∈ss,SdOk f s)->frzs (ss.map (iF o))=ss.map (iF false)
 |[],_=>rfl
 |s::ss,h=>by simp only[B9,frzs,ey6 (h s A9),ak1 o λt ht=>h t (A5 _ ht)]
theorem xE:∀{ss:List Sd},(∀s∈ss,SdOk f s)->bF (ss.map (iF false))=true
 |[],_=>rfl
 |s::ss,h=>by simp only[B9,bF,dr5 (h s A9),xE λt ht=>h t (A5 _ ht),J4]
theorem aj9:∀{ss:List Sd},(∀s∈ss,SdOk f s)->dI (ss.map (iF true))=true
 |[],_=>rfl
 |s::ss,h=>by simp only[B9,dI,aq2 (h s A9),aj9 λt ht=>h t (A5 _ ht),J4]
def eh8{f:Fm}{ss:List Sd}(h:∀s∈ss,SdOk f s)(hl:ss.length<=1000):xC [cB false f,.lst false (ss.map (iF false))]=.ok (.lst true (ss.map (gB true f))):=by
 unfold xC xA;have hc:cL (fO Ah9) cO (aW 3 dX (aD (aB 0) (aD (aB 2) (aD Ah4 aI)))) [some (cB false f),some (.lst false (ss.map (iF false))),none,none,none,none] (ss.map (iF false))=.ok (ss.map (gB true f)):=by refine nN λs hs=>?_;have k:=ef3 (h s hs);have np:=(h s hs).np;have zp:=jI _ np;have za:=jP false f;have co:=bt8 f s;simp only[iF];clear h;walk_at "e"
 have nn:=xE h;have l1:ss.length<=100000:=X8
 clear h;walk_at "e"
def zK(s:Sd):T:=match s.ls with
 |[_,b]=>.int b
 |_=>.non
def fst(s:Sd):Int:=match s.ls with
 |a::_=>a
 |_=>0
def st(s:Sd)(k:Int):List T:=(match s.hi with
 |some h=>[.tup [zK s,.int (fst s),.int h,.int k]]
 |none=>[])++[.tup [.int (fst s),zK s,.int (0-s.lo),.int k]]
def sp(f:Fm)(l:Int):List T:=[.tup [.non,.int l,.int (f.a+f.s),.non],.tup [.int l,.non,.int (0-f.a),.non]]
def cm8(c:Str)(hc:c∈kG)(o:Bool)(ls:ah)(lo:Int)(hi:a_)(x:Str):eQ  Am3  "spoken" (gI o c ls lo hi x)=.ok (.lst o (ls.map .int)):=by have:=ct8 c hc;simp only[eQ,gI,this,L9];with_unfolding_all rfl
def ef7(c:Str)(hc:c∈kG)(o:Bool)(ls:ah)(lo:Int)(hi:a_)(x:Str):eQ  Am3  "low" (gI o c ls lo hi x)=.ok (.int lo):=by have:=ct8 c hc;simp only[eQ,gI,this,L9];with_unfolding_all rfl
def eo0(c:Str)(hc:c∈kG)(o:Bool)(ls:ah)(lo:Int)(hi:a_)(x:Str):eQ  Am3  "high" (gI o c ls lo hi x)=.ok (nV hi):=by have:=ct8 c hc;simp only[eQ,gI,this,L9];with_unfolding_all rfl
def dm5:hV "about" ["spoken","low","high","text"]=none:=X9
def dr0:hV "bounds" ["spoken","low","high","text"]=none:=X9
def em1(h:c∈kG):tm_about.lookup c=some bD:=by simp only[kG,B6,G9,O8]at h;rcases h with rfl|rfl|rfl|rfl|rfl|rfl|rfl|rfl<;>with_unfolding_all rfl
def el0(h:c∈kG):tm_bounds.lookup c=some aX:=by simp only[kG,B6,G9,O8]at h;rcases h with rfl|rfl|rfl|rfl|rfl|rfl|rfl|rfl<;>with_unfolding_all rfl
def eh1(c8:s.cls∈kG)(f:Fm)(h:aB 0 U=.ok (gB false f s)):jS 1 "about" tm_about (aB 0) aI U=.ok (.lst true ((s.ls.map λ(l:Nat)=>(l:Int)).map .int)):=by
 have k:bD [gB false f s]=.ok (.lst true ((s.ls.map λ(l:Nat)=>(l:Int)).map .int)):=by unfold bD eT gB;have:=cm8 s.cls c8 false (s.ls.map λ(l:Nat)=>(l:Int)) s.lo s.hi (txt f s);walk_at "e"
 have zo:=az9 false f s;have e:jS 1 "about" tm_about (aB 0) aI U=tD 1 bD [gB false f s]:=by simp only[jS,h,oQ,aI,gB,gI,dm5,em1 c8]
 rw[e];clear h;walk_at "e"
def dd5(c8:s.cls∈kG)(f:Fm)(h:aB 0 U=.ok (gB false f s)):jS 1 "bounds" tm_bounds (aB 0) aI U=.ok (.tup [.int s.lo,nV s.hi]):=by
 have ch:=ag7 s.hi;have nh:=ag1 s.hi;have k:aX [gB false f s]=.ok (.tup [.int s.lo,nV s.hi]):=by unfold aX eF gB;have:=ef7 s.cls c8 false (s.ls.map λ(l:Nat)=>(l:Int)) s.lo s.hi (txt f s);have:=eo0 s.cls c8 false (s.ls.map λ(l:Nat)=>(l:Int)) s.lo s.hi (txt f s);walk_at "e"
 have zo:=az9 false f s;have e:jS 1 "bounds" tm_bounds (aB 0) aI U=tD 1 aX [gB false f s]:=by simp only[jS,h,oQ,aI,gB,gI,dr0,el0 c8]
 rw[e];clear h;walk_at "e"
def bz2(ok:SdOk f s)(k:Int):pL [gB false f s,.int k]=.ok (.lst true (st s k)):=by
 unfold pL oU;have ha:=eh1 ok.c8 f (U:=[some (gB false f s),some (.int k),none,none,none,none]) rfl;have hb:=λq=>dd5 ok.c8 f (U:=[some (gB false f s),some (.int k),some q,none,none,none]) rfl;have b0:=@kD T;have b1:=@jM T;obtain⟨word,cls,parts,ls,lo,hi⟩:=s;have l12:=ok.l12;simp only at l12 ha hb;clear ok;have t2:((2:Nat):Int)=2:=rfl;have q3:((2:Int)==2)=true:=rfl;have q1:(((0+1:Nat):Int)==2)=false:=rfl;have q2:(((0+1+1:Nat):Int)==2)=true:=rfl;rcases ls with _|⟨a,_|⟨b,_|⟨c,r⟩⟩⟩
 . simp at l12
 . simp only[B9,K4]at ha;cases hi with
   |none=>simp only[nV]at hb;walk_at "e";rfl
   |some h=>simp only[nV]at hb;walk_at "e";rfl
 . simp only[B9,K4]at ha;cases hi with
   |none=>simp only[nV]at hb;walk_at "e";rfl
   |some h=>simp only[nV]at hb;walk_at "e";rfl
 . simp at l12
def bd9(f:Fm)(l:Int):tY [cB false f,.int l]=.ok (.lst true (sp f l)):=by unfold tY tK sp;have f1:=as1 false f;have f2:=am1 false f;walk_at "e"
def au4(ss:List Sd)(k:Nat):List T:=match ss[k]? with
 |some s=>st s k
 |none=>[]
def rP(ss:List Sd)(n:Nat):List T:=(List.range n).flatMap (au4 ss)
def yN(f:Fm)(n:Nat):List T:=(List.range n).flatMap λ(l:Nat)=>sp f (l:Int)
def cJ(f:Fm)(ss:List Sd):List T:=rP ss ss.length++yN f f.n.length
def bn8{ss:List Sd}{n:Nat}{s:Sd}(h:ss[n]?=some s):rP ss (n+1)=rP ss n++st s n:=by unfold rP;rw[Q9,List.flatMap_append];simp[au4,h]
def az7(f:Fm)(n:Nat):yN f (n+1)=yN f n++sp f n:=by unfold yN;rw[Q9,List.flatMap_append];simp
def wX(t:T):Prop:=∃a b c d,t=.tup [a,b,.int c,d]/\(a=.non\/∃i,a=.int i)/\(b=.non\/∃i,b=.int i)/\(d=.non\/∃i,d=.int i)
def ds0(s:Sd):zK s=.non\/∃i,zK s=.int i:=by
 unfold zK;split
 . exact .inr ⟨_,rfl⟩
 . exact .inl rfl
def bz1(s:Sd)(k:Int):∀t∈st s k,wX t:=by
 intro t ht;unfold st at ht;rcases A6.mp ht with ht|ht
 . split at ht
   . rw[C3.mp ht];exact⟨_,_,_,_,rfl,ds0 s,.inr ⟨_,rfl⟩,.inr ⟨_,rfl⟩⟩
   . cases ht
 . rw[C3.mp ht];exact⟨_,_,_,_,rfl,.inr ⟨_,rfl⟩,ds0 s,.inr ⟨_,rfl⟩⟩
def dw3(ss:List Sd)(n:Nat):∀t∈rP ss n,wX t:=by
 intro t ht;obtain⟨k,_,h⟩:=M6.mp ht;unfold au4 at h;split at h
 . exact bz1 _ _ t h
 . cases h
def dd7(f:Fm)(n:Nat):∀t∈yN f n,wX t:=by
 intro t ht;obtain⟨k,_,h⟩:=M6.mp ht;simp only[sp,B6,G9,O8]at h;rcases h with rfl|rfl
 . exact⟨_,_,_,_,rfl,.inl rfl,.inr ⟨_,rfl⟩,.inl rfl⟩
 . exact⟨_,_,_,_,rfl,.inr ⟨_,rfl⟩,.inl rfl,.inl rfl⟩
def lK(f:Fm)(ss:List Sd):∀t∈cJ f ss,wX t:=λt ht=>(A6.mp ht).elim (dw3 _ _ t) (dd7 _ _ t)
def kY{t:T}(h:wX t):cQ t=true/\cK t=true/\frz t=t:=by obtain⟨a,b,c,d,rfl,ha,hb,hd⟩:=h;rcases ha with rfl|⟨i,rfl⟩<;>rcases hb with rfl|⟨j,rfl⟩<;>rcases hd with rfl|⟨k,rfl⟩<;>exact⟨rfl,rfl,rfl⟩
def gR{ts:aw}(h:∀t∈ts,wX t):bF ts=true:=by rw[sG,J6];exact λt ht=>(kY (h t ht)).1
def rX{ts:aw}(h:∀t∈ts,wX t):dI ts=true:=by rw[ac5,J6];exact λt ht=>(kY (h t ht)).2.1
def jC{ts:aw}(h:∀t∈ts,wX t):frzs ts=ts:=jI ts (gR h)
def cv8(s:Sd)(k:Int):(st s k).length<=2:=by unfold st;split<;>simp
theorem xN(ss:List Sd):∀n,(rP ss n).length<=2*n
 |0=>by simp[rP]
 |n+1=>by
  have ih:=xN ss n;unfold rP at ih⊢;rw[Q9,List.flatMap_append,G2];have:(([n]:List Nat).flatMap (au4 ss)).length<=2:=by
   simp only[List.flatMap_cons,List.flatMap_nil,K0,au4];split
   . exact cv8 _ _
   . simp
  omega
theorem af6(f:Fm):∀n,(yN f n).length=2*n
 |0=>by simp[yN]
 |n+1=>by rw[az7,G2,af6 f n];simp[sp];omega
def cf6{f:Fm}(g:Gd f){ss:List Sd}(h:∀s∈ss,SdOk f s)(hl:ss.length<=1000):uI [cB false f,.lst false (ss.map (gB false f))]=.ok (.lst true (cJ f ss)):=by
 unfold uI xG;have fl:=mW false f;have no:=tO f ss;have n8:=g.n8;walk_at "e";generalize hL:cY _ _ _ _=o;obtain⟨ρ',rfl,o3,o4,rfl⟩:=fY (λj U=>∃(o3 o4:be),U=[some (cB false f),some (.lst false (ss.map (gB false f))),some (.lst true (rP ss j)),o3,o4,none]) hL ⟨_,_,rfl⟩ (by
  rintro j t U et ⟨o3,o4,rfl⟩;obtain⟨t2,e2,rfl⟩:=bn5 et;rw[E3]at e2;cases eq:ss[j]? with
  |none=>rw[eq]at e2;cases e2
  |some s=>
   rw[eq]at e2;have e2:=(E9 e2).symm;subst e2;have hs:=h s (C4 eq);have k:=bz2 hs (j:Int);have zo:=az9 false f s;have cs:=rX (bz1 s j);have zs:=jC (bz1 s j);have hj:j<ss.length:=(C8.mp eq).1;have l1:=xN ss j;have l2:=cv8 s j;have l3:(rP ss j).length+(st s j).length<=100000:=X8
   have sc:=bn8 eq;clear hL et eq h;walk_at "e";exact⟨_,_,rfl⟩)
 rw[bb5,B7];clear hL;walk_at "e";generalize hL:cY _ _ _ _=o;obtain⟨ρ',rfl,o5,rfl⟩:=fY (λj U=>∃(o5:be),U=[some (cB false f),some (.lst false (ss.map (gB false f))),some (.lst true (rP ss ss.length++yN f j)),o3,o4,o5]) hL ⟨none,by simp[yN]⟩ (by
  rintro j t U et ⟨o5,rfl⟩;obtain⟨hj,rfl⟩:=mL et;have k:=bd9 f (0+(j:Int));have za:=jP false f;have l1:=xN ss ss.length;have l2:=af6 f j;have l3:(rP ss ss.length++yN f j).length+(sp f (0+(j:Int))).length<=100000:=by rw[G2];simp[sp];omega
  have cs:dI (sp f (0+(j:Int)))=true:=rfl;clear hL et h l1 l2;walk_at "e";refine⟨some (.int (0+(j:Int))),?_⟩;rw[az7,J0,show(0+(j:Int))=(j:Int) by omega])
 rw[eC];clear hL;simp only[Int.toNat_natCast];walk_at "e";rfl
def ae0{f:Fm}(g:Gd f){ss:List Sd}(h:∀s∈ss,SdOk f s)(hl:ss.length<=1000):jK [iD false f,.lst false (ss.map (iF false))]=.ok (.lst true (cJ f ss)):=by
 unfold jK vB;walk_at "B";have n8:=g.n8;obtain⟨m0,m1,m2,_⟩:=bs7 f;have rg:-(2^62)<=(ss.length:Int)/\(ss.length:Int)<2^62:=X8
 walk_at "e";generalize hL:cY _ _ _ _=o;obtain⟨ρ',rfl,o3,o4,o5,o6,o7,rfl⟩:=fY (λj U=>∃(o3 o4 o5 o6 o7:be),U=[some (iD false f),some (.lst false (ss.map (iF false))),some (.lst true (rP ss j)),o3,o4,o5,o6,o7,none]) hL ⟨_,_,_,_,_,rfl⟩ (by
  rintro j t U et ⟨o3,o4,o5,o6,o7,rfl⟩;obtain⟨hj,rfl⟩:=mL et;have hj:j<ss.length:=by simpa using hj
  obtain⟨s,eq⟩:∃s,ss[j]?=some s:=⟨ss[j],A2 hj⟩;have hs:=h s (C4 eq);have at1:atI (ss.map (iF false)) (j:Int)=some (iF false s):=by exact gG (by rw[E3,eq];rfl)
  have l1:=xN ss j;have l3:(rP ss j).length<=100000:=X8
  have l4:∀x:T,(rP ss j++[x]).length<sizeLine:=λx=>R5 (show(rP ss j++[x]).length<=100000 by rw[G2];simp;omega) Y2;have sc:=bn8 eq;obtain⟨word,cls,parts,ls,lo,hi⟩:=s;have l12:=hs.l12;simp only[iF]at at1 l12;clear hL et eq h hs l1;have zz:(0+(j:Int))=(j:Int):=W7 _;rcases ls with _|⟨a,_|⟨b,_|⟨c,r⟩⟩⟩
  . simp at l12
  . simp only[B9,K4]at at1;cases hi with
    |none=>simp only[nV]at at1;clear l12;walk_at "e";exact⟨_,_,_,_,_,by simp only[st,zK,fst,List.nil_append];rfl⟩
    |some hh=>simp only[nV]at at1;clear l12;walk_at "e";exact⟨_,_,_,_,_,by simp only[st,zK,fst,J0,List.cons_append,List.nil_append];rfl⟩
  . simp only[B9,K4]at at1;cases hi with
    |none=>simp only[nV]at at1;clear l12;walk_at "e";exact⟨_,_,_,_,_,by simp only[st,zK,fst,List.nil_append];rfl⟩
    |some hh=>simp only[nV]at at1;clear l12;walk_at "e";exact⟨_,_,_,_,_,by simp only[st,zK,fst,J0,List.cons_append,List.nil_append];rfl⟩
  . simp at l12)
 rw[eC];clear hL;simp only[Int.toNat_natCast];walk_at "e";generalize hL:cY _ _ _ _=o;obtain⟨ρ',rfl,o8,rfl⟩:=fY (λj U=>∃(o8:be),U=[some (iD false f),some (.lst false (ss.map (iF false))),some (.lst true (rP ss ss.length++yN f j)),o3,o4,o5,o6,o7,o8]) hL ⟨none,by simp[yN]⟩ (by
  rintro j t U et ⟨o8,rfl⟩;obtain⟨hj,rfl⟩:=mL et;have l1:=xN ss ss.length;have l2:=af6 f j;have l3:(rP ss ss.length++yN f j).length<=100000:=by rw[G2];omega
  have l4:∀x:T,(rP ss ss.length++yN f j++[x]).length<sizeLine:=λx=>R5 (show(rP ss ss.length++yN f j++[x]).length<=100000 by rw[G2,G2];simp;omega) Y2;clear hL et h l1 l2;walk_at "e";refine⟨some (.int (0+(j:Int))),?_⟩;rw[az7,show(0+(j:Int))=(j:Int) by omega];simp[sp])
 rw[eC];clear hL;simp only[Int.toNat_natCast];walk_at "e";rfl
def rY(ys:ah):T->Int
 |.int i=>ys.getD i.toNat 0
 |_=>0
def kept(ys:ah):T->Bool
 |.tup [a,b,.int c,_]=>decide (rY ys b<=rY ys a+c)
 |_=>true
def Pl(n:Nat)(a:T):Prop:=a=.non\/∃i:Nat,i<n/\a=.int i
def StepN(n:Nat)(t:T):Prop:=∃a b c d,t=.tup [a,b,.int c,d]/\Pl n a/\Pl n b/\(d=.non\/∃i,d=.int i)
def StepN.st(h:StepN n t):wX t:=by obtain⟨a,b,c,d,rfl,ha,hb,hd⟩:=h;exact⟨a,b,c,d,rfl,ha.imp_right λ⟨i,_,e⟩=>⟨_,e⟩,hb.imp_right λ⟨i,_,e⟩=>⟨_,e⟩,hd⟩
def ch9(g:Int):cZ [.non,.int g]=.ok (.int g):=by unfold cZ tI;walk_at "e"
def di1(i g:Int):cZ [.int i,.int g]=.ok (.int i):=by unfold cZ tI;walk_at "e"
def ep4(h:SdOk f s):Pl f.n.length (.int (fst s))/\Pl f.n.length (zK s):=by
 have l12:=h.l12;have lb:=h.lb;obtain⟨w,c,p,ls,lo,hi⟩:=s;simp only at l12 lb;rcases ls with _|⟨a,_|⟨b,_|⟨c',r⟩⟩⟩
 . simp at l12
 . exact⟨.inr ⟨a,lb a Y1,rfl⟩,.inl rfl⟩
 . exact⟨.inr ⟨a,lb a Y1,rfl⟩,.inr ⟨b,lb b Y1,rfl⟩⟩
 . simp at l12
def do6(h:SdOk f s)(k:Int):∀t∈st s k,StepN f.n.length t:=by
 intro t ht;obtain⟨h1,h2⟩:=ep4 h;unfold st at ht;rcases A6.mp ht with ht|ht
 . split at ht
   . rw[C3.mp ht];exact⟨_,_,_,_,rfl,h2,h1,.inr ⟨_,rfl⟩⟩
   . cases ht
 . rw[C3.mp ht];exact⟨_,_,_,_,rfl,h1,h2,.inr ⟨_,rfl⟩⟩
def ak2(h:∀s∈ss,SdOk f s):∀t∈cJ f ss,StepN f.n.length t:=by
 intro t ht;rcases A6.mp ht with ht|ht
 . obtain⟨k,_,q⟩:=M6.mp ht;unfold au4 at q;split at q
   . next s es=>exact do6 (h s (C4 es)) _ t q
   . cases q
 . obtain⟨k,hk,q⟩:=M6.mp ht;have hk:=G6.mp hk;simp only[sp,B6,G9,O8]at q;rcases q with rfl|rfl
   . exact⟨_,_,_,_,rfl,.inl rfl,.inr ⟨k,hk,rfl⟩,.inl rfl⟩
   . exact⟨_,_,_,_,rfl,.inr ⟨k,hk,rfl⟩,.inl rfl,.inl rfl⟩
def ed4(g:Gd f)(h:ss.length<=1000):(cJ f ss).length<=10000:=by unfold cJ;have:=xN ss ss.length;have:=af6 f f.n.length;have:=g.n8;rw[G2];omega
theorem cy0(Iv:cm):∀{ts:aw}{U:Fr},(∀t∈ts,∀U,Iv U->∃ρ1,b t U=some ρ1/\((p t=false/\body ρ1=.rt r)\/(p t=true/\∃ρ2,body ρ1=.nx ρ2/\Iv ρ2)))->Iv U->
 (ts.all p=true/\∃ρ',cY b body ts U=.nx ρ'/\Iv ρ')\/(ts.all p=false/\cY b body ts U=.rt r)
 |[],U,_,hi=>.inl ⟨rfl,U,rfl,hi⟩
 |t::ts,U,hs,hi=>by
  obtain⟨ρ1,h1,h2⟩:=hs t A9 U hi;rcases h2 with⟨hp,hb⟩|⟨hp,ρ2,hb,hi2⟩
  . refine .inr ⟨by simp[hp],?_⟩;simp only[cY,h1,hb]
  . rcases cy0 (p:=p) (r:=r) Iv (λu hu=>hs u (A5 _ hu)) hi2 with⟨ha,ρ',e,i'⟩|⟨ha,e⟩
    . refine .inl ⟨by simp[hp,ha],ρ',?_,i'⟩;simp only[cY,h1,hb];exact e
    . refine .inr ⟨by simp[hp,ha],?_⟩;simp only[cY,h1,hb];exact e
def dq9{ys:ah}{i:Nat}(hi:i<ys.length):atI (ys.map T.int) (i:Int)=some (.int (rY ys (.int i))):=by refine gG ?_;rw[E3,A2 hi];simp[rY,A4,A2 hi]
def cv2{ys:ah}{ts:aw}(h:∀t∈ts,StepN ys.length t):vK [.lst false (ys.map .int),.lst false ts]=.ok (.bl (ts.all (kept ys))):=by
 unfold vK vP;have no:=gR λt ht=>(h t ht).st;have key:=cy0 (b:=fO Ah9) (body:=(sSeq (bG [] Al9 (aJ 6)) (sSeq (bG [] Al9 (aJ 7)) (sSeq (cI Ai7 (bG [] (aU Ak7) (aJ 6)) bN) (sSeq (cI (bE (aF jO (aB 3) Am2)) (bG [] (aU Aj5) (aJ 7)) bN) (cI (bE (aF gtT (aB 7) (aF bS (aB 6) (aB 4)))) Af9 bN)))))) (r:=.bl false) (p:=kept ys) (λU=>∃o2 o3 o4 o5 o6 o7:Option T,U=[some (.lst false (ys.map .int)),some (.lst false ts),o2,o3,o4,o5,o6,o7]) (ts:=ts) (U:=[some (.lst false (ys.map .int)),some (.lst false ts),none,none,none,none,none,none]) (by
  rintro t ht U ⟨o2,o3,o4,o5,o6,o7,rfl⟩;obtain⟨a,b,c,d,rfl,ha,hb,hd⟩:=h t ht;refine⟨[some (.lst false (ys.map .int)),some (.lst false ts),some a,some b,some (.int c),some d,o6,o7],rfl,?_⟩;have kp:∀x:Bool,decide (rY ys a+c<rY ys b)=x->kept ys (.tup [a,b,.int c,d])=!x:=by
   intro x hx;subst hx;show decide (rY ys b<=rY ys a+c)=_;by_cases q:rY ys b<=rY ys a+c
   . rw[E8 q,D6 X8];rfl
   . rw[D6 q,E8 X8];rfl
  have fA:∀i:Nat,i<ys.length->a=.int i->atI (ys.map T.int) (i:Int)=some (.int (rY ys a)):=λi hi e=>by rw[e];exact dq9 hi
  have fB:∀i:Nat,i<ys.length->b=.int i->atI (ys.map T.int) (i:Int)=some (.int (rY ys b)):=λi hi e=>by rw[e];exact dq9 hi
  have nA:a=.non->rY ys a=0:=λe=>by rw[e];rfl
  have nB:b=.non->rY ys b=0:=λe=>by rw[e];rfl
  have out:∃A B:Int,rY ys a=A/\rY ys b=B/\((a=.non/\A=0)\/∃i:Nat,a=.int i/\atI (ys.map T.int) (i:Int)=some (.int A))/\((b=.non/\B=0)\/∃i:Nat,b=.int i/\atI (ys.map T.int) (i:Int)=some (.int B)):=by
   refine⟨_,_,rfl,rfl,?_,?_⟩
   . rcases ha with e|⟨i,hi,e⟩
     . exact .inl ⟨e,nA e⟩
     . exact .inr ⟨i,e,fA i hi e⟩
   . rcases hb with e|⟨i,hi,e⟩
     . exact .inl ⟨e,nB e⟩
     . exact .inr ⟨i,e,fB i hi e⟩
  obtain⟨A,B,eA,eB,ca,cb⟩:=out;rw[eA,eB]at kp;clear fA fB nA nB ha hb hd h ht no eA eB;cases e:decide (A+c<B)with
  |true=>refine .inl ⟨kp true e,?_⟩;clear kp;rcases ca with⟨rfl,rfl⟩|⟨i,rfl,qa⟩<;>rcases cb with⟨rfl,rfl⟩|⟨j,rfl,qb⟩<;>walk_at "e"
  |false=>refine .inr ⟨kp false e,[some (.lst false (ys.map .int)),some (.lst false ts),some a,some b,some (.int c),some d,some (.int A),some (.int B)],?_,_,_,_,_,_,_,rfl⟩;clear kp;rcases ca with⟨rfl,rfl⟩|⟨i,rfl,qa⟩<;>rcases cb with⟨rfl,rfl⟩|⟨j,rfl,qb⟩<;>walk_at "e") ⟨_,_,_,_,_,_,rfl⟩
 clear h;rcases key with⟨ha,ρ',e,o2,o3,o4,o5,o6,o7,rfl⟩|⟨ha,e⟩
 . walk_at "e"
 . walk_at "e"
def gy(Y:ah)(i:Nat):Int:=Y.getD i 0
def vX(Y:ah)(i j:Nat)(v:Int)(h:i<Y.length):gy (Y.set i v) j=if i=j then v else gy Y j:=by
 unfold gy;rw[A4,A4,List.getElem?_set];by_cases e:i=j
 . subst e;simp[h]
 . simp[e]
theorem rC:∀(m:Nat)(l:ax),l.Nodup->(∀x∈l,x<m)->l.length<=m
 |0,l,_,h=>by
  cases l with
  |nil=>simp
  |cons a l=>exact D8 (h a A9) X8
 |m+1,l,nd,h=>by
  by_cases e:m∈l
  . have:=rC m (l.erase m) (nd.erase m) (λx hx=>by have h1:=(List.Nodup.mem_erase_iff nd).mp hx;have:=h x h1.2;have:=h1.1;omega);rw[V8 e]at this;omega
  . have:=rC m l nd (λx hx=>by have:=h x hx;have:x≠m:=λq=>e (q▸hx);omega);omega
def em8(w:Nat->Nat)(n:Nat)(h:∀k,k<=n+1->w k<=n):∃i j,i<j/\j<=n+1/\w i=w j:=by
 apply J5;intro hn;have nd:((List.range (n+2)).map w).Nodup:=by unfold List.Nodup;rw[List.pairwise_map];refine(List.pairwise_lt_range (n:=n+2)).imp_of_mem λ{a b} ha hb hlt e=>?_;have:=G6.mp hb;exact hn ⟨a,b,hlt,X8,e⟩
 have:=rC (n+1) _ nd (λx hx=>by obtain⟨k,hk,rfl⟩:=K8.mp hx;have:=G6.mp hk;have:=h k X8;omega);rw[B7,P7]at this;omega
def it(f:Nat->Nat):Nat->Nat->Nat
 |0,a=>a
 |k+1,a=>it f k (f a)
theorem ay0(f:Nat->Nat):∀k a,it f (k+1) a=f (it f k a)
 |0,_=>rfl
 |k+1,a=>ay0 f k (f a)
theorem wG(f:Nat->Nat)(j:Nat):∀k a,it f (k+j) a=it f k (it f j a)
 |k,a=>by
  induction j generalizing a with
  |zero=>rfl
  |succ j ih=>exact ih (f a)
section
variable{α:Type}(src dst:α->Nat)(cst:α->Int)
def Kp(Y:ah)(t:α):Prop:=gy Y (dst t)<=gy Y (src t)+cst t
instance (Y:ah) (t:α):Decidable (Kp src dst cst Y t):=inferInstanceAs (Decidable (_<=_))
structure Rs (α:Type) where
 Y:List Int
 R:List (Option α)
 x:Option Nat
def one(s:Rs α)(t:α):Rs α:=if Kp src dst cst s.Y t then s else⟨s.Y.set (src t) (gy s.Y (dst t)-cst t),s.R.set (src t) (some t),some (src t)⟩
def Dt(ts:List α)(n:Nat)(D:c6):Prop:=D n=0/\∀t∈ts,D (dst t)<=D (src t)+cst t
structure Gh (ts:List α) (n p i:Nat) (s:Rs α) (L Tm:Nat->Nat) (τ:Nat):Prop where
 tm:∀a,Tm a<=τ
 lp:∀a,L a<=p
 r:∀a t,s.R[a]?=some (some t)->t∈ts/\src t=a/\L a<=L (dst t)+1/\gy s.Y a<=gy s.Y (dst t)-cst t/\(Tm a<=Tm (dst t)->gy s.Y a<gy s.Y (dst t)-cst t)
 d:∀a,1<=L a->∃t,s.R[a]?=some (some t)
 k1:∀j t,ts[j]?=some t->j<i->L (dst t)<p->Kp src dst cst s.Y t
 k2:∀j t,ts[j]?=some t->i<=j->L (dst t)+1<p->Kp src dst cst s.Y t
 x1:∀a,s.x=some a->L a=p/\a<=n
 x0:s.x=none->∀a,L a<p
structure Iv (Y0:ah) (ts:List α) (n p i:Nat) (s:Rs α):Prop where
 ly:s.Y.length=n+1
 lr:s.R.length=n+1
 up:∀j,gy Y0 j<=gy s.Y j
 low:∀D,Dt src dst cst ts n D->(∀j,j<=n->gy Y0 j<=D j)->∀j,j<=n->gy s.Y j<=D j
 gh:∃L Tm τ,Gh src dst cst ts n p i s L Tm τ
variable{src dst cst}{Y0:ah}{ts:List α}{n p i:Nat}{s:Rs α}
def Iv.start(hy:Y0.length=n+1):Iv src dst cst Y0 ts n 1 0 ⟨Y0,List.replicate (n+1) none,none⟩:=
 ⟨hy,Y1,λ_=>U4 _,λD _ h=>h,λ_=>0,λ_=>0,0,λ_=>D4 _,λ_=>R7 _,λa t h=>by simp only[O3]at h;split at h<;>simp at h,λa h=>by omega,λj t _ h=>by omega,λj t _ _ h=>by omega,(λa h=>nomatch h),λ_ a=>by omega⟩
def Iv.next(h:Iv src dst cst Y0 ts n p ts.length s):Iv src dst cst Y0 ts n (p+1) 0 ⟨s.Y,s.R,none⟩:=by obtain⟨L,Tm,τ,g⟩:=h.gh;refine⟨h.ly,h.lr,h.up,h.low,L,Tm,τ,g.tm,λa=>Nat.le_succ_of_le (g.lp a),g.r,g.d,λj t _ q=>by omega,λj t e _ q=>g.k1 j t e (C8.mp e).1 X8,(λa q=>nomatch q),λ_ a=>by have:=g.lp a;omega⟩
theorem Iv.one(h:Iv src dst cst Y0 ts n p i s)(hb:∀t∈ts,src t<=n/\dst t<=n)(et:ts[i]?=some t):Iv src dst cst Y0 ts n p (i+1) (Nk23.one src dst cst s t):=by
 obtain⟨L,Tm,τ,g⟩:=h.gh;have tm:t∈ts:=C4 et;obtain⟨b1,b2⟩:=hb t tm;unfold Nk23.one;by_cases hk:Kp src dst cst s.Y t
 . rw[C7 hk];refine⟨h.ly,h.lr,h.up,h.low,L,Tm,τ,g.tm,g.lp,g.r,g.d,λj u e q l=>?_,λj u e q=>g.k2 j u e X8,g.x1,g.x0⟩;by_cases ej:j=i
   . subst ej;rw[et]at e;cases e;exact hk
   . exact g.k1 j u e X8 l
 . rw[D3 hk];have hl:src t<s.Y.length:=by rw[h.ly];omega
   have lt:gy s.Y (src t)<gy s.Y (dst t)-cst t:=by unfold Kp at hk;omega
   have ge:∀j,gy s.Y j<=gy (s.Y.set (src t) (gy s.Y (dst t)-cst t)) j:=λj=>by
    rw[vX _ _ _ _ hl];split
    . next e=>subst e;omega
    . exact U4 _
   have lb:p<=L (dst t)+1:=by apply J5;intro q;exact hk (g.k2 i t et (D4 _) X8)
   refine⟨by simp[h.ly],by simp[h.lr],λj=>N2 (h.up j) (ge j),λD hD h0 j hj=>?_,λa=>if a=src t then p else L a,λa=>if a=src t then τ+1 else Tm a,τ+1,λa=>?_,λa=>?_,λa u hu=>?_,λa ha=>?_,λj u e q l=>?_,λj u e q l=>?_,λa q=>?_,λq=>by cases q⟩
   . show gy (s.Y.set (src t) (gy s.Y (dst t)-cst t)) j<=D j;rw[vX _ _ _ _ hl];split
     . next e=>
       subst e;have h1:=h.low D hD h0 (dst t) b2;have h2:=hD.2 t tm;omega
     . exact h.low D hD h0 j hj
   . have:=g.tm a;show(if a=src t then τ+1 else Tm a)<=τ+1;split<;>omega
   . show(if a=src t then p else L a)<=p;have:=g.lp a;split<;>omega
   . have hu:(s.R.set (src t) (some t))[a]?=some (some u):=hu;show u∈ts/\src u=a/\(if a=src t then p else L a)<=(if dst u=src t then p else L (dst u))+1/\gy (s.Y.set (src t) (gy s.Y (dst t)-cst t)) a<=gy (s.Y.set (src t) (gy s.Y (dst t)-cst t)) (dst u)-cst u/\((if a=src t then τ+1 else Tm a)<=(if dst u=src t then τ+1 else Tm (dst u))->gy (s.Y.set (src t) (gy s.Y (dst t)-cst t)) a<gy (s.Y.set (src t) (gy s.Y (dst t)-cst t)) (dst u)-cst u);have G:=λj=>vX s.Y (src t) j (gy s.Y (dst t)-cst t) hl;rw[G a,G (dst u)];by_cases ea:a=src t
     . subst ea;rw[S5 (by rw[h.lr];omega)]at hu;cases hu;have l1:=g.lp (dst t);have l2:=g.tm (dst t);by_cases e:dst t=src t
       . simp only[e,L9];rw[e]at lt;exact⟨tm,trivial,X8,X8,λ_=>by omega⟩
       . have e':¬src t=dst t:=λz=>e z.symm;simp only[D3 e,D3 e',L9];exact⟨tm,trivial,X8,X8,λq=>by omega⟩
     . rw[G7 (λz=>ea z.symm)]at hu;obtain⟨q1,q2,q3,q4,q5⟩:=g.r a u hu;have ea':¬src t=a:=λz=>ea z.symm;have l1:=g.lp a;by_cases e:dst u=src t
       . have e':src t=dst u:=e.symm;rw[e]at q4;simp only[D3 ea,D3 ea',C7 e,C7 e'];exact⟨q1,q2,X8,X8,λ_=>by omega⟩
       . have e':¬src t=dst u:=λz=>e z.symm;simp only[D3 ea,D3 ea',D3 e,D3 e'];exact⟨q1,q2,q3,q4,q5⟩
   . show∃u,(s.R.set (src t) (some t))[a]?=some (some u);by_cases ea:a=src t
     . exact⟨t,by rw[ea,S5 (by rw[h.lr];omega)]⟩
     . have ha:1<=(if a=src t then p else L a):=ha;rw[D3 ea]at ha;rw[G7 (λz=>ea z.symm)];exact g.d a ha
   . have l:(if dst u=src t then p else L (dst u))<p:=l;show gy (s.Y.set (src t) (gy s.Y (dst t)-cst t)) (dst u)<=gy (s.Y.set (src t) (gy s.Y (dst t)-cst t)) (src u)+cst u;by_cases e2:dst u=src t
     . rw[C7 e2]at l;omega
     . rw[D3 e2]at l;have h1:=ge (src u);have h2:gy (s.Y.set (src t) (gy s.Y (dst t)-cst t)) (dst u)=gy s.Y (dst u):=by rw[vX _ _ _ _ hl,D3 (λz=>e2 z.symm)]
       rw[h2];by_cases ej:j=i
       . subst ej;rw[et]at e;cases e;rw[vX _ _ _ _ hl,C7 rfl];omega
       . have:gy s.Y (dst u)<=gy s.Y (src u)+cst u:=g.k1 j u e X8 l;omega
   . have l:(if dst u=src t then p else L (dst u))+1<p:=l;show gy (s.Y.set (src t) (gy s.Y (dst t)-cst t)) (dst u)<=gy (s.Y.set (src t) (gy s.Y (dst t)-cst t)) (src u)+cst u;by_cases e2:dst u=src t
     . rw[C7 e2]at l;omega
     . rw[D3 e2]at l;have h1:=ge (src u);have h2:gy (s.Y.set (src t) (gy s.Y (dst t)-cst t)) (dst u)=gy s.Y (dst u):=by rw[vX _ _ _ _ hl,D3 (λz=>e2 z.symm)]
       rw[h2];have:gy s.Y (dst u)<=gy s.Y (src u)+cst u:=g.k2 j u e X8 l;omega
   . have q:some (src t)=some a:=q;cases q;exact⟨by show(if src t=src t then p else _)=p;rw[C7 rfl],b1⟩
end
theorem fn4{p:Nat->Prop}(h:∃k,p k):∃k,p k/\∀m,m<k->¬p m:=by
 obtain⟨k,hk⟩:=h;induction k using Nat.strongRecOn with
 |ind k ih=>
  by_cases q:∃m,m<k/\p m
  . obtain⟨m,h1,h2⟩:=q;exact ih m h1 h2
  . exact⟨k,hk,λm h1 h2=>q ⟨m,h1,h2⟩⟩
section
variable{α:Type}{src dst:α->Nat}{cst:α->Int}{Y0:ah}{ts:List α}{n p i:Nat}{s:Rs α}
theorem Iv.fold(hb:∀t∈ts,src t<=n/\dst t<=n):∀(us:List α){i:Nat}{s:Rs α},ts.drop i=us->Iv src dst cst Y0 ts n p i s->Iv src dst cst Y0 ts n p (i+us.length) (us.foldl (Nk23.one src dst cst) s)
 |[],i,s,_,h=>h
 |t::us,i,s,e,h=>by
  have et:ts[i]?=some t:=by
   have:(ts.drop i)[0]?=some t:=by rw[e];rfl
   rw[List.getElem?_drop]at this;exact this
  have ed:ts.drop (i+1)=us:=by rw[<-List.tail_drop,e];rfl
  have:=Iv.fold hb us ed (h.one hb et);rw[E1,show i+(us.length+1)=i+1+us.length by omega];exact this
variable(src dst cst) in
def yQ(ts:List α)(s:Rs α):Rs α:=ts.foldl (Nk23.one src dst cst) ⟨s.Y,s.R,none⟩
variable(src dst cst) in
def ay5(ts:List α)(s:Rs α):Nat->Rs α
 |0=>s
 |k+1=>yQ src dst cst ts (ay5 ts s k)
def Iv.pass(hb:∀t∈ts,src t<=n/\dst t<=n)(h:Iv src dst cst Y0 ts n p 0 ⟨s.Y,s.R,none⟩):Iv src dst cst Y0 ts n p ts.length (yQ src dst cst ts s):=by have:=Iv.fold hb ts (i:=0) rfl h;rwa[R9]at this
theorem Iv.runs(hb:∀t∈ts,src t<=n/\dst t<=n)(hy:Y0.length=n+1):∀k,Iv src dst cst Y0 ts n (k+1) ts.length (ay5 src dst cst ts ⟨Y0,List.replicate (n+1) none,none⟩ (k+1))
 |0=>Iv.pass hb (s:=⟨Y0,List.replicate (n+1) none,none⟩) (Iv.start hy)
 |k+1=>Iv.pass hb (Iv.next (Iv.runs hb hy k))
variable(dst) in
def nx(R:List (Option α))(a:Nat):Nat:=match R[a]? with
 |some (some t)=>dst t
 |_=>a
variable(dst cst) in
def cs(R:List (Option α)):Nat->Nat->Int
 |0,_=>0
 |k+1,a=>(match R[a]? with
  |some (some t)=>cst t
  |_=>0)+cs R k (nx dst R a)
theorem bf5(g:Gh src dst cst ts n p i s L Tm τ):∀(k a:Nat),(∀m,m<k->∃t,s.R[it (nx dst s.R) m a]?=some (some t))->
 gy s.Y a+cs dst cst s.R k a<=gy s.Y (it (nx dst s.R) k a)/\(gy s.Y a+cs dst cst s.R k a<gy s.Y (it (nx dst s.R) k a)\/Tm (it (nx dst s.R) k a)+k<=Tm a)
 |0,a,_=>⟨by simp[cs,it],.inr (by simp[it])⟩
 |k+1,a,h=>by
  obtain⟨t,et⟩:=h 0 X8;have et:s.R[a]?=some (some t):=et;obtain⟨_,_,_,q4,q5⟩:=g.r a t et;have en:nx dst s.R a=dst t:=by simp only[nx,et]
  obtain⟨i1,i2⟩:=bf5 g k (nx dst s.R a) (λm hm=>h (m+1) X8);have ec:cs dst cst s.R (k+1) a=cst t+cs dst cst s.R k (nx dst s.R a):=by simp only[cs,et]
  have ei:it (nx dst s.R) (k+1) a=it (nx dst s.R) k (nx dst s.R a):=rfl;rw[ec,ei];rw[en]at*;refine⟨X8,?_⟩;rcases i2 with i2|i2
  . exact .inl X8
  . by_cases q:Tm a<=Tm (dst t)
    . have:=q5 q;exact .inl X8
    . exact .inr X8
structure Ring (src dst:α->Nat) (cst:α->Int) (ts:List α) (n:Nat) (R:List (Option α)) (a0 P k:Nat):Prop where
 at0:it (nx dst R) (n+1) a0=P
 k1:1<=k
 kn:k<=n+1
 back:it (nx dst R) k P=P
 fst:∀m,1<=m->m<k->it (nx dst R) m P≠P
 dfa:∀m,∃t,R[it (nx dst R) m a0]?=some (some t)/\t∈ts/\src t=it (nx dst R) m a0
 neg:cs dst cst R k P<0
def Ring.df(h:Ring src dst cst ts n R a0 P k)(m:Nat):∃t,R[it (nx dst R) m P]?=some (some t)/\t∈ts/\src t=it (nx dst R) m P:=by have:=h.dfa (m+(n+1));rwa[wG,h.at0]at this
def es3(hb:∀t∈ts,src t<=n/\dst t<=n)(h:Iv src dst cst Y0 ts n (n+1) ts.length s){a0:Nat}(hx:s.x=some a0):∃P k,Ring src dst cst ts n s.R a0 P k:=by
 obtain⟨L,Tm,τ,g⟩:=h.gh;obtain⟨l0,a0n⟩:=g.x1 a0 hx;let w:=λm=>it (nx dst s.R) m a0;have df:∀a,1<=L a->∃t,s.R[a]?=some (some t)/\t∈ts/\src t=a/\nx dst s.R a=dst t/\L a<=L (dst t)+1:=λa ha=>by obtain⟨t,et⟩:=g.d a ha;obtain⟨q1,q2,q3,_⟩:=g.r a t et;exact⟨t,et,q1,q2,by simp only[nx,et],q3⟩
 have wl:∀k,k<=n+1->n+1<=L (w k)+k/\w k<=n:=by
  intro k;induction k with
  |zero=>intro _;exact⟨by show n+1<=L a0+0;omega,a0n⟩
  |succ k ih=>
   intro hk;obtain⟨i1,i2⟩:=ih X8;obtain⟨t,et,q1,q2,q3,q4⟩:=df (w k) X8;have e:w (k+1)=dst t:=by show it _ (k+1) a0=_;rw[ay0];exact q3
   rw[e];exact⟨X8,(hb t q1).2⟩
 obtain⟨i,j,hij,hj,eij⟩:=em8 w n (λk hk=>(wl k hk).2);have per:∀m,i<=m->w (m+(j-i))=w m:=λm hm=>by
  show it _ (m+(j-i)) a0=it _ m a0;have e1:m+(j-i)=(m-i)+j:=X8
  have e2:m=(m-i)+i:=X8
  rw[e1,wG]
  conv=>rhs;rw[e2,wG]
  exact N4 _ eij.symm
 have dw:∀m,1<=L (w m)\/∃m',m'<m/\w m=w m':=λm=>by
  by_cases hm:m<=n
  . exact .inl (by have:=(wl m X8).1;omega)
  . refine .inr ⟨m-(j-i),X8,?_⟩;have:=per (m-(j-i)) X8;rwa[show m-(j-i)+(j-i)=m by omega]at this
 have dfa:∀m,∃t,s.R[w m]?=some (some t)/\t∈ts/\src t=w m:=by
  intro m;induction m using Nat.strongRecOn with
  |ind m ih=>
   rcases dw m with q|⟨m',h1,h2⟩
   . obtain⟨t,et,q1,q2,_⟩:=df (w m) q;exact⟨t,et,q1,q2⟩
   . rw[h2];exact ih m' h1
 have ex:∃k,1<=k/\it (nx dst s.R) k (w (n+1))=w (n+1):=⟨j-i,X8,by
  have:=per (n+1) X8;have e:w (n+1+(j-i))=it (nx dst s.R) (j-i) (w (n+1)):=by show it _ (n+1+(j-i)) a0=_;rw[Nat.add_comm,wG]
  rw[<-e];exact this⟩
 obtain⟨k,⟨k1,kb⟩,kf⟩:=fn4 ex;have kn:k<=n+1:=by
  apply J5;intro q;refine kf (j-i) X8 ⟨X8,?_⟩;have:=per (n+1) X8;have e:w (n+1+(j-i))=it (nx dst s.R) (j-i) (w (n+1)):=by show it _ (n+1+(j-i)) a0=_;rw[Nat.add_comm,wG]
  rw[<-e];exact this
 have dP:∀m,m<k->∃t,s.R[it (nx dst s.R) m (w (n+1))]?=some (some t):=λm _=>by obtain⟨t,et,_⟩:=dfa (m+(n+1));have e:w (m+(n+1))=it (nx dst s.R) m (w (n+1)):=wG _ _ _ _;rw[e]at et;exact⟨t,et⟩
 have neg:cs dst cst s.R k (w (n+1))<0:=by obtain⟨_,q⟩:=bf5 g k (w (n+1)) dP;rw[kb]at q;rcases q with q|q<;>omega
 exact⟨w (n+1),k,rfl,k1,kn,kb,λm h1 h2 e=>kf m h2 ⟨h1,e⟩,dfa,neg⟩
def dp1(h:Iv src dst cst Y0 ts n p ts.length s)(hx:s.x=none):∀t∈ts,Kp src dst cst s.Y t:=λt ht=>by obtain⟨L,Tm,τ,g⟩:=h.gh;obtain⟨j,hj,e⟩:=U3.mp ht;exact g.k1 j t (by rw[A2 hj,e]) hj (g.x0 hx _)
def ew3(h:Iv src dst cst Y0 ts n p ts.length s)(hx:s.x=none)(h0:gy Y0 n=0)(hbase:∀D,Dt src dst cst ts n D->∀j,j<=n->gy Y0 j<=D j):gy s.Y n=0:=by have ak:=dp1 h hx;have hD:Dt src dst cst ts n (λj=>gy s.Y j-gy s.Y n):=⟨by show gy s.Y n-gy s.Y n=0;omega,λt ht=>by have:gy s.Y (dst t)<=gy s.Y (src t)+cst t:=ak t ht;show gy s.Y (dst t)-gy s.Y n<=gy s.Y (src t)-gy s.Y n+cst t;omega⟩;have q:gy s.Y n<=gy s.Y n-gy s.Y n:=h.low _ hD (hbase _ hD) n (D4 _);have:=h.up n;omega
def et7(h:Iv src dst cst Y0 ts n p ts.length s)(hx:s.x=none)(h0:gy Y0 n=0)(hbase:∀D,Dt src dst cst ts n D->∀j,j<=n->gy Y0 j<=D j):Dt src dst cst ts n (gy s.Y):=⟨ew3 h hx h0 hbase,λt ht=>dp1 h hx t ht⟩
end
def pN(n:Nat):T->Nat
 |.int i=>i.toNat
 |_=>n
def bW(n:Nat):T->Nat
 |.tup (a::_)=>pN n a
 |_=>n
def bL(n:Nat):T->Nat
 |.tup (_::b::_)=>pN n b
 |_=>n
def bQ:T->Int
 |.tup (_::_::.int c::_)=>c
 |_=>0
def nP(h:Pl n a):pN n a<=n/\cZ [a,.int (n:Int)]=.ok (.int ((pN n a:Nat):Int))/\cQ a=true/\frz a=a/\cK a=true:=by
 rcases h with rfl|⟨i,hi,rfl⟩
 . exact⟨D4 _,ch9 _,rfl,rfl,rfl⟩
 . exact⟨by simp[pN];omega,by simpa[pN]using di1 (i:Int) n,rfl,rfl,rfl⟩
def wS{Y:ah}{i:Nat}(h:i<Y.length):atI (Y.map T.int) (i:Int)=some (.int (gy Y i)):=uO h
def aj0(h:StepN n t):bW n t<=n/\bL n t<=n:=by obtain⟨a,b,c,d,rfl,ha,hb,hd⟩:=h;exact⟨(nP ha).1,(nP hb).1⟩
def ey5{n:Nat}{Y:ah}(hy:Y.length=n+1){t:T}(h:StepN n t):zG [t,.lst false (Y.map .int)]=.ok (.bl (decide (Kp (bW n) (bL n) bQ Y t))):=by
 obtain⟨a,b,c,d,rfl,ha,hb,hd⟩:=h;obtain⟨la,pa,na,za,ca⟩:=nP ha;obtain⟨lb,pb,nb,zb,cb⟩:=nP hb;have qa:=wS (Y:=Y) (i:=pN n a) X8;have qb:=wS (Y:=Y) (i:=pN n b) X8;have key:decide (Kp (bW n) (bL n) bQ Y (.tup [a,b,.int c,d]))=decide (gy Y (pN n b)<=gy Y (pN n a)+c):=rfl;rw[key];unfold zG yU;have el:(((Y.map T.int).length:Nat):Int)-1=(n:Int):=by rw[B7,hy];omega
 have b0:=@kD T;have b1:=@jM T;have b2:=@rO T;clear ha hb hd key hy;generalize gy Y (pN n a)=A at*;generalize gy Y (pN n b)=B at*;generalize Y.map T.int=L at*;walk_at "e"
def xT:Option Nat->T
 |none=>.non
 |some a=>.int a
def Rt(R:b_):List T:=R.map λo=>o.getD .non
def eq7(R:b_)(k:Nat)(t:T):Rt (R.set k (some t))=(Rt R).set k t:=by unfold Rt;rw[List.map_set];rfl
def fg3(Y:ah)(k:Nat)(v:Int):(Y.set k v).map T.int=(Y.map T.int).set k (.int v):=List.map_set
def one_len:(one (bW n) (bL n) bQ s t).Y.length=s.Y.length/\(one (bW n) (bL n) bQ s t).R.length=s.R.length:=by unfold one;split<;>simp
def an5(h:k<l):pU l (k:Int)=some k:=by unfold pU;simp;omega
def ep1{n:Nat}{ts:aw}(h:∀t∈ts,StepN n t){Y:ah}{R:b_}(hy:Y.length=n+1)(hr:R.length=n+1):
 kC (.lst false ts) (.lst true (Y.map .int)) (.lst true (Rt R))=.ok (xT (yQ (bW n) (bL n) bQ ts ⟨Y,R,none⟩).x,.lst true ((yQ (bW n) (bL n) bQ ts ⟨Y,R,none⟩).Y.map .int),.lst true (Rt (yQ (bW n) (bL n) bQ ts ⟨Y,R,none⟩).R)):=by
 unfold kC qW;have no:=gR λt ht=>(h t ht).st;have el:(((Y.map T.int).length:Nat):Int)-1=(n:Int):=by rw[B7,hy];omega
 have en:((n+1:Nat):Int)-1=(n:Int):=X8
 walk_at "e";generalize hL:cY _ _ _ _=o;obtain⟨ρ',rfl,o5,rfl,l1,l2⟩:=fY (λi U=>∃(o5:be),U=[some (.lst false ts),some (.lst true (((ts.take i).foldl (one (bW n) (bL n) bQ) ⟨Y,R,none⟩).Y.map .int)),some (.lst true (Rt ((ts.take i).foldl (one (bW n) (bL n) bQ) ⟨Y,R,none⟩).R)),some (.int n),some (xT ((ts.take i).foldl (one (bW n) (bL n) bQ) ⟨Y,R,none⟩).x),o5]/\((ts.take i).foldl (one (bW n) (bL n) bQ) ⟨Y,R,none⟩).Y.length=n+1/\((ts.take i).foldl (one (bW n) (bL n) bQ) ⟨Y,R,none⟩).R.length=n+1) hL ⟨_,rfl,hy,hr⟩ (by
  rintro i t U et ⟨o5,rfl,l1,l2⟩;have tm:=C4 et;have es:(ts.take (i+1)).foldl (one (bW n) (bL n) bQ) ⟨Y,R,none⟩=one (bW n) (bL n) bQ ((ts.take i).foldl (one (bW n) (bL n) bQ) ⟨Y,R,none⟩) t:=by rw[List.take_add_one,et,List.foldl_append];rfl
  rw[es];clear es;generalize(ts.take i).foldl (one (bW n) (bL n) bQ) ⟨Y,R,none⟩=s at*;have hs:=h t tm;have kk:=ey5 l1 hs;obtain⟨n1,c1,z1⟩:=kY (hs.st);have o1:(one (bW n) (bL n) bQ s t).Y.length=n+1:=by rw[one_len.1,l1]
  have o2:(one (bW n) (bL n) bQ s t).R.length=n+1:=by rw[one_len.2,l2]
  by_cases k:Kp (bW n) (bL n) bQ s.Y t
  . have e1:one (bW n) (bL n) bQ s t=s:=by unfold one;rw[C7 k]
    rw[E8 k]at kk;rw[e1];clear hL et h no el en k e1 o1 o2 hs tm;walk_at "e";exact⟨_,rfl⟩
  . obtain⟨a,b,c,d,rfl,ha,hb,hd⟩:=hs;obtain⟨la,pa,na,za,ca⟩:=nP ha;obtain⟨lb,pb,nb,zb,cb⟩:=nP hb;have qb:=wS (Y:=s.Y) (i:=pN n b) X8;have e1:one (bW n) (bL n) bQ s (.tup [a,b,.int c,d])=⟨s.Y.set (pN n a) (gy s.Y (pN n b)-c),s.R.set (pN n a) (some (.tup [a,b,.int c,d])),some (pN n a)⟩:=by unfold one;rw[D3 k];rfl
    rw[D6 k]at kk;rw[e1]at o1 o2⊢;have x1:pU (n+1) ((pN n a:Nat):Int)=some (pN n a):=an5 X8;have x2:(Rt s.R).length=n+1:=by unfold Rt;rw[B7];omega
    have nd:cQ d=true/\cK d=true/\frz d=d:=by rcases hd with rfl|⟨i,rfl⟩<;>exact⟨rfl,rfl,rfl⟩
    obtain⟨nd,cd,zd⟩:=nd;have b0:=@kD T;have b1:=@jM T;have b2:=@rO T;simp only[eq7,fg3,xT];clear hL et h no el en k e1 tm ha hb hd o1 o2 z1 n1 c1;walk_at "e";exact⟨_,rfl,by rw[N0];exact l1,by rw[N0];exact l2⟩)
 rw[List.take_length]at*;have ep:ts.foldl (one (bW n) (bL n) bQ) ⟨Y,R,none⟩=yQ (bW n) (bL n) bQ ts ⟨Y,R,none⟩:=rfl;rw[ep];generalize yQ (bW n) (bL n) bQ ts ⟨Y,R,none⟩=s at*;have nx:cQ (xT s.x)=true:=by cases s.x<;>rfl
 clear hL h;walk_at "e"
def dG(n:Nat)(R:b_)(P:Nat)(m:Nat):T:=(Rt R).getD (it (nx (bL n) R) m P) .non
def eq4{R:b_}{a:Nat}{t:T}(e:R[a]?=some (some t)):atI (Rt R) (a:Int)=some t:=gG (by unfold Rt;rw[E3,e];rfl)
def ao3(e:R[a]?=some (some t)):(Rt R).getD a .non=t:=by unfold Rt;rw[A4,E3,e];rfl
theorem bm3(h:∀t,some t∈R->StepN n t):bF (Rt R)=true/\dI (Rt R)=true/\frzs (Rt R)=Rt R:=by
 unfold Rt;induction R with
 |nil=>exact⟨rfl,rfl,rfl⟩
 |cons o R ih=>
  obtain⟨i1,i2,i3⟩:=ih λt ht=>h t (A5 _ ht);cases o with
  |none=>simp only[B9,bF,dI,frzs,i1,i2,i3];exact⟨rfl,rfl,rfl⟩
  |some t=>obtain⟨n1,c1,z1⟩:=kY (h t A9).st;simp only[B9,bF,dI,frzs,i1,i2,i3,Option.getD_some,n1,c1,z1];exact⟨rfl,rfl,trivial⟩
def cy3(h:StepN n t)(e:R[a]?=some (some t)):∃x b c d,t=.tup [x,b,.int c,d]/\cZ [b,.int (n:Int)]=.ok (.int ((nx (bL n) R a:Nat):Int))/\cQ b=true/\cK b=true/\frz b=b/\cQ x=true/\cQ d=true/\cK x=true/\cK d=true:=by
 obtain⟨x,b,c,d,rfl,ha,hb,hd⟩:=h;obtain⟨lb,pb,nb,zb,cb⟩:=nP hb;obtain⟨la,pa,na,za,ca⟩:=nP ha;have nd:cQ d=true/\cK d=true:=by rcases hd with rfl|⟨i,rfl⟩<;>exact⟨rfl,rfl⟩
 refine⟨x,b,c,d,rfl,?_,nb,cb,zb,na,nd.1,ca,nd.2⟩;have:nx (bL n) R a=pN n b:=by simp only[nx,e];rfl
 rw[this];exact pb
def fd0{n:Nat}{ts:aw}(h:∀t∈ts,StepN n t){R:b_}(hr:R.length=n+1)(hR:∀t,some t∈R->StepN n t)(n8:n<=8){a0 P k:Nat}(r:Ring (bW n) (bL n) bQ ts n R a0 P k):
 qP [.lst false (Rt R),.int (a0:Int)]=.ok (.lst true ((List.range k).map (dG n R P))):=by
 unfold qP qX;obtain⟨f1,f2,f3⟩:=bm3 hR;have lR:(Rt R).length=n+1:=by unfold Rt;rw[B7,hr]
 have en:((n+1:Nat):Int)-1=(n:Int):=X8
 have rg:-(2^62)<=((n+1:Nat):Int)/\((n+1:Nat):Int)<2^62:=X8
 have b1:=@jM T;walk_at "e";generalize hL:cY _ _ _ _=o;obtain⟨ρ',rfl,o3,rfl⟩:=fY (λi U=>∃(o3:be),U=[some (.lst false (Rt R)),some (.int ((it (nx (bL n) R) i a0:Nat):Int)),some (.int n),o3,none,none]) hL ⟨_,rfl⟩ (by rintro i t U et ⟨o3,rfl⟩;clear hL et;obtain⟨u,eu,ut,us⟩:=r.dfa i;obtain⟨x,b,c,d,rfl,pb,nb,cb,zb,na,nd,ca,cd⟩:=cy3 (h u ut) eu;have au:=eq4 eu;rw[ay0];generalize nx (bL n) R (it (nx (bL n) R) i a0)=N at*;generalize it (nx (bL n) R) i a0=A at*;clear r h hR eu ut us;walk_at "e";exact⟨_,rfl⟩);clear hL;have eP:it (nx (bL n) R) (fL 0 (((n+1:Nat):Int)).toNat).length a0=P:=by rw[eC,K1];exact r.at0
 rw[eP];clear eP;have df:∀m,∃x b c d,atI (Rt R) ((it (nx (bL n) R) m P:Nat):Int)=some (.tup [x,b,.int c,d])/\dG n R P m=.tup [x,b,.int c,d]/\cZ [b,.int (n:Int)]=.ok (.int ((it (nx (bL n) R) (m+1) P:Nat):Int))/\cQ b=true/\cK b=true/\frz b=b/\cQ x=true/\cQ d=true/\cK x=true/\cK d=true:=λm=>by obtain⟨u,eu,ut,us⟩:=r.df m;obtain⟨x,b,c,d,rfl,pb,rest⟩:=cy3 (h u ut) eu;exact⟨x,b,c,d,eq4 eu,ao3 eu,by rw[ay0];exact pb,rest⟩
 obtain⟨x,b,c,d,q1,q2,q3,q4,q5,q6,q7,q8,q9,q10⟩:=df 0;have q1:atI (Rt R) ((P:Nat):Int)=some (.tup [x,b,.int c,d]):=q1;have e0:dG n R P 0=.tup [x,b,.int c,d]:=q2;have q3:cZ [b,.int (n:Int)]=.ok (.int ((it (nx (bL n) R) 1 P:Nat):Int)):=q3;clear q2;have er1:(List.range 1).map (dG n R P)=[.tup [x,b,.int c,d]]:=by rw[<-e0];rfl
 clear e0;have sz:1<=sizeLine:=by have:=F9;omega
 walk_at "e";generalize hW:ah5 _ _ _=o;obtain⟨ρ',m',rfl,⟨j,j1,jk,em,o3',rfl⟩,hc⟩:=cs9 (m:=k-1) (λm U=>∃j,1<=j/\j<=k/\m=k-j/\∃(o3:be),U=[some (.lst false (Rt R)),some (.int ((P:Nat):Int)),some (.int n),o3,some (.lst true ((List.range j).map (dG n R P))),some (.int ((it (nx (bL n) R) j P:Nat):Int))]) hW ⟨1,X8,r.k1,rfl,o3,by rw[er1]⟩ (by have:=r.kn;omega) (by
  rintro m U ⟨j,j1,jk,em,o3,rfl⟩;obtain⟨x,b,c,d,q1,q2,q3,q4,q5,q6,q7,q8,q9,q10⟩:=df j;clear hW;by_cases e:it (nx (bL n) R) j P=P
  . have t1:(((it (nx (bL n) R) j P:Nat):Int)==((P:Nat):Int))=true:=by rw[e];simp
    clear e;walk_at "e"
  . have t1:(((it (nx (bL n) R) j P:Nat):Int)==((P:Nat):Int))=false:=by rw[G3];omega
    have hj:j<k:=by
     apply J5;intro q;have:j=k:=X8
     rw[this]at e;exact e r.back
    have ll:((List.range j).map (dG n R P)).length<=100000:=by have:=r.kn;rw[B7,P7];omega
    have lz:j<sizeLine:=by have:=F9;have:=r.kn;omega
    have er:(List.range (j+1)).map (dG n R P)=(List.range j).map (dG n R P)++[.tup [x,b,.int c,d]]:=by rw[Q9,F7,<-q2];rfl
    have hlr:(List.range j).length=j:=P7;clear e q2;walk_at "e";exact⟨k-(j+1),X8,j+1,X8,hj,rfl,o3,by rw[er]⟩)
 have ek:j=k:=by
  apply J5;intro q;have ne:=r.fst j j1 X8;have t1:(((it (nx (bL n) R) j P:Nat):Int)==((P:Nat):Int))=false:=by rw[G3];omega
  have:(Res.ok true:Res Bool)=.ok false:=by rw[<-hc];clear hc hW;walk_at "e"
  cases this
 subst ek;clear hc hW;walk_at "e"
theorem ao2(x:α):∀n:Nat,(List.replicate n [x]).flatten=List.replicate n x
 |0=>rfl
 |n+1=>by rw[G8,B8,ao2 x n];rfl
def fn3(xs:List α)(k:Nat):eR xs (some 0) (some (k:Int))=xs.take k:=by
 have:=ar0 xs k;unfold eR at this⊢;have e:HT.sIx xs.length 0 (some 0)=HT.sIx xs.length 0 none:=by simp[HT.sIx]
 rw[e];exact this
def Y0(f:Fm):List Int:=List.replicate f.n.length (f.a-1)++[0]
def S0(f:Fm):Rs T:=⟨Y0 f,List.replicate (f.n.length+1) none,none⟩
def cT(f:Fm)(ts:aw)(i:Nat):Rs T:=ay5 (bW f.n.length) (bL f.n.length) bQ ts (S0 f) i
theorem dx4{n:Nat}{ts:aw}:∀{s:Rs T},(ts.foldl (one (bW n) (bL n) bQ) s).Y.length=s.Y.length/\(ts.foldl (one (bW n) (bL n) bQ) s).R.length=s.R.length:=by
 induction ts with
 |nil=>intro s;exact⟨rfl,rfl⟩
 |cons t ts ih=>intro s;rw[R1,ih.1,ih.2];exact one_len
theorem bn2(f:Fm)(ts:aw):∀i,(cT f ts i).Y.length=f.n.length+1/\(cT f ts i).R.length=f.n.length+1
 |0=>by unfold cT ay5 S0 Y0;simp
 |i+1=>by have ih:=bn2 f ts i;have:=dx4 (n:=f.n.length) (ts:=ts) (s:=⟨(cT f ts i).Y,(cT f ts i).R,none⟩);exact⟨this.1.trans ih.1,this.2.trans ih.2⟩
def co8(h:∀t∈ts,StepN f.n.length t):Iv (bW f.n.length) (bL f.n.length) bQ (Y0 f) ts f.n.length (f.n.length+1) ts.length (cT f ts (f.n.length+1)):=
 Iv.runs (λt ht=>aj0 (h t ht)) (by unfold Y0;simp) f.n.length
theorem cj6(h:∀t∈ts,StepN f.n.length t):∀i,∀t,some t∈(cT f ts i).R->t∈ts
 |0,t,ht=>by unfold cT ay5 S0 at ht;have:=List.eq_of_mem_replicate ht;cases this
 |i+1,t,ht=>by
  have key:∀(us:aw)(s:Rs T),(∀u∈us,u∈ts)->(∀t,some t∈s.R->t∈ts)->∀t,some t∈(us.foldl (one (bW f.n.length) (bL f.n.length) bQ) s).R->t∈ts:=by
   intro us;induction us with
   |nil=>exact λs _ hs=>hs
   |cons u us ih=>
    intro s hu hs;refine ih _ (λv hv=>hu v (A5 _ hv)) λt ht=>?_;unfold one at ht;split at ht
    . exact hs t ht
    . rcases List.mem_or_eq_of_mem_set ht with q|q
      . exact hs t q
      . cases q;exact hu u A9
  exact key ts ⟨(cT f ts i).Y,(cT f ts i).R,none⟩ (λ_ hu=>hu) (λt ht=>cj6 h i t ht) t ht
def ec0(n:Nat):Rt (List.replicate n none)=List.replicate n .non:=by unfold Rt;rw[V1];rfl
theorem be9(g:Gd f)(h:∀t∈ts,StepN f.n.length t):
 ((cT f ts (f.n.length+1)).x=none/\jQ [cB false f,.lst false ts]=.ok (.tup [.str "dating",.lst true (((cT f ts (f.n.length+1)).Y.take f.n.length).map .int)]))\/
 ∃a0 P k,(cT f ts (f.n.length+1)).x=some a0/\Ring (bW f.n.length) (bL f.n.length) bQ ts f.n.length (cT f ts (f.n.length+1)).R a0 P k/\jQ [cB false f,.lst false ts]=.ok (.tup [.str "ring",.lst true ((List.range k).map (dG f.n.length (cT f ts (f.n.length+1)).R P))]):=by
 have iv:=co8 h;have rl:=bn2 f ts;have rR:=cj6 h;have n8:=g.n8;have fl:=mW false f;have ff:=as1 false f;have no:=gR λt ht=>(h t ht).st;have zs:frzs ts=ts:=jC λt ht=>(h t ht).st;have hY0:(cT f ts 0).Y.map T.int=List.replicate f.n.length (T.int (f.a-1))++[T.int 0]:=by unfold cT ay5 S0 Y0;rw[F7,V1];rfl
 have hR0:Rt (cT f ts 0).R=List.replicate (f.n.length+1) T.non:=ec0 _;have hx0:(cT f ts 0).x=none:=rfl;obtain⟨o6,loop⟩:∃o6:Option T,cY (aJ 6) (aw0 5 1 3 4 kC) (fL 0 (f.n.length+1)) [some (cB false f),some (.lst false ts),some (.int f.n.length),some (.lst true (List.replicate f.n.length (T.int (f.a-1))++[T.int 0])),some (.lst true (List.replicate (f.n.length+1) T.non)),some .non,none]=.nx [some (cB false f),some (.lst false ts),some (.int f.n.length),some (.lst true ((cT f ts (f.n.length+1)).Y.map .int)),some (.lst true (Rt (cT f ts (f.n.length+1)).R)),some (xT (cT f ts (f.n.length+1)).x),o6]:=by
  generalize hL:cY _ _ _ _=o;obtain⟨ρ',rfl,o6,rfl⟩:=fY (λi U=>∃(o6:be),U=[some (cB false f),some (.lst false ts),some (.int f.n.length),some (.lst true ((cT f ts i).Y.map .int)),some (.lst true (Rt (cT f ts i).R)),some (xT (cT f ts i).x),o6]) hL ⟨none,by rw[hY0,hR0,hx0];rfl⟩ (by
   rintro i t U et ⟨o6,rfl⟩;have er:=ep1 h (rl i).1 (rl i).2;have es:yQ (bW f.n.length) (bL f.n.length) bQ ts ⟨(cT f ts i).Y,(cT f ts i).R,none⟩=cT f ts (i+1):=rfl;rw[es]at er;obtain⟨f1,f2,f3⟩:=bm3 (n:=f.n.length) (R:=(cT f ts (i+1)).R) λt ht=>h t (rR (i+1) t ht);have c1:dI ((cT f ts (i+1)).Y.map T.int)=true:=lV _;have cx:cK (xT (cT f ts (i+1)).x)=true/\cQ (xT (cT f ts (i+1)).x)=true:=by cases(cT f ts (i+1)).x<;>exact⟨rfl,rfl⟩
   have cc:bb0 kC 1 3 4 [some (cB false f),some (.lst false ts),some (.int f.n.length),some (.lst true ((cT f ts i).Y.map .int)),some (.lst true (Rt (cT f ts i).R)),some (xT (cT f ts i).x),some t]=some (xT (cT f ts (i+1)).x,.lst true ((cT f ts (i+1)).Y.map .int),.lst true (Rt (cT f ts (i+1)).R)):=by
    have z:frz (.lst false ts)=.lst false ts:=by simp only[frz,zs]
    simp only[bb0,List.getElem?_cons_zero,List.getElem?_cons_succ,z,er,cK,c1,f2,cx.1,cx.2,J4,L9]
   show yA _ (aw0 5 1 3 4 kC) (some _);simp only[yA,aJ,List.set_cons_succ,List.set_cons_zero,aw0,cc,Go];exact⟨_,rfl⟩)
  rw[eC];exact⟨o6,rfl⟩
 have g1:bF [T.int (f.a-1)]=true/\-(2^63)<=(f.n.length:Int)/\(f.n.length:Int)<2^63/\[T.int (f.a-1)].length*((f.n.length:Int)).toNat<=2^24:=⟨rfl,X8,X8,by simp;omega⟩;have g2:bF [T.non]=true/\-(2^63)<=(f.n.length:Int)+1/\(f.n.length:Int)+1<2^63/\[T.non].length*((f.n.length:Int)+1).toNat<=2^24:=⟨rfl,X8,X8,by simp;omega⟩;have m1:pD (.lst true [T.int (f.a-1)]) (.int f.n.length)=.ok (.lst true (List.replicate f.n.length (T.int (f.a-1)))):=by simp only[pD];rw[gM g1,ao2,K1]
 have m2:pD (.lst true [T.non]) (.int ((f.n.length:Int)+1))=.ok (.lst true (List.replicate (f.n.length+1) T.non)):=by simp only[pD];rw[gM g2,ao2];congr
 have nr:bF (List.replicate f.n.length (T.int (f.a-1)))=true:=by rw[sG];simp[cQ]
 have a1:bS (.lst true (List.replicate f.n.length (T.int (f.a-1)))) (.lst true [.int 0])=.ok (.lst true (List.replicate f.n.length (T.int (f.a-1))++[T.int 0])):=by rw[bw9,gM ⟨by rw[nr];rfl,by have:=F9;simp;omega⟩]
 have sz1:1<=sizeLine:=by have:=F9;omega
 have rg1:iW [.int ((f.n.length:Int)+1)]=.ok (fL 0 (f.n.length+1)):=by rw[aw5,gM ⟨X8,X8⟩];congr
 have lnames:dU [.lst false (f.n.map T.str)]=.ok (.int f.n.length):=by rw[am5];simp only[B7]
 clear g1 g2 hY0 hR0 hx0 rl no;unfold jQ tL;cases hx:(cT f ts (f.n.length+1)).x with
 |none=>
  rw[hx]at loop;refine .inl ⟨rfl,?_⟩;have lt:xT none=T.non:=rfl;rw[lt]at loop;have cu:eR ((cT f ts (f.n.length+1)).Y.map T.int) (some 0) (some (f.n.length:Int))=((cT f ts (f.n.length+1)).Y.take f.n.length).map T.int:=by rw[fn3,V7]
  clear hx iv rR h zs nr lt n8 g;generalize cT f ts (f.n.length+1)=s at*;generalize List.replicate (f.n.length+1) T.non=L2 at*;walk_at "e"
 |some a0=>
  obtain⟨P,k,r⟩:=es3 (λt ht=>aj0 (h t ht)) iv hx;rw[hx]at loop;refine .inr ⟨a0,P,k,rfl,r,?_⟩;have lt:xT (some a0)=T.int a0:=rfl;rw[lt]at loop;have er:=fd0 h iv.lr (λt ht=>h t (rR _ t ht)) n8 r;obtain⟨f1,f2,f3⟩:=bm3 (n:=f.n.length) (R:=(cT f ts (f.n.length+1)).R) λt ht=>h t (rR _ t ht);have cr:dI ((List.range k).map (dG f.n.length (cT f ts (f.n.length+1)).R P))=true:=by rw[ac5,J6];intro t ht;obtain⟨m,_,rfl⟩:=K8.mp ht;obtain⟨u,eu,ut,_⟩:=r.df m;unfold dG;rw[ao3 eu];exact(kY (h u ut).st).2.1
  clear hx iv rR h zs nr lt n8 g r;generalize cT f ts (f.n.length+1)=s at*;generalize List.replicate (f.n.length+1) T.non=L2 at*;walk_at "e"
def sc(t:T):Prop:=t=.non\/∃i:Int,t=.int i
def yV:T->T->Bool
 |.non,.non=>true
 |.int i,.int j=>i==j
 |_,_=>false
def co4(hx:sc x)(hy:sc y):yV x y=true↔x=y:=by rcases hx with rfl|⟨i,rfl⟩<;>rcases hy with rfl|⟨j,rfl⟩<;>simp[yV]
def oJ(hx:sc x):yV x x=true:=(co4 hx hx).mpr rfl
theorem ak0(hx:sc x)(hy:sc y):∀m,mI m x y=some (yV x y)
 |0=>by rcases hx with rfl|⟨i,rfl⟩<;>rcases hy with rfl|⟨j,rfl⟩<;>rfl
 |m+1=>by rcases hx with rfl|⟨i,rfl⟩<;>rcases hy with rfl|⟨j,rfl⟩<;>rfl
def fu0(hx:sc x)(hy:sc y):tF x y=.ok (.bl (!yV x y)):=by rcases hx with rfl|⟨i,rfl⟩<;>rcases hy with rfl|⟨j,rfl⟩<;>rfl
def fp1(hx:sc x)(hy:sc y):fI x y=.ok (.bl (yV x y)):=by rcases hx with rfl|⟨i,rfl⟩<;>rcases hy with rfl|⟨j,rfl⟩<;>rfl
theorem by1(ht:sc t):∀us:List T,(∀u∈us,sc u)->uN t us=some (us.map λu=>yV u t)
 |[],_=>rfl
 |u::us,h=>by rw[uN,ak0 (h u A9) ht,by1 ht us λv hv=>h v (A5 _ hv)];rfl
def dy1{t:T}(ht:sc t){us:aw}(h:∀u∈us,sc u):((us.map λu=>yV u t).any id=true)↔t∈us:=by
 rw[List.any_map,O5];constructor
 . rintro⟨u,hu,e⟩;rw[<-(co4 (h u hu) ht).mp e];exact hu
 . exact λhu=>⟨t,hu,oJ ht⟩
def qJ(h:Pl n a):sc a:=h.imp_right λ⟨i,_,e⟩=>⟨_,e⟩
def rS(m:Nat)(x y:T)(xs ys:aw):oB m (x::xs) (y::ys)=(mI m x y).bind λb=>(oB m xs ys).map λes=>b::es:=by rw[oB]
def as7(m:Nat):oB m [] []=some []:=by rw[oB];intros;simp_all
def ed0(m:Nat)(xs ys:aw):mI (m+1) (.tup xs) (.tup ys)=(oB m xs ys).map λes=>es.all id&&xs.length==ys.length:=by rw[mI]
def de4(ht:StepN n t)(hu:StepN n u):∃b,mI (m+1) u t=some b/\(u=t->b=true):=by
 obtain⟨a,b,c,d,rfl,ha,hb,hd⟩:=ht;obtain⟨a',b',c',d',rfl,ha',hb',hd'⟩:=hu;refine⟨[yV a' a,yV b' b,yV (.int c') (.int c),yV d' d].all id&&[a',b',T.int c',d'].length==[a,b,T.int c,d].length,?_,λe=>?_⟩
 . rw[ed0,rS,rS,rS,rS,as7,ak0 (qJ ha') (qJ ha),ak0 (qJ hb') (qJ hb),ak0 (.inr ⟨c',rfl⟩) (.inr ⟨c,rfl⟩),ak0 hd' hd];rfl
 . cases e;have e1:=oJ (qJ ha);have e2:=oJ (qJ hb);have e3:=oJ (x:=.int c) (.inr ⟨c,rfl⟩);have e4:=oJ hd;simp only[List.all_cons,List.all_nil,id,e1,e2,e3,e4,J4,List.length_cons,List.length_nil];rfl
theorem bo4(ht:StepN n t):∀us:List T,(∀u∈us,StepN n u)->∃es,uN t us=some es/\(t∈us->es.any id=true)
 |[],_=>⟨[],rfl,λh=>by cases h⟩
 |u::us,h=>by
  obtain⟨es,e1,e2⟩:=bo4 ht us λv hv=>h v (A5 _ hv);obtain⟨b,b1,b2⟩:=de4 (m:=dJ-1) ht (h u A9);have b1:mI dJ u t=some b:=b1;refine⟨b::es,by rw[uN,b1,e1];rfl,λhm=>?_⟩;rw[List.any_cons];rcases B6.mp hm with q|q
  . rw[b2 q.symm];rfl
  . rw[e2 q,Bool.or_true]
def vA(x:Int):gY [.int x]=.ok (.bl true):=by unfold gY vO;walk_at "e"
def at8(h:∀u∈ts,StepN n u)(ht:t∈ts):jY [t,.lst false ts]=.ok (.bl true):=by
 have st:=h t ht;obtain⟨es,e1,e2⟩:=bo4 st ts h;have e2:=e2 ht;have ei:inT false t (.lst false ts)=.ok (.bl true):=by
  rw[inT.eq_1,e1]
  . simp[e2]
 obtain⟨n1,c1,z1⟩:=kY st.st;have no:=gR λt ht=>(h t ht).st;obtain⟨a,b,c,d,rfl,ha,hb,hd⟩:=st;unfold jY qN;walk_at "B";have kw:=vA c;have sz3:3<=sizeLine:=by have:=F9;omega
 have t4:(((4:Nat):Int)==4)=true:=rfl;have body:∀(x:T),sc x->∀o2:Option T,(cI (kF Ai7 (fK (eS (aW 1 gY (aD (aB 2) aI))))) Af9 bN) [some (.tup [a,b,.int c,d]),some (.lst false ts),some x]=.nx [some (.tup [a,b,.int c,d]),some (.lst false ts),some x]:=by
  intro x hx o2;rcases hx with rfl|⟨i,rfl⟩
  . clear ei e1 e2 h ht z1 n1 c1 no kw ha hb hd;walk_at "e"
  . have kw2:=vA i;clear ei e1 e2 h ht z1 n1 c1 no kw ha hb hd;walk_at "e"
 have na:cQ a=true/\cK a=true/\frz a=a:=by rcases ha with rfl|⟨i,_,rfl⟩<;>exact⟨rfl,rfl,rfl⟩
 have nb:cQ b=true/\cK b=true/\frz b=b:=by rcases hb with rfl|⟨i,_,rfl⟩<;>exact⟨rfl,rfl,rfl⟩
 have nd:cQ d=true/\cK d=true/\frz d=d:=by rcases hd with rfl|⟨i,rfl⟩<;>exact⟨rfl,rfl,rfl⟩
 obtain⟨na,ca,za⟩:=na;obtain⟨nb,cb,zb⟩:=nb;obtain⟨nd,cd,zd⟩:=nd;have loop:cY (aJ 2) (cI (kF Ai7 (fK (eS (aW 1 gY (aD (aB 2) aI))))) Af9 bN) [a,b,d] [some (.tup [a,b,.int c,d]),some (.lst false ts),none]=.nx [some (.tup [a,b,.int c,d]),some (.lst false ts),some d]:=by have q1:=body a (qJ ha) none;have q2:=body b (qJ hb) none;have q3:=body d hd none;simp only[cY,aJ,List.set_cons_succ,List.set_cons_zero,q1,q2,q3]
 clear body e1 e2 h ht z1 n1 c1 ha hb hd;walk_at "e"
def sA:T->T
 |.tup (a::_)=>a
 |_=>.non
def sB:T->T
 |.tup (_::b::_)=>b
 |_=>.non
def Ch:T->List T->T->Prop
 |x,[],y=>x=y
 |x,t::r,y=>sA t=x/\Ch (sB t) r y
def ed6(ha:Pl n a)(hb:Pl n b)(e:pN n a=pN n b):a=b:=by
 rcases ha with rfl|⟨i,hi,rfl⟩<;>rcases hb with rfl|⟨j,hj,rfl⟩
 . rfl
 . simp[pN]at e;omega
 . simp[pN]at e;omega
 . simp[pN]at e;rw[e]
def qK(h:StepN n t):Pl n (sA t)/\Pl n (sB t)/\bW n t=pN n (sA t)/\bL n t=pN n (sB t)/\∃d,t=.tup [sA t,sB t,.int (bQ t),d]/\sc d:=by obtain⟨a,b,c,d,rfl,ha,hb,hd⟩:=h;exact⟨ha,hb,rfl,rfl,d,rfl,hd⟩
theorem cu3{r:Nat->T}(h:∀m,sB (r m)=sA (r (m+1))):∀(j m:Nat),Ch (sA (r m)) ((List.range j).map λi=>r (m+i)) (sA (r (m+j)))
 |0,m=>rfl
 |j+1,m=>by
  rw[W6,B9,J3];refine⟨rfl,?_⟩;have:=cu3 h j (m+1);rw[show m+1+j=m+(j+1) by omega]at this;rw[show sB (r (m+0))=sA (r (m+1)) from h m];have e:((List.range j).map λi=>r (m+1+i))=(List.range j).map ((λi=>r (m+i))∘Nat.succ):=List.map_congr_left λi _=>by show r _=r _;congr 1;omega
  rw[<-e];exact this
theorem bp0:∀(rs:aw)(x:T)(o5:be),(∀t∈rs,StepN n t)->sc x->Ch x rs y->∃o5',cY (aJ 5) (sSeq Ai6 Aj4) rs [a0,a1,a2,a3,some x,o5]=.nx [a0,a1,a2,a3,some y,o5']
 |[],x,o5,_,_,e=>⟨o5,by rw[<-show x=y from e];rfl⟩
 |t::rs,x,o5,h,hx,c=>by
  obtain⟨h1,h2,_,_,d,et,hd⟩:=qK (h t A9);obtain⟨c1,c2⟩:=c;obtain⟨o5',ih⟩:=bp0 (a0:=a0) (a1:=a1) (a2:=a2) (a3:=a3) rs (sB t) (some t) (λu hu=>h u (A5 _ hu)) (qJ h2) c2;refine⟨o5',?_⟩;have one:(sSeq Ai6 Aj4) [a0,a1,a2,a3,some x,some t]=.nx [a0,a1,a2,a3,some (sB t),some t]:=by
   have q1:atI [sA t,sB t,.int (bQ t),d] 0=some (sA t):=kD _ _;have q2:atI [sA t,sB t,.int (bQ t),d] 1=some (sB t):=jM _ _ _;have q3:tF x x=.ok (.bl false):=by rw[fu0 hx hx,oJ hx];rfl
   have q4:cQ (sB t)=true:=by rcases h2 with e|⟨i,_,e⟩<;>rw[e]<;>rfl
   rw[c1]at q1 q2 et;generalize sB t=B at*;generalize bQ t=C at*;subst et;clear ih h h1 h2 c1 c2 hd hx;walk_at "e"
  simp only[cY,aJ,List.set_cons_succ,List.set_cons_zero,one];exact ih
def cj2(h:∀u∈ts,StepN n u)(hr:∀t∈rs,t∈ts)(hl:rs.length<=100)(hx:sc x)(c:Ch x rs x):pC [.lst false rs,.lst false ts,x,x]=.ok (.bl true):=by
 unfold pC pK;have hR:∀t∈rs,StepN n t:=λt ht=>h t (hr t ht);have no:=gR λt ht=>(h t ht).st;have nr:=gR λt ht=>(hR t ht).st;have zs:frzs ts=ts:=jC λt ht=>(h t ht).st;have zr:frzs rs=rs:=jC λt ht=>(hR t ht).st;have nx:cQ x=true/\frz x=x:=by rcases hx with e|⟨i,e⟩<;>rw[e]<;>exact⟨rfl,rfl⟩
 obtain⟨nx,zx⟩:=nx;have hc:cL (aJ 5) cO (aW 2 jY Al2) [some (.lst false rs),some (.lst false ts),some x,some x,none,none] rs=.ok (rs.map λ_=>T.bl true):=by have q:=eO (k:=5) (d:=(aW 2 jY Al2)) (U:=[some (.lst false rs),some (.lst false ts),some x,some x,none,none]) (g:=id) (f:=λ_=>T.bl true) (l:=rs) (λt ht=>by have kk:=at8 h (hr t ht);obtain⟨n1,c1,z1⟩:=kY (hR t ht).st;simp only[id];clear h hr hR c hx;walk_at "e");rwa[List.map_id]at q
 have al:lU false [.lst true (rs.map λ_=>T.bl true)]=.ok (.bl true):=by
  have e:(rs.map λ_=>T.bl true)=(rs.map λ_=>true).map T.bl:=Y1
  rw[e,cb6];simp
 obtain⟨o5,lp⟩:=bp0 (a0:=some (.lst false rs)) (a1:=some (.lst false ts)) (a2:=some x) (a3:=some x) rs x none hR hx c;have ee:fI x x=.ok (.bl true):=by rw[fp1 hx hx,oJ hx]
 have l1:rs.length<=100000:=X8
 have l2:rs.length<=sizeLine:=by have:=F9;omega
 clear h hr hR c hx hl;walk_at "e"
theorem dk0:∀(k a:Nat),(∀m,m<k->∃t,R[it (nx (bL n) R) m a]?=some (some t))->((List.range k).map λm=>bQ (dG n R a m)).sum=cs (bL n) bQ R k a
 |0,a,_=>rfl
 |k+1,a,h=>by obtain⟨t,et⟩:=h 0 X8;have et:R[a]?=some (some t):=et;have ih:=dk0 k (nx (bL n) R a) (λm hm=>h (m+1) X8);rw[W6,B9,J3,List.sum_cons];have e0:dG n R a 0=t:=ao3 et;have e1:((List.range k).map ((λm=>bQ (dG n R a m))∘Nat.succ))=(List.range k).map λm=>bQ (dG n R (nx (bL n) R a) m):=rfl;rw[e0,e1,ih];simp only[cs,et]
def ej2(r:Ring (bW n) (bL n) bQ ts n R a0 P k)(hij:i<j)(hj:j<k):it (nx (bL n) R) i P≠it (nx (bL n) R) j P:=λe=>by
 have e1:it (nx (bL n) R) (k-j+j) P=P:=by rw[show k-j+j=k by omega];exact r.back
 rw[wG,<-e,<-wG]at e1;exact r.fst (k-j+i) X8 X8 e1
def ci6(h:∀u∈ts,StepN n u)(n8:n<=8)(r:Ring (bW n) (bL n) bQ ts n R a0 P k):rA [.lst false ((List.range k).map (dG n R P)),.lst false ts]=.ok (.bl true):=by
 have kn:=r.kn;have k1:=r.k1;have fact:∀m,dG n R P m∈ts/\bW n (dG n R P m)=it (nx (bL n) R) m P/\bL n (dG n R P m)=it (nx (bL n) R) (m+1) P:=λm=>by obtain⟨u,eu,ut,us⟩:=r.df m;have e:dG n R P m=u:=ao3 eu;rw[e,ay0];exact⟨ut,us,by simp only[nx,eu]⟩
 have hq:∀m,StepN n (dG n R P m):=λm=>h _ (fact m).1;have link:∀m,sB (dG n R P m)=sA (dG n R P (m+1)):=λm=>by obtain⟨p1,p2,p3,p4,_⟩:=qK (hq m);obtain⟨q1,q2,q3,q4,_⟩:=qK (hq (m+1));refine ed6 p2 q1 ?_;rw[<-p4,<-q3,(fact m).2.2,(fact (m+1)).2.1]
 have e0k:dG n R P k=dG n R P 0:=by unfold dG;rw[r.back];rfl
 have ch:Ch (sA (dG n R P 0)) ((List.range k).map (dG n R P)) (sA (dG n R P 0)):=by have:=cu3 (r:=dG n R P) link k 0;simp only[R9,e0k]at this;exact this
 obtain⟨rs,hrs⟩:∃rs,(List.range k).map (dG n R P)=rs:=⟨_,rfl⟩;have lrs:rs.length=k:=by rw[<-hrs];simp
 have mem:∀t∈rs,t∈ts:=λt ht=>by rw[<-hrs]at ht;obtain⟨m,_,rfl⟩:=K8.mp ht;exact(fact m).1
 have s0:=(qK (hq 0)).1;have kc:=cj2 h mem X8 (qJ s0) (by rw[<-hrs];exact ch);have ks:=at8 h (fact 0).1;have a0':atI rs 0=some (dG n R P 0):=by
  have:rs[0]?=some (dG n R P 0):=by rw[<-hrs,E3,O0 X8];rfl
  exact gG (j:=0) this
 have mS:∀t∈rs,StepN n t:=λt ht=>h t (mem t ht);have nr:=gR λt ht=>(mS t ht).st;have no:=gR λt ht=>(h t ht).st;have zs:frzs ts=ts:=jC λt ht=>(h t ht).st;have zr:frzs rs=rs:=jC λt ht=>(mS t ht).st;have c1:∀o2 o4:Option T,cL (aJ 3) cO (aU Ah6) [some (.lst false rs),some (.lst false ts),o2,none,o4] rs=.ok (rs.map sA):=λo2 o4=>by
  have q:=eO (k:=3) (d:=(aU Ah6)) (U:=[some (.lst false rs),some (.lst false ts),o2,none,o4]) (g:=id) (f:=sA) (l:=rs) (λt ht=>by
   obtain⟨p1,_,_,_,d,et,_⟩:=qK (mS t ht);have q1:atI [sA t,sB t,.int (bQ t),d] 0=some (sA t):=kD _ _;have q4:cQ (sA t)=true:=by rcases p1 with e|⟨i,_,e⟩<;>rw[e]<;>rfl
   simp only[id];generalize sA t=A at*;generalize sB t=B at*;generalize bQ t=C at*;subst et;clear ht kc ks a0' p1 ch;walk_at "e")
  rwa[List.map_id]at q
 have c3:∀o2 o4:Option T,cL (aJ 3) cO (aU (aF aP (aB 3) Am1)) [some (.lst false rs),some (.lst false ts),o2,none,o4] rs=.ok ((rs.map bQ).map .int):=λo2 o4=>by have q:=eO (k:=3) (d:=(aU (aF aP (aB 3) Am1))) (U:=[some (.lst false rs),some (.lst false ts),o2,none,o4]) (g:=id) (f:=λt=>T.int (bQ t)) (l:=rs) (λt ht=>by obtain⟨p1,_,_,_,d,et,_⟩:=qK (mS t ht);have q1:atI [sA t,sB t,.int (bQ t),d] 2=some (.int (bQ t)):=rO _ _ _ _;simp only[id];generalize sA t=A at*;generalize sB t=B at*;generalize bQ t=C at*;subst et;clear ht kc ks a0' p1 ch;walk_at "e");rw[List.map_id]at q;rw[q,J3];rfl
 have nS:bF (rs.map sA)=true:=by rw[sG,List.all_map,J6];intro t ht;rcases(qK (mS t ht)).1 with e|⟨i,_,e⟩<;>simp[e,cQ]
 have scS:∀u∈rs.map sA,sc u:=λu hu=>by obtain⟨t,ht,rfl⟩:=K8.mp hu;exact qJ (qK (mS t ht)).1
 have atS:∀i,i<k->(rs.map sA)[i]?=some (sA (dG n R P i)):=λi hi=>by rw[<-hrs,J3,E3,O0 hi];rfl
 have c2:∀o3:Option T,cL (aJ 4) cO Al5 [some (.lst false rs),some (.lst false ts),some (.lst true (rs.map sA)),o3,none] (fL 0 k)=.ok ((List.range k).map λ_=>T.bl false):=λo3=>by
  unfold fL;refine eO λi hi=>?_;have hi:=G6.mp hi;have ai:atI (rs.map sA) (0+(i:Int))=some (sA (dG n R P i)):=by rw[W7];exact gG (atS i hi)
  have cu:eR (rs.map sA) none (some (0+(i:Int)))=(rs.map sA).take i:=by rw[W7];exact ar0 _ _
  have si:sc (sA (dG n R P i)):=qJ (qK (hq i)).1;have ei:inT false (sA (dG n R P i)) (.lst true ((rs.map sA).take i))=.ok (.bl false):=by
   have e1:=by1 si ((rs.map sA).take i) λu hu=>scS u (M8 hu);have e2:(((rs.map sA).take i).map λu=>yV u (sA (dG n R P i))).any id=false:=by
    rw[Bool.eq_false_iff];intro q;have hm:=(dy1 si λu hu=>scS u (M8 hu)).mp q;obtain⟨j,e⟩:=List.mem_iff_getElem?.mp hm;have hj:j<i:=by have:=(C8.mp e).1;rw[Q2]at this;omega
    rw[V9 hj,atS j X8]at e;have e:=E9 e;refine ej2 r hj hi ?_;rw[<-(fact j).2.1,<-(fact i).2.1,(qK (hq j)).2.2.1,(qK (hq i)).2.2.1,e]
   rcases si with e|⟨x,e⟩;all_goals
    rw[e]at e1 e2⊢;simp only[inT,e1,e2];rfl
  clear kc ks a0' ch c1 c3 si;generalize sA (dG n R P i)=A at*;walk_at "e"
 have an:lU true [.lst true ((List.range k).map λ_=>T.bl false)]=.ok (.bl false):=by
  have e:((List.range k).map λ_=>T.bl false)=((List.range k).map λ_=>false).map T.bl:=by rw[J3];rfl
  rw[e];simp only[lU,aa4];simp
 have sneg:(rs.map bQ).sum<0:=by
  have:=dk0 (n:=n) (R:=R) k P (λm _=>by obtain⟨t,et,_⟩:=r.df m;exact⟨t,et⟩);have e:rs.map bQ=(List.range k).map λm=>bQ (dG n R P m):=by rw[<-hrs,J3];rfl
  rw[e,this];exact r.neg
 have dneg:decide ((rs.map bQ).sum<0)=true:=E8 sneg;have enil:fI (.lst false rs) (.lst true [])=.ok (.bl false):=by
  cases rs with
  |nil=>simp at lrs;omega
  |cons t rs=>rfl
 rw[hrs];have l1:rs.length<=100000:=X8
 have lz:rs.length<=sizeLine:=by have:=F9;omega
 have rg:-(2^62)<=(k:Int)/\(k:Int)<2^62:=X8
 have tk:(k:Int).toNat=k:=X8
 have li:=eC 0 k;have lk:k<=sizeLine:=by have:=F9;omega
 obtain⟨p1,p2,_,_,d,et,hd⟩:=qK (hq 0);have q1:atI [sA (dG n R P 0),sB (dG n R P 0),.int (bQ (dG n R P 0)),d] 0=some (sA (dG n R P 0)):=kD _ _;have nA:cQ (sA (dG n R P 0))=true/\frz (sA (dG n R P 0))=sA (dG n R P 0):=by rcases p1 with e|⟨i,_,e⟩<;>rw[e]<;>exact⟨rfl,rfl⟩
 obtain⟨nA,zA⟩:=nA;obtain⟨n1,_,z1⟩:=kY (hq 0).st;generalize hq0:dG n R P 0=q0 at*;have ixq:aP q0 (.int 0)=.ok (sA q0):=by rw[et];simp only[cs5];rw[show atI [sA q0,sB q0,T.int (bQ q0),d] 0=some (sA q0) from q1];rfl
 unfold rA qT;have b0:=a0';clear a0' et hq0 fact hq link e0k ch mem mS scS atS sneg h r hd p1 p2 q1 s0 hrs n8 kn k1;walk_at "e"
section
variable{α:Type}(src dst:α->Nat)(cst:α->Int)(ts:List α)
inductive Wk (k:Nat):Nat->Nat->Int->Prop
 |nil (i:Nat):Wk k i i 0
 |step (t:α) (h:t∈ts):Wk k (src t) (dst t) (cst t)
 |join {i m j:Nat} {c d:Int} (h:m<k) (x:Wk k i m c) (y:Wk k m j d):Wk k i j (c+d)
variable{src dst cst ts}{k n i j:Nat}{c:Int}{D:c6}
theorem Wk.pot(hD:∀t∈ts,D (dst t)<=D (src t)+cst t)(x:Wk src dst cst ts k i j c):D j<=D i+c:=by
 induction x with
 |nil i=>omega
 |step t h=>exact hD t h
 |join h x y ix iy=>omega
theorem Wk.split(hD:∀t∈ts,D (dst t)<=D (src t)+cst t)(x:Wk src dst cst ts (k+1) i j c):
 (∃c',c'<=c/\Wk src dst cst ts k i j c')\/∃a b,a+b<=c/\Wk src dst cst ts k i k a/\Wk src dst cst ts k k j b:=by
 induction x with
 |nil i=>exact .inl ⟨0,X8,.nil i⟩
 |step t h=>exact .inl ⟨_,U4 _,.step t h⟩
 |@join i m j c d h x y ix iy=>
  by_cases e:m=k
  . rw[e]at ix iy;rcases ix with⟨c',lc,x'⟩|⟨a,b,lx,xa,xb⟩<;>rcases iy with⟨d',ld,y'⟩|⟨a',b',ly,ya,yb⟩
    . exact .inr ⟨c',d',X8,x',y'⟩
    . have:=ya.pot hD;exact .inr ⟨c',b',X8,x',yb⟩
    . have:=xb.pot hD;exact .inr ⟨a,d',X8,xa,y'⟩
    . have:=xb.pot hD;have:=ya.pot hD;exact .inr ⟨a,b',X8,xa,yb⟩
  . have h:m<k:=X8
    rcases ix with⟨c',lc,x'⟩|⟨a,b,lx,xa,xb⟩<;>rcases iy with⟨d',ld,y'⟩|⟨a',b',ly,ya,yb⟩
    . exact .inl ⟨_,X8,.join h x' y'⟩
    . exact .inr ⟨_,b',X8,.join h x' ya,yb⟩
    . exact .inr ⟨a,_,X8,xa,.join h xb y'⟩
    . have:=(Wk.join h xb ya).pot hD;exact .inr ⟨a,b',X8,xa,yb⟩
theorem Wk.cross{F:ax}(x:Wk src dst cst ts k i j c)(hb:∀t∈ts,src t<k/\dst t<k):i∈F->j∉F->∃t∈ts,src t∈F/\dst t∉F/\∃p r,Wk src dst cst ts k i (src t) p/\Wk src dst cst ts k (dst t) j r/\p+cst t+r=c:=by
 induction x with
 |nil i=>exact λa b=>D8 a b
 |step t h=>exact λa b=>⟨t,h,a,b,0,0,.nil _,.nil _,X8⟩
 |@join i m j c d h x y ix iy=>
  intro a b;by_cases e:m∈F
  . obtain⟨t,h1,h2,h3,p,r,w1,w2,q⟩:=iy e b;exact⟨t,h1,h2,h3,_,r,.join h x w1,w2,X8⟩
  . obtain⟨t,h1,h2,h3,p,r,w1,w2,q⟩:=ix a e;exact⟨t,h1,h2,h3,p,_,w1,.join h w2 y,X8⟩
def en(M:bf)(i j:Nat):Int:=gy (M.getD i []) j
def rlx(M:bf)(i j:Nat)(v:Int):List (List Int):=M.set i ((M.getD i []).set j (if v<en M i j then v else en M i j))
def Tb(n:Nat)(M:bf):Prop:=M.length=n+1/\∀i,i<=n->(M.getD i []).length=n+1
def ar1(M:List β)(i a:Nat)(r z:β)(h:i<M.length):(M.set i r).getD a z=if i=a then r else M.getD a z:=by
 rw[A4,A4,List.getElem?_set];by_cases e:i=a
 . subst e;simp[h]
 . simp[e]
def ee8(h:Tb n M)(hi:i<=n)(hj:j<=n)(v:Int)(a b:Nat):en (rlx M i j v) a b=if i=a/\j=b then(if v<en M i j then v else en M i j)else en M a b:=by
 unfold rlx;generalize(if v<en M i j then v else en M i j)=z;unfold en;rw[ar1 _ _ _ _ _ (by have:=h.1;omega)];by_cases e:i=a
 . subst e;rw[C7 rfl,vX _ _ _ _ (by have:=h.2 i hi;omega)];simp
 . rw[D3 e,D3 (λq=>e q.1)]
theorem Tb.rlx(h:Tb n M)(hi:i<=n)(v:Int):Tb n (Nk23.rlx M i j v):=by
 refine⟨by unfold Nk23.rlx;rw[N0];exact h.1,λa ha=>?_⟩;unfold Nk23.rlx;rw[ar1 _ _ _ _ _ (by have:=h.1;omega)];split
 . rw[N0];exact h.2 i hi
 . exact h.2 a ha
variable(src dst cst ts) in
structure Tw (n:Nat) (M:bf):Prop where
 tb:Tb n M
 wk:∀i j,i<=n->j<=n->Wk src dst cst ts (n+1) i j (en M i j)
variable(src dst cst ts) in
def Bd(n:Nat)(M:bf)(k:Nat):Prop:=∀i j c,i<=n->j<=n->Wk src dst cst ts k i j c->en M i j<=c
variable{M M0:bf}{v:Int}
theorem Tw.rlx(h:Tw src dst cst ts n M)(hi:i<=n)(hj:j<=n)(w:Wk src dst cst ts (n+1) i j v):Tw src dst cst ts n (Nk23.rlx M i j v)/\(∀a b,en (Nk23.rlx M i j v) a b<=en M a b)/\en (Nk23.rlx M i j v) i j<=v:=by
 have e:=ee8 h.tb hi hj v;refine⟨⟨h.tb.rlx hi v,λa b ha hb=>?_⟩,λa b=>?_,?_⟩
 . rw[e];split
   . next q=>obtain⟨rfl,rfl⟩:=q;split;exact w;exact h.wk _ _ ha hb
   . exact h.wk a b ha hb
 . rw[e];split
   . next q=>obtain⟨rfl,rfl⟩:=q;split<;>omega
   . exact U4 _
 . rw[e,C7 ⟨rfl,rfl⟩];split<;>omega
def Bd.next(hD:∀t∈ts,D (dst t)<=D (src t)+cst t)(h:Bd src dst cst ts n M0 k)(hk:k<=n)(h1:∀a b,en M a b<=en M0 a b)(h2:∀a b,a<=n->b<=n->en M a b<=en M0 a k+en M0 k b):Bd src dst cst ts n M (k+1):=λi j c hi hj w=>by
 rcases w.split hD with⟨c',l,w⟩|⟨a,b,l,wa,wb⟩
 . have:=h i j c' hi hj w;have:=h1 i j;omega
 . have:=h i k a hi hk wa;have:=h k j b hk hj wb;have:=h2 i j hi hj;omega
theorem Bd.start(h0:∀i,i<=n->en M i i<=0)(h1:∀t∈ts,en M (src t) (dst t)<=cst t):Bd src dst cst ts n M 0:=λi j c hi hj w=>by
 cases w with
 |nil=>exact h0 i hi
 |step t h=>exact h1 t h
 |join h=>omega
def dg6(hb:∀t∈ts,src t<=n/\dst t<=n)(hD:∀t∈ts,D (dst t)<=D (src t)+cst t)(h:Tw src dst cst ts n M)(hB:Bd src dst cst ts n M (n+1)){s:Nat}(hs:s<=n):
 en M s s=0/\(∀t∈ts,en M s (dst t)<=en M s (src t)+cst t)/\∀F:List Nat,s∈F->∀a,a<=n->a∉F->∃t∈ts,src t∈F/\dst t∉F/\en M s (dst t)=en M s (src t)+cst t:=by
 have st:∀t∈ts,en M s (dst t)<=en M s (src t)+cst t:=λt ht=>hB _ _ _ hs (hb t ht).2 (.join (by have:=(hb t ht).1;omega) (h.wk _ _ hs (hb t ht).1) (.step t ht));refine⟨?_,st,λF hF a ha hn=>?_⟩
 . have:=hB _ _ _ hs hs (.nil s);have:=(h.wk _ _ hs hs).pot hD;omega
 . obtain⟨t,ht,t1,t2,p,r,w1,w2,q⟩:=(h.wk _ _ hs ha).cross (F:=F) (λt ht=>by have:=hb t ht;omega) hF hn;have:=st t ht;have:=hB _ _ _ hs (hb t ht).1 w1;have:=hB _ _ _ hs ha (.join (by have:=(hb t ht).2;omega) (h.wk _ _ hs (hb t ht).2) w2);exact⟨t,ht,t1,t2,X8⟩
end
def tM(o:Bool)(M:bf):T:=.lst o (M.map λr=>.lst o (r.map .int))
def au1(M:bf):cK (tM true M)=true:=by simp only[tM,cK,W1];exact kX (λr=>by simp only[cK,lV,J4]) M
def db9(o:Bool){M:bf}{i:Nat}(h:i<M.length):(M.map λr=>T.lst o (r.map .int))[i]?=some (.lst o ((M.getD i []).map .int)):=by rw[E3,A2 h,A4,A2 h];rfl
def dy8(o:Bool){M:bf}{i:Nat}(h:i<M.length):aP (tM o M) (.int (i:Int))=.ok (.lst o ((M.getD i []).map .int)):=by unfold tM;rw[du9,gG (db9 o h)]
def ay7{q n i j:Nat}{U:Fr}{M:bf}{z:Int}{e ii jj:a8}(h:Tb n M)(hi:i<=n)(hj:j<=n)(hq:U[q]?=some (some (tM true M)))(he:e U=.ok (.int z))(h1:ii U=.ok (.int (i:Int)))(h2:jj U=.ok (.int (j:Int))):
 tU q [] e (wO q cG ii) jj U=.nx (U.set q (some (tM true (M.set i ((M.getD i []).set j z))))):=by
 have li:i<M.length:=by have:=h.1;omega
 have x1:pU (M.map λr=>T.lst true (r.map .int)).length (i:Int)=some i:=an5 (by rw[B7];exact li);have x2:pU ((M.getD i []).map T.int).length (j:Int)=some j:=an5 (by rw[B7,h.2 i hi];omega);have a1:=db9 true li;have p1:wO q cG ii U=.ok [i]:=by simp only[wO,cG,Res.bind,h1,hq,eY,tM,Option.bind,ae8,L9,x1,List.nil_append]
 have p2:eY [i] (tM true M)=some (.lst true ((M.getD i []).map .int)):=by simp only[eY,tM,a1,Option.bind]
 have p3:jW (.lst true (((M.getD i []).map T.int).set j (.int z))) [i] (tM true M)=some (tM true (M.set i ((M.getD i []).set j z))):=by simp only[jW,tM,a1,Option.map,List.map_set]
 simp only[tU,kills,he,hq,p1,p2,h2,x2,TL.zP,p3]
def eu3(h:Tb n M)(hi:i<=n)(hj:j<=n):Tb n (M.set i ((M.getD i []).set j z))/\∀a b,en (M.set i ((M.getD i []).set j z)) a b=if i=a/\j=b then z else en M a b:=by
 have li:i<M.length:=by have:=h.1;omega
 refine⟨⟨by rw[N0];exact h.1,λa ha=>?_⟩,λa b=>?_⟩
 . rw[ar1 _ _ _ _ _ li];split
   . rw[N0];exact h.2 i hi
   . exact h.2 a ha
 . unfold en;rw[ar1 _ _ _ _ _ li];by_cases e:i=a
   . subst e;rw[C7 rfl,vX _ _ _ _ (by have:=h.2 i hi;omega)];simp
   . rw[D3 e,D3 (λq=>e q.1)]
def ec6(g:Gd f):∃M,tZ [cB false f]=.ok (tM true M)/\Tb f.n.length M/\∀a b,a<=f.n.length->b<=f.n.length->en M a b=if a=b then 0 else if a=f.n.length then f.a+f.s else if b=f.n.length then 0-f.a else f.a+f.s-f.a:=by
 have n8:=g.n8;have fl:=mW false f;have ff:=as1 false f;have fp:=am1 false f;have lnames:dU [.lst false (f.n.map T.str)]=.ok (.int f.n.length):=by rw[am5];simp only[B7]
 have m1:∀p:Int,pD (.lst true [T.int p]) (.int f.n.length)=.ok (.lst true (List.replicate f.n.length (T.int p))):=λp=>by simp only[pD];rw[gM ⟨rfl,X8,X8,by simp;omega⟩,ao2,K1]
 have nr:∀p:Int,bF (List.replicate f.n.length (T.int p))=true:=λp=>by rw[sG];simp[cQ]
 have a1:∀p z:Int,bS (.lst true (List.replicate f.n.length (T.int p))) (.lst true [.int z])=.ok (.lst true ((List.replicate f.n.length p++[z]).map .int)):=λp z=>by rw[bw9,gM ⟨by rw[nr];rfl,by have:=F9;simp;omega⟩,F7,V1];rfl
 have sz1:1<=sizeLine:=by have:=F9;omega
 have rg1:iW [.int (f.n.length:Int)]=.ok (fL 0 f.n.length):=by rw[aw5,gM ⟨X8,X8⟩,K1]
 have hc:cL (aJ 3) cO Aj6 [some (cB false f),some (.int f.n.length),none,none] (f.n.map T.str)=.ok (f.n.map λ_=>T.lst true ((List.replicate f.n.length (f.a+f.s-f.a)++[0-f.a]).map .int)):=by refine eO λx _=>?_;clear rg1 lnames nr n8 g;walk_at "e"
 obtain⟨M1,hM⟩:∃M1,M1=List.replicate f.n.length (List.replicate f.n.length (f.a+f.s-f.a)++[0-f.a])++[List.replicate f.n.length (f.a+f.s)++[0]]:=⟨_,rfl⟩;have eM:(f.n.map λ_=>T.lst true ((List.replicate f.n.length (f.a+f.s-f.a)++[0-f.a]).map .int))++[T.lst true ((List.replicate f.n.length (f.a+f.s)++[0]).map .int)]=M1.map λr=>T.lst true (r.map .int):=by simp only[hM,F7,V1,List.map_const',B9,K4]
 have r1:∀a,a<f.n.length->M1.getD a []=List.replicate f.n.length (f.a+f.s-f.a)++[0-f.a]:=λa ha=>by rw[hM,A4,Q3 (by simpa using ha),O3,C7 ha];rfl
 have r2:M1.getD f.n.length []=List.replicate f.n.length (f.a+f.s)++[0]:=by rw[hM,A4,M3 Y1];simp
 have rw1:∀(p z:Int)(b:Nat),b<=f.n.length->gy (List.replicate f.n.length p++[z]) b=if b=f.n.length then z else p:=λp z b hb=>by
  unfold gy;by_cases e:b=f.n.length
  . rw[C7 e,e,A4,M3 Y1];simp
  . rw[D3 e,A4,Q3 (by simp;omega),O3,C7 X8];rfl
 have t1:Tb f.n.length M1:=⟨by rw[hM];simp,λa ha=>by
  by_cases e:a=f.n.length
  . rw[e,r2];simp
  . rw[r1 a X8];simp⟩
 have v1:∀a b,a<=f.n.length->b<=f.n.length->en M1 a b=if a=f.n.length then(if b=f.n.length then 0 else f.a+f.s)else if b=f.n.length then 0-f.a else f.a+f.s-f.a:=λa b ha hb=>by
  unfold en;by_cases e:a=f.n.length
  . rw[C7 e,e,r2,rw1 _ _ _ hb]
  . rw[D3 e,r1 a X8,rw1 _ _ _ hb]
 clear hM r1 r2 rw1;obtain⟨M,o3,loop,tb,val⟩:∃M,∃o3:Option T,cY (aJ 3) (tU 2 [] Al9 (wO 2 cG (aB 3)) (aB 3)) (fL 0 f.n.length) [some (cB false f),some (.int f.n.length),some (.lst true (M1.map λr=>T.lst true (r.map .int))),none]=.nx [some (cB false f),some (.int f.n.length),some (tM true M),o3]/\Tb f.n.length M/\∀a b,a<=f.n.length->b<=f.n.length->en M a b=if a=b/\a<f.n.length then 0 else en M1 a b:=by
  generalize hL:cY _ _ _ _=o;obtain⟨ρ',rfl,M,o3,rfl,tb,val⟩:=fY (λi U=>∃M,∃(o3:be),U=[some (cB false f),some (.int f.n.length),some (tM true M),o3]/\Tb f.n.length M/\∀a b,a<=f.n.length->b<=f.n.length->en M a b=if a=b/\a<i then 0 else en M1 a b) hL ⟨M1,none,rfl,t1,λa b _ _=>by rw[D3 X8]⟩ (by
   rintro i t U et ⟨M,o3,rfl,tb,val⟩;have hi:i<f.n.length:=by have:=(C8.mp et).1;rwa[eC]at this
   have et:t=.int (i:Int):=by unfold fL at et;rw[E3,O0 hi]at et;simpa using et.symm
   subst et;have sc:=ay7 (q:=2) (U:=[some (cB false f),some (.int f.n.length),some (tM true M),some (.int (i:Int))]) (z:=0) (e:=dC (.int 0)) (ii:=aB 3) (jj:=aB 3) tb (i:=i) (j:=i) X8 X8 rfl rfl rfl rfl;show yA _ _ (some [some (cB false f),some (.int f.n.length),some (tM true M),some (.int (i:Int))]);simp only[yA,sc,Go];obtain⟨tb',val'⟩:=eu3 (z:=0) tb (i:=i) (j:=i) X8 X8;refine⟨_,_,rfl,tb',λa b ha hb=>?_⟩;rw[val',val a b ha hb];by_cases e:i=a/\i=b
   . rw[C7 e,C7 X8]
   . rw[D3 e];by_cases e2:a=b/\a<i
     . rw[C7 e2,C7 X8]
     . rw[D3 e2,D3 X8])
  rw[eC]at val;exact⟨M,o3,rfl,tb,val⟩
 refine⟨M,?_,tb,λa b ha hb=>?_⟩
 . unfold tZ tN;have ns:=lT f.n;have cl:=au1 M;have lf:f.n.length<=sizeLine:=by have:=F9;omega
   have lf2:f.n.length<sizeLine:=by have:=F9;omega
   clear tb val v1 t1 g n8 nr;walk_at "e"
 . rw[val a b ha hb,v1 a b ha hb];by_cases e:a=b
   . rw[C7 e];by_cases e2:a=f.n.length
     . rw[D3 X8,C7 e2,C7 X8]
     . rw[C7 X8]
   . rw[D3 X8,D3 e];by_cases e2:a=f.n.length
     . rw[C7 e2,C7 e2,D3 X8]
     . rw[D3 e2,D3 e2]
def ag6(e:(fL 0 m)[i]?=some t):i<m/\t=.int (i:Int):=by
 have hi:i<m:=by have:=(C8.mp e).1;rwa[eC]at this
 refine⟨hi,?_⟩;unfold fL at e;rw[E3,O0 hi]at e;simpa using e.symm
def au5(h:Tb n M)(hi:i<=n)(hj:j<=n):aP (tM true M) (.int (i:Int))=.ok (.lst true ((M.getD i []).map .int))/\atI ((M.getD i []).map T.int) (j:Int)=some (.int (en M i j)):=
 ⟨dy8 true (by have:=h.1;omega),wS (by rw[h.2 i hi];omega)⟩
abbrev rN:Fr->Res (List T):=gK iW Ai1
abbrev rB:Fr->bR:=tU 3 [] (bX mO Ag2) (wO 3 cG (aB 5)) (aB 6)
def dg9{n:Nat}(n8:n<=8)(a0 a1 a3 a4 a5 a6 a7:be):rN [a0,a1,some (.int (n:Int)),a3,a4,a5,a6,a7]=.ok (fL 0 (n+1)):=by
 have rg1:iW [.int ((n:Int)+1)]=.ok (fL 0 (n+1)):=by rw[aw5,gM ⟨X8,X8⟩];congr
 unfold rN;walk_at "e"
section
variable{n k i:Nat}{ts:aw}{M:bf}{D:c6}
abbrev wL(n:Nat)(ts:aw)(M:bf):Prop:=Tw (bW n) (bL n) bQ ts n M
def fp2(n8:n<=8)(h:wL n ts M)(hk:k<=n)(hi:i<=n)(a0 a1 o4 o6:be):∃M' o6',fW rN (aJ 6) rB [a0,a1,some (.int (n:Int)),some (tM true M),o4,some (.int (i:Int)),o6,some (.int (k:Int))]=.nx [a0,a1,some (.int (n:Int)),some (tM true M'),o4,some (.int (i:Int)),o6',some (.int (k:Int))]/\wL n ts M'/\(∀a b,en M' a b<=en M a b)/\∀b,b<=n->en M' i b<=en M i k+en M k b:=by
 simp only[fW,dg9 n8];generalize hL:cY _ _ _ _=o;obtain⟨ρ',rfl,M',o6',rfl,tw,le,dn⟩:=fY (λj U=>∃M',∃(o6':be),U=[a0,a1,some (.int (n:Int)),some (tM true M'),o4,some (.int (i:Int)),o6',some (.int (k:Int))]/\wL n ts M'/\(∀a b,en M' a b<=en M a b)/\∀b,b<j->en M' i b<=en M i k+en M k b) hL ⟨M,o6,rfl,h,λ_ _=>U4 _,λb q=>by omega⟩ (by
  rintro j t U et ⟨M',o6',rfl,tw,le,dn⟩;obtain⟨hj,rfl⟩:=ag6 et;obtain⟨p1,p2⟩:=au5 tw.tb hi (show j<=n by omega);obtain⟨_,p3⟩:=au5 tw.tb hi hk;obtain⟨p4,p5⟩:=au5 tw.tb hk (show j<=n by omega);have w:Wk (bW n) (bL n) bQ ts (n+1) i j (en M' i k+en M' k j):=.join X8 (tw.wk _ _ hi hk) (tw.wk _ _ hk X8);obtain⟨q1,q2,q3⟩:=tw.rlx hi (show j<=n by omega) w;have l1:=le i k;have l2:=le k j;have z:=ay7 (q:=3) (U:=[a0,a1,some (.int (n:Int)),some (tM true M'),o4,some (.int (i:Int)),some (.int (j:Int)),some (.int (k:Int))]) (z:=if en M' i k+en M' k j<en M' i j then en M' i k+en M' k j else en M' i j) (e:=bX mO Ag2) (ii:=aB 5) (jj:=aB 6) tw.tb hi (show j<=n by omega) rfl (by clear hL et tw le dn w q1 q2 q3 l1 l2;walk_at "e") rfl rfl;show yA _ rB (some [a0,a1,some (.int (n:Int)),some (tM true M'),o4,some (.int (i:Int)),some (.int (j:Int)),some (.int (k:Int))]);simp only[yA,rB,z,Go];refine⟨_,_,rfl,q1,λa b=>N2 (q2 a b) (le a b),λb hb=>?_⟩;by_cases e:b=j
  . subst e;have q3:en (rlx M' i b (en M' i k+en M' k b)) i b<=en M' i k+en M' k b:=q3;exact N2 q3 X8
  . exact N2 (q2 i b) (dn b X8))
 rw[eC]at dn;exact⟨M',o6',rfl,tw,le,λb hb=>dn b X8⟩
def fy2(n8:n<=8)(h:wL n ts M)(hk:k<=n)(a0 a1 o4 o5 o6:be):∃M' o5' o6',fW rN (aJ 5) (fW rN (aJ 6) rB) [a0,a1,some (.int (n:Int)),some (tM true M),o4,o5,o6,some (.int (k:Int))]=.nx [a0,a1,some (.int (n:Int)),some (tM true M'),o4,o5',o6',some (.int (k:Int))]/\wL n ts M'/\(∀a b,en M' a b<=en M a b)/\∀a b,a<=n->b<=n->en M' a b<=en M a k+en M k b:=by
 rw[fW,dg9 n8];simp only[];generalize hL:cY _ _ _ _=o;obtain⟨ρ',rfl,M',o5',o6',rfl,tw,le,dn⟩:=fY (λj U=>∃M',∃(o5' o6':be),U=[a0,a1,some (.int (n:Int)),some (tM true M'),o4,o5',o6',some (.int (k:Int))]/\wL n ts M'/\(∀a b,en M' a b<=en M a b)/\∀a b,a<j->b<=n->en M' a b<=en M a k+en M k b) hL ⟨M,o5,o6,rfl,h,λ_ _=>U4 _,λa b q=>by omega⟩ (by
  rintro j t U et ⟨M',o5',o6',rfl,tw,le,dn⟩;obtain⟨hj,rfl⟩:=ag6 et;obtain⟨M2,p6,e,tw2,le2,dn2⟩:=fp2 n8 tw hk (show j<=n by omega) a0 a1 o4 o6';show yA _ _ (some [a0,a1,some (.int (n:Int)),some (tM true M'),o4,some (.int (j:Int)),o6',some (.int (k:Int))]);simp only[yA,e,Go];refine⟨_,_,_,rfl,tw2,λa b=>N2 (le2 a b) (le a b),λa b ha hb=>?_⟩;by_cases q:a=j
  . subst q;have:=dn2 b hb;have:=le a k;have:=le k b;omega
  . exact N2 (le2 a b) (dn a b X8 hb))
 rw[eC]at dn;exact⟨M',o5',o6',rfl,tw,le,λa b ha hb=>dn a b X8 hb⟩
def fs3(n8:n<=8)(hD:∀t∈ts,D (bL n t)<=D (bW n t)+bQ t)(h:wL n ts M)(hB:Bd (bW n) (bL n) bQ ts n M 0)(a0 a1 o4 o5 o6 o7:be):∃M' o5' o6' o7',cY (aJ 7) (fW rN (aJ 5) (fW rN (aJ 6) rB)) (fL 0 (n+1)) [a0,a1,some (.int (n:Int)),some (tM true M),o4,o5,o6,o7]=.nx [a0,a1,some (.int (n:Int)),some (tM true M'),o4,o5',o6',o7']/\wL n ts M'/\Bd (bW n) (bL n) bQ ts n M' (n+1):=by generalize hL:cY _ _ _ _=o;obtain⟨ρ',rfl,M',o5',o6',o7',rfl,tw,bd⟩:=fY (λj U=>∃M',∃(o5' o6' o7':be),U=[a0,a1,some (.int (n:Int)),some (tM true M'),o4,o5',o6',o7']/\wL n ts M'/\Bd (bW n) (bL n) bQ ts n M' j) hL ⟨M,o5,o6,o7,rfl,h,hB⟩ (by rintro j t U et ⟨M',o5',o6',o7',rfl,tw,bd⟩;obtain⟨hj,rfl⟩:=ag6 et;obtain⟨M2,p5,p6,e,tw2,le2,dn2⟩:=fy2 n8 tw (show j<=n by omega) a0 a1 o4 o5' o6';show yA _ _ (some [a0,a1,some (.int (n:Int)),some (tM true M'),o4,o5',o6',some (.int (j:Int))]);simp only[yA,e,Go];exact⟨_,_,_,_,rfl,tw2,bd.next hD X8 le2 dn2⟩);rw[eC]at bd;exact⟨M',o5',o6',o7',rfl,tw,bd⟩
abbrev sB':Fr->bR:=(sSeq (bG [] (aW 2 cZ (aD Ah7 (aD (aB 2) aI))) (aJ 5)) (sSeq (bG [] (aW 2 cZ Aj3) (aJ 6)) (tU 3 [] (bX mO Ag6) (wO 3 cG (aB 5)) (aB 6))))
def fc3(h:∀t∈ts,StepN n t)(tw0:wL n ts M)(hd:∀a,a<=n->en M a a<=0)(a0 a1 o4 o5 o6 o7:be):∃M' o4' o5' o6',cY (aJ 4) sB' ts [a0,a1,some (.int (n:Int)),some (tM true M),o4,o5,o6,o7]=.nx [a0,a1,some (.int (n:Int)),some (tM true M'),o4',o5',o6',o7]/\wL n ts M'/\Bd (bW n) (bL n) bQ ts n M' 0:=by
 generalize hL:cY _ _ _ _=o;obtain⟨ρ',rfl,M',o4',o5',o6',rfl,tw,hd',dn⟩:=fY (λi U=>∃M',∃(o4' o5' o6':be),U=[a0,a1,some (.int (n:Int)),some (tM true M'),o4',o5',o6',o7]/\wL n ts M'/\(∀a,a<=n->en M' a a<=0)/\∀t∈ts.take i,en M' (bW n t) (bL n t)<=bQ t) hL ⟨M,o4,o5,o6,rfl,tw0,hd,λt ht=>by simp at ht⟩ (by
  rintro i t U et ⟨M',o4',o5',o6',rfl,tw,hd',dn⟩;have tm:=C4 et;have hs:=h t tm;obtain⟨n1,c1,z1⟩:=kY hs.st;obtain⟨b1,b2⟩:=aj0 hs;obtain⟨q1,q2,q3⟩:=tw.rlx b1 b2 ((Wk.step t tm:Wk (bW n) (bL n) bQ ts (n+1) _ _ _));have es:ts.take (i+1)=ts.take i++[t]:=by rw[List.take_add_one,et];rfl
  have bP:∃M2,∃(p4 p5 p6:be),[a0,a1,some (.int (n:Int)),some (tM true (rlx M' (bW n t) (bL n t) (bQ t))),some t,some (.int (bW n t:Int)),some (.int (bL n t:Int)),o7]=[a0,a1,some (.int (n:Int)),some (tM true M2),p4,p5,p6,o7]/\wL n ts M2/\(∀a,a<=n->en M2 a a<=0)/\∀u∈ts.take (i+1),en M2 (bW n u) (bL n u)<=bQ u:=by
   refine⟨_,_,_,_,rfl,q1,λa ha=>N2 (q2 a a) (hd' a ha),λu hu=>?_⟩;rw[es]at hu;rcases A6.mp hu with hu|hu
   . exact N2 (q2 _ _) (dn u hu)
   . rw[C3.mp hu];exact q3
  obtain⟨p1,p2⟩:=au5 tw.tb b1 b2;have z:=ay7 (q:=3) (U:=[a0,a1,some (.int (n:Int)),some (tM true M'),some t,some (.int (bW n t:Int)),some (.int (bL n t:Int)),o7]) (z:=if bQ t<en M' (bW n t) (bL n t)then bQ t else en M' (bW n t) (bL n t)) (e:=bX mO Ag6) (ii:=aB 5) (jj:=aB 6) tw.tb b1 b2 rfl (by obtain⟨a,b,c,d,rfl,ha,hb,hd⟩:=hs;have i2:=@rO T;have ec:bQ (.tup [a,b,.int c,d])=c:=rfl;rw[ec];clear hL et tw dn q1 q2 q3 bP es hd' n1 c1 z1 ec tm ha hb hd h b1 b2;generalize bW n (.tup [a,b,.int c,d])=I at*;generalize bL n (.tup [a,b,.int c,d])=J at*;walk_at "e") rfl rfl;have z:tU 3 [] (bX mO Ag6) (wO 3 cG (aB 5)) (aB 6) [a0,a1,some (.int (n:Int)),some (tM true M'),some t,some (.int (bW n t:Int)),some (.int (bL n t:Int)),o7]=.nx [a0,a1,some (.int (n:Int)),some (tM true (rlx M' (bW n t) (bL n t) (bQ t))),some t,some (.int (bW n t:Int)),some (.int (bL n t:Int)),o7]:=z;have s12:∀x y:Option T,bG [] (aW 2 cZ (aD Ah7 (aD (aB 2) aI))) (aJ 5) [a0,a1,some (.int (n:Int)),some (tM true M'),some t,x,y,o7]=.nx [a0,a1,some (.int (n:Int)),some (tM true M'),some t,some (.int (bW n t:Int)),y,o7]/\bG [] (aW 2 cZ Aj3) (aJ 6) [a0,a1,some (.int (n:Int)),some (tM true M'),some t,x,y,o7]=.nx [a0,a1,some (.int (n:Int)),some (tM true M'),some t,x,some (.int (bL n t:Int)),o7]:=λx y=>by obtain⟨a,b,c,d,rfl,ha,hb,hd⟩:=hs;obtain⟨la,pa,na,za,ca⟩:=nP ha;obtain⟨lb,pb,nb,zb,cb⟩:=nP hb;have i0:=@kD T;have i1:=@jM T;have e1:bW n (.tup [a,b,.int c,d])=pN n a:=rfl;have e2:bL n (.tup [a,b,.int c,d])=pN n b:=rfl;rw[e1,e2];clear hL et tw dn q1 q2 q3 bP es hd' n1 c1 z1 tm ha hb hd h z p1 p2 b1 b2 e1 e2;refine⟨?_,?_⟩<;>walk_at "e"
  show yA _ sB' (some [a0,a1,some (.int (n:Int)),some (tM true M'),some t,o5',o6',o7]);simp only[yA,sB',sSeq,(s12 _ _).1,(s12 _ _).2,z,Go];exact bP)
 rw[List.take_length]at dn;exact⟨M',o4',o5',o6',rfl,tw,Bd.start hd' dn⟩
end
def cc9(hy:Y.length=n+1)(h0:gy Y n=0)(h:Pl n a):rY (Y.take n) a=gy Y (pN n a):=by
 rcases h with rfl|⟨i,hi,rfl⟩
 . exact h0.symm
 . simp only[rY,pN,gy,Int.toNat_natCast,A4,V9 hi]
def eo2(hy:Y.length=n+1)(h0:gy Y n=0)(h:StepN n t)(k:Kp (bW n) (bL n) bQ Y t):kept (Y.take n) t=true:=by obtain⟨a,b,c,d,rfl,ha,hb,hd⟩:=h;show decide (rY (Y.take n) b<=rY (Y.take n) a+c)=true;rw[cc9 hy h0 ha,cc9 hy h0 hb];exact E8 k
def ca0(h:∀u∈ts,StepN n u)(yl:ys.length=n)(n8:n<=8)(hk:∀t∈ts,kept ys t=true):nR [.lst false (ys.map .int),.int (n:Int),.lst false ts]=.ok (.bl true):=by
 unfold nR nW;have kh:=cv2 (ys:=ys) (ts:=ts) (by rw[yl];exact h);have ek:ts.all (kept ys)=true:=J6.mpr hk;rw[ek]at kh;have zs:frzs ts=ts:=jC λt ht=>(h t ht).st;have hc:cL (aJ 3) cO (aW 1 gY (aD (aB 3) aI)) [some (.lst false (ys.map .int)),some (.int n),some (.lst false ts),none] (ys.map .int)=.ok (ys.map λ_=>T.bl true):=by refine eO λy _=>?_;have kw:=vA y;clear kh;walk_at "e"
 have al:=sC true ys;have ll:ys.length<=100000:=X8
 have nn:((n:Int)==(n:Int))=true:=Y1
 clear h hk ek n8;subst yl;walk_at "e"
section
variable{α:Type}(src dst:α->Nat)(cst:α->Int)(Y:ah)
def nZ(F:ax)(t:α):List Nat:=if src t∈F/\dst t∉F/\gy Y (dst t)=gy Y (src t)+cst t then F++[dst t]else F
variable{src dst cst Y}
def cv3:∀a∈F,a∈nZ src dst cst Y F t:=λa ha=>by
 unfold nZ;split
 . exact C6 _ ha
 . exact ha
theorem aj7:∀(us:List α)(F:ax),(∀a∈F,a∈us.foldl (nZ src dst cst Y) F)/\F.length<=(us.foldl (nZ src dst cst Y) F).length
 |[],F=>⟨λ_ h=>h,D4 _⟩
 |u::us,F=>by
  obtain⟨h1,h2⟩:=aj7 us (nZ src dst cst Y F u);refine⟨λa ha=>h1 a (cv3 a ha),J2 ?_ h2⟩;unfold nZ;split
  . simp
  . exact D4 _
theorem bs9:∀(us:List α)(F:ax){t:α},t∈us->src t∈F->gy Y (dst t)=gy Y (src t)+cst t->dst t∈us.foldl (nZ src dst cst Y) F
 |u::us,F,t,h,hd,e=>by
  rcases B6.mp h with rfl|h
  . refine(aj7 us _).1 _ ?_;unfold nZ;split
    . exact B5 _ (C3.mpr rfl)
    . next q=>
      apply J5;intro z;exact q ⟨hd,z,e⟩
  . exact bs9 us _ h (cv3 _ hd) e
theorem bx2:∀(us:List α)(F:ax),(∀t∈us,dst t<=n)->F.Nodup->(∀a∈F,a<=n)->(us.foldl (nZ src dst cst Y) F).Nodup/\∀a∈us.foldl (nZ src dst cst Y) F,a<=n
 |[],F,_,h1,h2=>⟨h1,h2⟩
 |u::us,F,hs,h1,h2=>by
  refine bx2 us _ (λt ht=>hs t (A5 _ ht)) ?_ ?_
  . unfold nZ;split
    . next q=>
      rw[C9];exact⟨h1,Y1,λa ha b hb e=>by rw[C3.mp hb]at e;exact q.2.1 (e▸ha)⟩
    . exact h1
  . unfold nZ;split
    . intro a ha;rcases A6.mp ha with q|q
      . exact h2 a q
      . rw[C3.mp q];exact hs u A9
    . exact h2
end
theorem cl4:∀(m:Nat)(F:ax),(∀a,a<m->a∈F)->m<=F.length
 |0,_,_=>R7 _
 |m+1,F,h=>by have hm:=h m (Q1 _);have:=cl4 m (F.erase m) λa ha=>(List.mem_erase_of_ne X8).mpr (h a X8);rw[V8 hm]at this;have:0<F.length:=List.length_pos_of_mem hm;omega
def fj5{n:Nat}{F:ax}(h:F.length<=n):∃a,a<=n/\a∉F:=by apply J5;intro q;have:=cl4 (n+1) F λa ha=>J5 λz=>q ⟨a,X8,z⟩;omega
def fT(F:ax):List T:=F.map λ(a:Nat)=>T.int (a:Int)
def dx9(F:ax):∀u∈fT F,sc u:=λu hu=>by obtain⟨a,_,rfl⟩:=K8.mp hu;exact .inr ⟨_,rfl⟩
def ek7{F:ax}{a:Nat}:T.int (a:Int)∈fT F↔a∈F:=by
 unfold fT;rw[K8];constructor
 . rintro⟨b,hb,e⟩;have:(b:Int)=(a:Int):=by injection e
   have:b=a:=X8
   exact this▸hb
 . exact λh=>⟨a,h,rfl⟩
def eu6(neg o:Bool)(F:ax)(a:Nat):inT neg (.int (a:Int)) (.lst o (fT F))=.ok (.bl (if neg=true then !decide (a∈F)else decide (a∈F))):=by
 have e1:=by1 (t:=.int (a:Int)) (.inr ⟨_,rfl⟩) (fT F) (dx9 F);have e2:((fT F).map λu=>yV u (.int (a:Int))).any id=decide (a∈F):=by rw[N6,dy1 (.inr ⟨_,rfl⟩) (dx9 F),ek7,decide_eq_true_iff]
 simp only[inT,e1,e2]
def aj2(h:Pl n a):gX [a,.int (n:Int)]=.ok (.int ((pN n a:Nat):Int)):=by
 unfold gX vJ;rcases h with rfl|⟨i,hi,rfl⟩
 . walk_at "e";rfl
 . walk_at "e";simp[pN]
def fb3(h:∀u∈ts,StepN n u)(hy:Y.length=n+1)(n8:n<=8)(nd:F.Nodup)(fb:∀a∈F,a<=n)(q0 q1 q2 q5 q6 q7 q8 q9 q10 q11:be)(hq0:q0=some (.lst false (Y.map .int))):
 ∃r6 r7 r8 r9 r10 r11,cY (fO Aj1) (sSeq (bG [] (aW 2 gX (aD (aB 6) (aD (aB 3) aI))) (aJ 10)) (sSeq (bG [] (aW 2 gX (aD (aB 7) (aD (aB 3) aI))) (aJ 11)) Ah0)) ts [q0,q1,q2,some (.int n),some (.lst true (fT F)),q5,q6,q7,q8,q9,q10,q11]=.nx [q0,q1,q2,some (.int n),some (.lst true (fT (ts.foldl (nZ (bW n) (bL n) bQ Y) F))),q5,r6,r7,r8,r9,r10,r11]:=by
 generalize hL:cY _ _ _ _=o;obtain⟨ρ',rfl,p6,p7,p8,p9,p10,p11,rfl⟩:=fY (λi U=>∃p6 p7 p8 p9 p10 p11:Option T,U=[q0,q1,q2,some (.int n),some (.lst true (fT ((ts.take i).foldl (nZ (bW n) (bL n) bQ Y) F))),q5,p6,p7,p8,p9,p10,p11]) hL ⟨_,_,_,_,_,_,rfl⟩ (by
  rintro i t U et ⟨p6,p7,p8,p9,p10,p11,rfl⟩;have eg:=et;have tm:=C4 eg;have es:(ts.take (i+1)).foldl (nZ (bW n) (bL n) bQ Y) F=nZ (bW n) (bL n) bQ Y ((ts.take i).foldl (nZ (bW n) (bL n) bQ Y) F) t:=by rw[List.take_add_one,eg,List.foldl_append];rfl
  rw[es];obtain⟨nd2,fb2⟩:=bx2 (Y:=Y) (src:=bW n) (dst:=bL n) (cst:=bQ) (n:=n) (ts.take i) F (λt ht=>(aj0 (h t (M8 ht))).2) nd fb;clear es hL;generalize(ts.take i).foldl (nZ (bW n) (bL n) bQ Y) F=G at*;have gl:G.length<=n+1:=rC (n+1) G nd2 λx hx=>by have:=fb2 x hx;omega
  have glz:(fT G).length<sizeLine:=by unfold fT;rw[B7];have:=F9;omega
  obtain⟨a,b,c,d,rfl,ha,hb,hd⟩:=h t tm;have ea:=aj2 ha;have eb:=aj2 hb;have ra:=wS (Y:=Y) (i:=pN n a) (by have:=(nP ha).1;omega);have rb:=wS (Y:=Y) (i:=pN n b) (by have:=(nP hb).1;omega);have na:=(nP ha).2.2;have nb:=(nP hb).2.2;obtain⟨na,za,ca⟩:=na;obtain⟨nb,zb,cb⟩:=nb;have i1:=eu6 false true G (pN n a);have i2:=eu6 true true G (pN n b);have bt:fO Aj1 (.tup [a,b,.int c,d]) [q0,q1,q2,some (.int n),some (.lst true (fT G)),q5,p6,p7,p8,p9,p10,p11]=some [q0,q1,q2,some (.int n),some (.lst true (fT G)),q5,some a,some b,some (.int c),some d,p10,p11]:=rfl;rw[bt];have e1:nZ (bW n) (bL n) bQ Y G (.tup [a,b,.int c,d])=if pN n a∈G/\pN n b∉G/\gy Y (pN n b)=gy Y (pN n a)+c then G++[pN n b]else G:=rfl
  rw[e1];have fa:fT (G++[pN n b])=fT G++[.int ((pN n b:Nat):Int)]:=by unfold fT;rw[F7];rfl
  subst hq0;generalize hA:gy Y (pN n a)=A at*;generalize hB:gy Y (pN n b)=B at*;clear e1 bt eg tm nd2 fb2 gl ha hb hd hA hB h nd fb;by_cases c1:pN n a∈G
  . rw[E8 c1]at i1;by_cases c2:pN n b∈G
    . rw[E8 c2]at i2;rw[D3 (λz=>z.2.1 c2)];clear c1 c2;walk_at "e";exact⟨_,_,_,_,_,_,rfl⟩
    . rw[D6 c2]at i2;by_cases c3:B=A+c
      . rw[C7 ⟨c1,c2,c3⟩,fa];have t3:(B==A+c)=true:=by rw[O6];omega
        clear c1 c2 c3;walk_at "e";exact⟨_,_,_,_,_,_,rfl⟩
      . rw[D3 (λz=>c3 z.2.2)];have t3:(B==A+c)=false:=by rw[G3];omega
        clear c1 c2 c3;walk_at "e";exact⟨_,_,_,_,_,_,rfl⟩
  . rw[D6 c1]at i1;rw[D3 (λz=>c1 z.1)];clear c1;walk_at "e";exact⟨_,_,_,_,_,_,rfl⟩)
 rw[List.take_length];exact⟨_,_,_,_,_,_,rfl⟩
def di0(o o':Bool)(ns:ah):fI (.lst o (ns.map .int)) (.lst o' (ns.map .int))=.ok (.bl true):=by
 have e:∀(m:Nat)(ns:ah),oB m (ns.map T.int) (ns.map T.int)=some (ns.map λ_=>true):=by
  intro m ns;induction ns with
  |nil=>exact as7 m
  |cons x ns ih=>rw[B9,rS,ak0 (.inr ⟨x,rfl⟩) (.inr ⟨x,rfl⟩),ih,oJ (.inr ⟨x,rfl⟩)];rfl
 have e2:mI dJ (.lst o (ns.map .int)) (.lst o' (ns.map .int))=some true:=by
  have:mI (5+1) (.lst o (ns.map T.int)) (.lst o' (ns.map T.int))=if(ns.map T.int).length=(ns.map T.int).length then(oB 5 (ns.map T.int) (ns.map T.int)).map λes=>es.all id else some false:=by rw[mI]
  show mI (5+1) _ _=_;rw[this,C7 rfl,e 5 ns];simp
 have e3:eqB (.lst o (ns.map .int)) (.lst o' (ns.map .int))=some true:=by unfold eqB;rw[C7 ⟨rfl,rfl⟩];exact e2
 unfold fI;rw[e3]
def cw8{n:Nat}{F:ax}(nd:F.Nodup)(fb:∀a∈F,a<=n)(hl:n+1<=F.length):ai2 (F.map Int.ofNat)=(List.range (n+1)).map Int.ofNat:=by
 have mem:∀a,a<=n->a∈F:=λa ha=>by
  apply J5;intro q;have:=rC (n+1) (a::F) (E7.mpr ⟨q,nd⟩) (λx hx=>by
   rcases B6.mp hx with e|e
   . omega
   . have:=fb x e;omega)
  rw[E1]at this;omega
 have p:F.Perm (List.range (n+1)):=(List.perm_ext_iff_of_nodup nd List.nodup_range).mpr λa=>by rw[G6];exact⟨λh=>by have:=fb a h;omega,λh=>mem a X8⟩
 refine aj1 ((ae2 _).trans (p.map _)) (yF _) ?_;rw[List.pairwise_map];refine(List.pairwise_lt_range (n:=n+1)).imp λ{a b} h=>?_;show(a:Int)<=(b:Int);omega
theorem cp8:∀(l F:ax),l.Nodup->(∀x∈l,x∈F)->l.length<=F.length
 |[],_,_,_=>R7 _
 |x::l,F,nd,h=>by have hx:=h x A9;obtain⟨n1,n2⟩:=E7.mp nd;have:=cp8 l (F.erase x) n2 λy hy=>(List.mem_erase_of_ne (show y≠x from λe=>n1 (e▸hy))).mpr (h y (A5 _ hy));rw[V8 hx]at this;have:0<F.length:=List.length_pos_of_mem hx;rw[E1];omega
abbrev IvR(Y:ah)(ts:aw)(s n:Nat)(P:List Nat->Prop)(U:Fr):Prop:=∃(F:ax)(q5 q6 q7 q8 q9 q10 q11:be),U=[some (.lst false (Y.map .int)),some (.lst false ts),some (.int (s:Int)),some (.int (n:Int)),some (.lst true (fT F)),q5,q6,q7,q8,q9,q10,q11]/\F.Nodup/\(∀a∈F,a<=n)/\P F
def dk1{n:Nat}{ts:aw}(h:∀u∈ts,StepN n u)(hl:ts.length<=10000){Y:ah}(hy:Y.length=n+1)(n8:n<=8){s:Nat}(hs:s<=n)
 (ht:∀F:List Nat,s∈F->∀a,a<=n->a∉F->∃t∈ts,bW n t∈F/\bL n t∉F/\gy Y (bL n t)=gy Y (bW n t)+bQ t):
 qS [.lst false (Y.map .int),.lst false ts,.int (s:Int)]=.ok (.bl true):=by
 unfold qS qZ;have ll:Y.length=n+1:=hy;have en:((n+1:Nat):Int)-1=(n:Int):=X8
 have rg:-(2^62)<=(n:Int)+1/\(n:Int)+1<2^62:=X8
 have tn:((n:Int)+1).toNat=n+1:=X8
 have sz:n+1<=sizeLine:=by have:=F9;omega
 have sz1:1<=sizeLine:=X8
 have no:=gR λt ht=>(h t ht).st;have lt:ts.length<=100000:=X8
 walk_at "e";generalize hL:cY _ _ _ _=o;have key:=bp5 (λi U=>IvR Y ts s n (λF=>s∈F/\i+1<=F.length) U)
  (IvR Y ts s n λF=>n+1<=F.length) (λ_=>False) hL
  ⟨[s],_,_,_,_,_,_,_,rfl,Y1,by simpa using hs,Y1,Y1⟩ (by
  rintro i t U et ⟨F,q5,q6,q7,q8,q9,q10,q11,rfl,nd,fb,hn,li⟩;clear hL et;have fl:(fT F).length=F.length:=by unfold fT;rw[B7]
  have f1:F.length<=n+1:=rC (n+1) F nd λx hx=>by have:=fb x hx;omega
  have flz:F.length<=sizeLine:=X8
  by_cases c:n<F.length
  . have t1:decide ((n:Int)<(F.length:Int))=true:=E8 X8;have res:IvR Y ts s n (λF=>n+1<=F.length) [some (T.lst false (Y.map .int)),some (.lst false ts),some (.int (s:Int)),some (.int (n:Int)),some (.lst true (fT F)),some t,q6,q7,q8,q9,q10,q11]:=⟨F,_,_,_,_,_,_,_,rfl,nd,fb,c⟩;clear nd fb hn li f1 h ht c;walk_at "e"
  . have t1:decide ((n:Int)<(F.length:Int))=false:=D6 X8;obtain⟨a,ha,hna⟩:=fj5 (n:=n) (F:=F) X8;obtain⟨u,um,u1,u2,u3⟩:=ht F hn a ha hna;have got:=bs9 (Y:=Y) (src:=bW n) (dst:=bL n) (cst:=bQ) ts F um u1 u3;obtain⟨g1,g2⟩:=aj7 (Y:=Y) (src:=bW n) (dst:=bL n) (cst:=bQ) ts F;obtain⟨g3,g4⟩:=bx2 (Y:=Y) (src:=bW n) (dst:=bL n) (cst:=bQ) (n:=n) ts F (λt ht=>(aj0 (h t ht)).2) nd fb;have g5:F.length+1<=(ts.foldl (nZ (bW n) (bL n) bQ Y) F).length:=by
     have nd2:(bL n u::F).Nodup:=E7.mpr ⟨u2,nd⟩;have sub:∀x∈bL n u::F,x∈ts.foldl (nZ (bW n) (bL n) bQ Y) F:=λx hx=>by
      rcases B6.mp hx with e|e
      . rw[e];exact got
      . exact g1 x e
     have:=cp8 _ _ nd2 sub;rwa[E1]at this
    obtain⟨r6,r7,r8,r9,r10,r11,lp⟩:=fb3 h hy n8 nd fb (some (.lst false (Y.map .int))) (some (.lst false ts)) (some (.int (s:Int))) (some t) q6 q7 q8 q9 q10 q11 rfl;have gn:=g1 s hn;have res:IvR Y ts s n (λF=>s∈F/\i+1+1<=F.length) [some (T.lst false (Y.map .int)),some (.lst false ts),some (.int (s:Int)),some (.int (n:Int)),some (.lst true (fT (ts.foldl (nZ (bW n) (bL n) bQ Y) F))),some t,r6,r7,r8,r9,r10,r11]:=⟨_,_,_,_,_,_,_,_,rfl,g3,g4,gn,X8⟩;clear nd fb hn li f1 h ht c a ha hna u um u1 u2 u3 got g1 g2 g3 g4 g5 gn;generalize ts.foldl (nZ (bW n) (bL n) bQ Y) F=G at*;walk_at "e")
 have bP:∃U,o=.nx U/\IvR Y ts s n (λF=>n+1<=F.length) U:=by
  rcases key with⟨ρ',rfl,⟨F,q5,q6,q7,q8,q9,q10,q11,rfl,nd,fb,_,li⟩|h2⟩|⟨t,_,q⟩
  . rw[eC]at li;exact⟨_,rfl,F,_,_,_,_,_,_,_,rfl,nd,fb,X8⟩
  . exact⟨_,rfl,h2⟩
  . exact q.elim
 obtain⟨_,rfl,F,q5,q6,q7,q8,q9,q10,q11,rfl,nd,fb,li⟩:=bP;have f1:F.length<=n+1:=rC (n+1) F nd λx hx=>by have:=fb x hx;omega
 have es:uR [.lst true (fT F)]=.ok (.lst true (((List.range (n+1)).map Int.ofNat).map .int)):=by
  have e:fT F=(F.map Int.ofNat).map T.int:=by unfold fT;rw[J3];rfl
  rw[e,cg1,cw8 nd fb li,C7 (by rw[B7];omega)]
 have el:ab6 [.int ((n:Int)+1)]=.ok (.lst true (((List.range (n+1)).map Int.ofNat).map .int)):=by rw[dj0,gM ⟨X8,X8⟩,tn]
 have ee:=di0 true true ((List.range (n+1)).map Int.ofNat);clear hL key nd fb li f1 h ht no lt en rg tn;generalize((List.range (n+1)).map Int.ofNat).map T.int=LL at*;generalize uR=z1 at*;generalize ab6=z2 at*;walk_at "e"
abbrev DtF(f:Fm)(ss:List Sd)(D:c6):Prop:=Dt (bW f.n.length) (bL f.n.length) bQ (cJ f ss) f.n.length D
def fs1(n:Nat)(D:c6)(s:Sd):Prop:=D (pN n (zK s))<=D (pN n (.int (fst s)))+(0-s.lo)/\∀h,s.hi=some h->D (pN n (.int (fst s)))<=D (pN n (zK s))+h
def fk0(f:Fm)(D:c6):Prop:=∀j,j<f.n.length->D j<=D f.n.length+(f.a+f.s)/\D f.n.length<=D j+(0-f.a)
def ej8(f:Fm)(ss:List Sd)(D:c6):DtF f ss D↔D f.n.length=0/\(∀s∈ss,fs1 f.n.length D s)/\fk0 f D:=by
 constructor
 . rintro⟨h0,h⟩;refine⟨h0,λs hs=>?_,λj hj=>?_⟩
   . obtain⟨k,hk,e⟩:=U3.mp hs;have inn:∀t∈st s (k:Int),t∈cJ f ss:=λt ht=>by refine C6 _ (M6.mpr ⟨k,G6.mpr hk,?_⟩);unfold au4;rw[A2 hk,e];exact ht
     refine⟨h (.tup [.int (fst s),zK s,.int (0-s.lo),.int k]) (inn _ ?_),λx hx=>h (.tup [zK s,.int (fst s),.int x,.int k]) (inn _ ?_)⟩
     . unfold st;exact B5 _ (C3.mpr rfl)
     . unfold st;rw[hx];exact C6 _ (C3.mpr rfl)
   . have inn:∀t∈sp f (j:Int),t∈cJ f ss:=λt ht=>B5 _ (M6.mpr ⟨j,G6.mpr hj,ht⟩);exact⟨h (.tup [.non,.int j,.int (f.a+f.s),.non]) (inn _ (by simp[sp])),h (.tup [.int j,.non,.int (0-f.a),.non]) (inn _ (by simp[sp]))⟩
 . rintro⟨h0,h1,h2⟩;refine⟨h0,λt ht=>?_⟩;rcases A6.mp ht with ht|ht
   . obtain⟨k,hk,q⟩:=M6.mp ht;unfold au4 at q;split at q
     . next s es=>
       obtain⟨a1,a2⟩:=h1 s (C4 es);unfold st at q;rcases A6.mp q with q|q
       . split at q
         . next x hx=>rw[C3.mp q];exact a2 x hx
         . cases q
       . rw[C3.mp q];exact a1
     . cases q
   . obtain⟨k,hk,q⟩:=M6.mp ht;obtain⟨b1,b2⟩:=h2 k (G6.mp hk);simp only[sp,B6,G9,O8]at q;rcases q with rfl|rfl
     . exact b1
     . exact b2
def et2:∀D,DtF f ss D->∀j,j<=f.n.length->gy (Y0 f) j<=D j:=λD h j hj=>by
 obtain⟨h0,_,h2⟩:=(ej8 f ss D).mp h;unfold gy Y0;by_cases e:j<f.n.length
 . rw[A4,Q3 (by simpa using e),O3,C7 e];have:=(h2 j e).2;show f.a-1<=D j;omega
 . have:j=f.n.length:=X8
   subst this;rw[A4,M3 Y1,h0];simp
def fe6(f:Fm):gy (Y0 f) f.n.length=0:=by unfold gy Y0;rw[A4,M3 Y1];simp
def dc9{f:Fm}{ss:List Sd}{j:Nat}(hj:j<f.n.length):(T.tup [.non,.int j,.int (f.a+f.s),.non])∈cJ f ss/\(T.tup [.int j,.non,.int (0-f.a),.non])∈cJ f ss:=by have inn:∀t∈sp f (j:Int),t∈cJ f ss:=λt ht=>B5 _ (M6.mpr ⟨j,G6.mpr hj,ht⟩);exact⟨inn _ (by simp[sp]),inn _ (by simp[sp])⟩
def ea3{f:Fm}{ss:List Sd}{M:bf}(tb:Tb f.n.length M)(h:∀a b,a<=f.n.length->b<=f.n.length->en M a b=if a=b then 0 else if a=f.n.length then f.a+f.s else if b=f.n.length then 0-f.a else f.a+f.s-f.a):wL f.n.length (cJ f ss) M:=by
 refine⟨tb,λa b ha hb=>?_⟩;rw[h a b ha hb];have up:∀j,j<f.n.length->Wk (bW f.n.length) (bL f.n.length) bQ (cJ f ss) (f.n.length+1) f.n.length j (f.a+f.s):=λj hj=>by exact Wk.step (src:=bW f.n.length) (dst:=bL f.n.length) (cst:=bQ) (k:=f.n.length+1) _ (dc9 (ss:=ss) hj).1
 have down:∀j,j<f.n.length->Wk (bW f.n.length) (bL f.n.length) bQ (cJ f ss) (f.n.length+1) j f.n.length (0-f.a):=λj hj=>by exact Wk.step (src:=bW f.n.length) (dst:=bL f.n.length) (cst:=bQ) (k:=f.n.length+1) _ (dc9 (ss:=ss) hj).2
 by_cases e:a=b
 . rw[C7 e,e];exact .nil b
 . rw[D3 e];by_cases e1:a=f.n.length
   . rw[C7 e1,e1];exact up b X8
   . rw[D3 e1];by_cases e2:b=f.n.length
     . rw[C7 e2,e2];exact down a X8
     . rw[D3 e2,show f.a+f.s-f.a=0-f.a+(f.a+f.s) by omega];exact .join X8 (down a X8) (up b X8)
theorem dz3(hz:frzs ts=ts)(no:bF ts=true)(e:jQ [cB false f,.lst false ts]=.ok (.tup [.str w,.lst true xs]))(cx:dI xs=true):pJ [cB false f,.lst false ts]=if(w=="ring")=true then .ex ⟨"Stuck",[]⟩else .ok .non:=by
 unfold pJ pM;have za:=jP false f;have na:=iP f;have b0:=@kD T;cases q:(w==("ring":Str))with
 |true=>walk_at "e"
 |false=>walk_at "e"
def ay9(g:Gd f)(h:∀s∈ss,SdOk f s)(e:jQ [cB false f,.lst false (cJ f ss)]=.ok (.tup [.str w,.lst true xs]))(cx:dI xs=true):
 ((w=="ring")=true->pG [cB false f,.lst false (cJ f ss)]=.ex ⟨"Stuck",[]⟩)/\((w=="ring")=false->∀D,DtF f ss D->∃M,pG [cB false f,.lst false (cJ f ss)]=.ok (tM true M)/\wL f.n.length (cJ f ss) M/\Bd (bW f.n.length) (bL f.n.length) bQ (cJ f ss) f.n.length M (f.n.length+1)):=by
 have aS:=ak2 h;have hz:frzs (cJ f ss)=cJ f ss:=jC (lK f ss);have no:=gR λt ht=>(aS t ht).st;have er:=dz3 hz no e cx;have za:=jP false f;have na:=iP f;refine⟨λq=>?_,λq D hD=>?_⟩
 . rw[C7 q]at er;unfold pG sK;clear aS q e cx h g;walk_at "e"
 . rw[D3 (by rw[q];decide)]at er;obtain⟨M0,e0,tb0,v0⟩:=ec6 g;have tw0:=ea3 (ss:=ss) tb0 v0;obtain⟨M1,p4,p5,p6,l0,tw1,bd1⟩:=fc3 aS tw0 (λa ha=>by rw[v0 a a ha ha,C7 rfl];omega) (some (cB false f)) (some (.lst false (cJ f ss))) none none none none;obtain⟨M2,r5,r6,r7,l1,tw2,bd2⟩:=fs3 g.n8 hD.2 tw1 bd1 (some (cB false f)) (some (.lst false (cJ f ss))) p4 p5 p6 none;refine⟨M2,?_,tw2,bd2⟩;unfold pG sK;have fl:=mW false f;have n8:=g.n8;have lnames:dU [.lst false (f.n.map T.str)]=.ok (.int f.n.length):=by rw[am5];simp only[B7]
   have rg1:iW [.int ((f.n.length:Int)+1)]=.ok (fL 0 (f.n.length+1)):=by rw[aw5,gM ⟨X8,X8⟩];congr
   have c0:=au1 M0;have c2:=au1 M2;clear aS q e cx h g tb0 v0 tw0 tw1 bd1 tw2 bd2 hD n8;generalize cJ f ss=S at*;walk_at "e"
def cy8(h:∀u∈ts,StepN n u)(hl:ts.length<=10000)(hy:Y.length=n+1)(n8:n<=8)(hs:s<=n)(y0:gy Y s=0)(st:∀t∈ts,gy Y (bL n t)<=gy Y (bW n t)+bQ t)
 (ht:∀F:List Nat,s∈F->∀a,a<=n->a∉F->∃t∈ts,bW n t∈F/\bL n t∉F/\gy Y (bL n t)=gy Y (bW n t)+bQ t):lZ [.lst false (Y.map .int),.lst false ts,.int (s:Int)]=.ok (.bl true):=by
 unfold lZ sT;have kr:=dk1 h hl hy n8 hs ht;have hz:frzs ts=ts:=jC λt ht=>(h t ht).st;have no:=gR λt ht=>(h t ht).st;have hc:cL (aJ 6) cO (aW 1 gY (aD (aB 6) aI)) [some (.lst false (Y.map .int)),some (.lst false ts),some (.int (s:Int)),none,none,none,none,none] (Y.map .int)=.ok (Y.map λ_=>T.bl true):=by refine eO λy _=>?_;have kw:=vA y;clear kr st ht h;walk_at "e"
 have al:=sC true Y;have ll:Y.length<=100000:=X8
 have lz:Y.length<=sizeLine:=by have:=F9;omega
 have as:=wS (Y:=Y) (i:=s) X8;rw[y0]at as;have en:((n+1:Nat):Int)-1=(n:Int):=X8
 have lp:∃o4 o5 o6 o7:Option T,cY (fO (aY (aJ 4) (aY (aJ 5) Ai4))) (cI (bE (aF gtT (aF aP (aB 0) (aW 2 gX (aD (aB 5) (aD (aB 3) aI)))) (aF bS (aF aP (aB 0) (aW 2 gX Aj2)) (aB 6)))) Af9 bN) ts [some (.lst false (Y.map .int)),some (.lst false ts),some (.int (s:Int)),some (.int (n:Int)),none,none,none,none]=.nx [some (.lst false (Y.map .int)),some (.lst false ts),some (.int (s:Int)),some (.int (n:Int)),o4,o5,o6,o7]:=by generalize hL:cY _ _ _ _=o;obtain⟨ρ',rfl,o4,o5,o6,o7,rfl⟩:=fY (λ_ U=>∃o4 o5 o6 o7:Option T,U=[some (.lst false (Y.map .int)),some (.lst false ts),some (.int (s:Int)),some (.int (n:Int)),o4,o5,o6,o7]) hL ⟨_,_,_,_,rfl⟩ (by rintro i t U et ⟨o4,o5,o6,o7,rfl⟩;have tm:=C4 et;have kt:=st t tm;obtain⟨a,b,c,d,rfl,ha,hb,hd⟩:=h t tm;have kt:gy Y (pN n b)<=gy Y (pN n a)+c:=kt;have ea:=aj2 ha;have eb:=aj2 hb;have ra:=wS (Y:=Y) (i:=pN n a) (by have:=(nP ha).1;omega);have rb:=wS (Y:=Y) (i:=pN n b) (by have:=(nP hb).1;omega);obtain⟨na,za,ca⟩:=(nP ha).2.2;obtain⟨nb,zb,cb⟩:=(nP hb).2.2;have t1:decide (gy Y (pN n a)+c<gy Y (pN n b))=false:=D6 X8;have bt:fO (aY (aJ 4) (aY (aJ 5) Ai4)) (.tup [a,b,.int c,d]) [some (.lst false (Y.map .int)),some (.lst false ts),some (.int (s:Int)),some (.int (n:Int)),o4,o5,o6,o7]=some [some (.lst false (Y.map .int)),some (.lst false ts),some (.int (s:Int)),some (.int (n:Int)),some a,some b,some (.int c),some d]:=rfl;rw[bt];generalize gy Y (pN n a)=A at*;generalize gy Y (pN n b)=B at*;clear hL et tm kt ha hb hd h st ht kr bt hc al ll lz as en y0 hy;walk_at "e";exact⟨_,_,_,_,rfl⟩);exact⟨_,_,_,_,rfl⟩
 obtain⟨o4,o5,o6,o7,lp⟩:=lp;have e0:((0:Int)==0)=true:=rfl;clear h hl st ht y0 n8 hs;walk_at "e"
def ew9(g:Gd f)(h:∀s∈ss,SdOk f s)(hl:ss.length<=1000)(hD:DtF f ss D)(tw:wL f.n.length (cJ f ss) M)(bd:Bd (bW f.n.length) (bL f.n.length) bQ (cJ f ss) f.n.length M (f.n.length+1)):oT [tM false M,.int (f.n.length:Int),.lst false (cJ f ss)]=.ok (.bl true):=by
 have aS:=ak2 h;have lS:=ed4 g hl;have n8:=g.n8;have rows:∀s,s<=f.n.length->lZ [.lst false ((M.getD s []).map .int),.lst false (cJ f ss),.int (s:Int)]=.ok (.bl true):=λs hs=>by obtain⟨k1,k2,k3⟩:=dg6 (λt ht=>aj0 (aS t ht)) hD.2 tw bd hs;exact cy8 aS lS (tw.tb.2 s hs) n8 hs k1 k2 k3
 have hz:frzs (cJ f ss)=cJ f ss:=jC (lK f ss);have no:=gR λt ht=>(aS t ht).st;unfold oT oX;have rg1:iW [.int ((f.n.length:Int)+1)]=.ok (fL 0 (f.n.length+1)):=by rw[aw5,gM ⟨X8,X8⟩];congr
 have lp:∃o3:Option T,cY (aJ 3) (cI (pS (bE (aF tF (bX dU (aD Aj5 aI)) Ak3)) (fK (eS (aW 3 lZ (aD Aj5 Al0))))) Af9 bN) (fL 0 (f.n.length+1)) [some (tM false M),some (.int (f.n.length:Int)),some (.lst false (cJ f ss)),none]=.nx [some (tM false M),some (.int (f.n.length:Int)),some (.lst false (cJ f ss)),o3]:=by
  generalize hL:cY _ _ _ _=o;obtain⟨ρ',rfl,o3,rfl⟩:=fY (λ_ U=>∃o3:Option T,U=[some (tM false M),some (.int (f.n.length:Int)),some (.lst false (cJ f ss)),o3]) hL ⟨_,rfl⟩ (by
   rintro i t U et ⟨o3,rfl⟩;obtain⟨hi,rfl⟩:=ag6 et;have kr:=rows i X8;have ix:=dy8 false (M:=M) (i:=i) (by have:=tw.tb.1;omega);have ll:=tw.tb.2 i X8;have en:(((f.n.length+1:Nat):Int)==(f.n.length:Int)+1)=true:=Y1
   generalize M.getD i []=R at*;clear hL et rows tw bd hD aS rg1 lS h g;walk_at "e";exact⟨_,rfl⟩)
  exact⟨_,rfl⟩
 obtain⟨o3,lp⟩:=lp;have lM:dU [tM false M]=.ok (.int ((f.n.length+1:Nat):Int)):=by unfold tM;rw[am5,B7,tw.tb.1]
 have iM:lO [tM false M,.ty "list"]=.ok (.bl true):=by unfold tM;rw[ct3]
 have en:(((f.n.length+1:Nat):Int)==(f.n.length:Int)+1)=true:=Y1
 clear rows tw bd hD aS lS h g hz no n8;walk_at "e"
theorem ec9(o:Bool)(M:bf):frz (tM o M)=tM false M:=by
 unfold tM;simp only[frz];congr 1;induction M with
 |nil=>rfl
 |cons r M ih=>simp only[B9,frzs,frz,oO,ih]
def eb4{f:Fm}{os:aw}(zo:frzs os=os)(no:bF os=true)(e:iT [cB false f,.lst false os]=.ex ⟨"Stuck",[]⟩):vH [cB false f,.lst false os]=.ok (.bl true):=by
 unfold vH vS;have za:=jP false f;have na:=iP f;have c1:(["Stuck"]:List Str).contains "Stuck"=true:=X9
 have k1:qR aa8 (.err "Stuck" [])=.ok (.bl true):=Y4
 have k2:qR wJ (.err "Stuck" [])=.ok (.bl true):=Y4
 have k3:qR dh6 (.err "Stuck" [])=.ok (.bl false):=Y4
 have k4:qR dg7 (.err "Stuck" [])=.ok (.bl false):=Y4
 walk_at "e"
def bl3{f:Fm}(g:Gd f){ss:List Sd}(h:∀s∈ss,SdOk f s)(hl:ss.length<=1000):gU [cB false f,.lst false (ss.map (gB false f)),.lst false (cJ f ss)]=.ok (.bl true):=by
 have n8:=g.n8;have n1:=g.n1;have aS:=ak2 h;have ks:=cf6 g h hl;have za:=jP false f;have na:=iP f;have zo:=yG false f ss;have no:=tO f ss;have aT:=lK f ss;have zS:=jC aT;have cS:=rX aT;have nS:=gR aT;have iv:=co8 aS;have fl:=mW false f;have lnames:dU [.lst false (f.n.map T.str)]=.ok (.int f.n.length):=by rw[am5];simp only[B7]
 rcases be9 g aS with⟨hx,e⟩|⟨a0,P,k,hx,r,e⟩
 . have dt:DtF f ss (gy (cT f (cJ f ss) (f.n.length+1)).Y):=et7 iv hx (fe6 f) et2;have yl:=(bn2 f (cJ f ss) (f.n.length+1)).1;have tl:((cT f (cJ f ss) (f.n.length+1)).Y.take f.n.length).length=f.n.length:=by rw[Q2];omega
   have kd:=ca0 aS tl n8 (λt ht=>eo2 yl dt.1 (aS t ht) (dt.2 t ht));have e1:(("dating":Str)==("ring":Str))=false:=Y2
   have e2:(("dating":Str)==("dating":Str))=true:=Y2
   obtain⟨M,kc,tw,bd⟩:=(ay9 g h e (lV _)).2 e1 _ dt;have kt:=ew9 g h hl dt tw bd;have fM:=ec9 true M;have cM:=au1 M;have kl:iT [cB false f,.lst false (ss.map (gB false f))]=.ok (tM true M):=by unfold iT nI;clear iv dt yl tl aS aT h g kd kt tw bd e;generalize cJ f ss=S at*;walk_at "e"
   have zy:=oO ((cT f (cJ f ss) (f.n.length+1)).Y.take f.n.length);have cy:=lV ((cT f (cJ f ss) (f.n.length+1)).Y.take f.n.length);have kset:rZ [cB false f,.lst false (ss.map (gB false f))]=.ok (.tup [.str "dating",.lst true (((cT f (cJ f ss) (f.n.length+1)).Y.take f.n.length).map .int)]):=by unfold rZ wH;generalize((cT f (cJ f ss) (f.n.length+1)).Y.take f.n.length)=ys at*;clear iv hx dt yl tl aS aT h g kd kt tw bd kl kc;generalize cJ f ss=S at*;walk_at "e"
   have bP:∀a0 a1 a2 a3 a4 a5:Option T,∃X,iX 6 [] (wO 6 cG Al9) Al9 [a0,a1,a2,a3,a4,a5,some (tM true M)]=.nx [a0,a1,a2,a3,a4,a5,some (.lst true X)]/\yC 6 [] av7 cG aI [a0,a1,a2,a3,a4,a5,some (.lst true X)]=.nx [a0,a1,a2,a3,a4,a5,some (.lst true X.dropLast)]:=λa0 a1 a2 a3 a4 a5=>by
    cases M with
    |nil=>have:=tw.tb.1;simp at this
    |cons r M=>
     have rl:r.length=f.n.length+1:=tw.tb.2 0 X8;have x0:pU (M.length+1) 0=some 0:=an5 (k:=0) X8;have rs:(r.map T.int).length<sizeLine:=by rw[B7,rl];have:=F9;omega
     refine⟨.lst true (r.map T.int++[.int 0])::M.map λr=>T.lst true (r.map .int),?_,?_⟩
     . simp only[iX,wO,cG,tM,B9,List.getElem?_cons_zero,List.getElem?_cons_succ,Res.bind,dC,eY,Option.bind,ae8,L9,List.length_cons,B7,x0,List.nil_append,rs,TL.zP,jW,kills,Option.map,List.set_cons_zero,List.set_cons_succ];rw[C7 (by rw[B7]at rs;exact rs)]
     . simp only[yC,cG,eY,aI,av7,List.isEmpty_cons,kills,TL.zP,jW,List.getElem?_cons_zero,List.getElem?_cons_succ,List.set_cons_zero,List.set_cons_succ,O7,O2]
   unfold gU qC;obtain⟨X,f1,f2⟩:=bP (some (cB false f)) (some (.lst false (ss.map (gB false f)))) (some (.lst false (cJ f ss))) (some (.int f.n.length)) (some (.str "dating")) (some (.lst true (((cT f (cJ f ss) (f.n.length+1)).Y.take f.n.length).map .int)));clear bP iv hx dt yl aS aT h g e ks tw bd kc;generalize((cT f (cJ f ss) (f.n.length+1)).Y.take f.n.length)=ys at*;generalize cJ f ss=S at*;clear tl;generalize iX 6 [] (wO 6 cG Al9) Al9=z1 at*;generalize yC 6 [] av7 cG aI=z2 at*;walk_at "e"
 . have kr:=ci6 aS n8 r;have rR:=cj6 aS (f.n.length+1);have flat:∀t∈(List.range k).map (dG f.n.length (cT f (cJ f ss) (f.n.length+1)).R P),StepN f.n.length t:=λt ht=>by obtain⟨m,_,rfl⟩:=K8.mp ht;obtain⟨u,eu,ut,_⟩:=r.df m;unfold dG;rw[ao3 eu];exact aS u ut
   have cr:=rX λt ht=>(flat t ht).st;have zr:=jC λt ht=>(flat t ht).st;have e1:(("ring":Str)==("ring":Str))=true:=Y2
   have kc:=(ay9 g h e cr).1 e1;have kl:iT [cB false f,.lst false (ss.map (gB false f))]=.ex ⟨"Stuck",[]⟩:=by unfold iT nI;clear iv hx aS aT h g kr rR flat r e;generalize cJ f ss=S at*;walk_at "e"
   have kx:=eb4 zo no kl;have kset:rZ [cB false f,.lst false (ss.map (gB false f))]=.ok (.tup [.str "ring",.lst true ((List.range k).map (dG f.n.length (cT f (cJ f ss) (f.n.length+1)).R P))]):=by unfold rZ wH;clear iv hx aS aT h g kr rR flat r kl kc;generalize(List.range k).map (dG f.n.length (cT f (cJ f ss) (f.n.length+1)).R P)=xs at*;generalize cJ f ss=S at*;walk_at "e"
   unfold gU qC;clear iv hx aS aT h g rR flat r ks e kl kc;generalize(List.range k).map (dG f.n.length (cT f (cJ f ss) (f.n.length+1)).R P)=xs at*;generalize cJ f ss=S at*;walk_at "e"
def es5(o:Bool)(f:Fm):frz (iD o f)=iD false f:=by simp only[iD,frz,frzs,yS,rV,uQ]
def df3(f:Fm):cK (iD true f)=true:=by simp only[iD,cK,dI,zR,zX,ac9,J4]
def sD(g:α->β)(xs:List α)(lo hi:a_):eR (xs.map g) lo hi=(eR xs lo hi).map g:=by unfold eR;rw[B7,V7,List.map_drop]
def ao0(xs:List α)(lo hi:a_):(eR xs lo hi).length<=xs.length:=by unfold eR;rw[Q2,W3];omega
def bv1(h:x∈eR xs lo hi):x∈xs:=by unfold eR at h;exact List.mem_of_mem_drop (M8 h)
def dp5(xs:List α):eR xs none (some (-1))++eR xs (some (-1)) none=xs:=by
 have e:HT.sIx xs.length 0 (some (-1))=xs.length-1:=by simp only[HT.sIx];rw[C7 X8];omega
 have e':HT.sIx xs.length xs.length (some (-1))=xs.length-1:=by simp only[HT.sIx];rw[C7 X8];omega
 unfold eR;rw[e,e',HT.sIx_none,HT.sIx_none,List.drop_zero,S4 (l:=xs.drop _) (by rw[W3];omega),Nat.sub_zero,List.take_append_drop]
def dy5:hV "shown" ["spoken","low","high","text"]=none:=X9
def tm8:∀c∈kG,tm_shown.lookup c=some bC:=by intro c hc;simp only[kG,B6,G9,O8]at hc;rcases hc with rfl|rfl|rfl|rfl|rfl|rfl|rfl|rfl<;>with_unfolding_all rfl
def m_shown(hc:c∈kG)(ho:o U=.ok (gI false c ls lo hi x)):jS 1 "shown" tm_shown o aI U=.ok (.str x):=by
 have hF:bC [gI false c ls lo hi x]=.ok (.str x):=by
  unfold bC eW;have:eQ  Am3  "text" (gI false c ls lo hi x)=.ok (.str x):=by have h:=ct8 c hc;simp only[eQ,gI,h,L9];with_unfolding_all rfl
  walk_at "e"
 have hl:=tm8 c hc;have z:=cw9 false c ls lo hi x;have e:jS 1 "shown" tm_shown o aI U=tD 1 bC [gI false c ls lo hi x]:=by simp only[jS,ho,oQ,gI,dy5,hl];rfl
 rw[e];clear e ho hc hl;walk_at "e"
def cg9(o o':Bool)(ns:am):fI (.lst o (ns.map .str)) (.lst o' (ns.map .str))=.ok (.bl true):=by
 have e:∀(m:Nat)(ns:am),oB m (ns.map T.str) (ns.map T.str)=some (ns.map λ_=>true):=by
  intro m ns;induction ns with
  |nil=>exact as7 m
  |cons x ns ih=>
   have q:mI m (.str x) (.str x)=some true:=by
    have:mI m (.str x) (.str x)=some (x==x):=by cases m<;>rfl
    rw[this,M4]
   rw[B9,rS,q,ih];rfl
 have e2:mI dJ (.lst o (ns.map .str)) (.lst o' (ns.map .str))=some true:=by
  have:mI (5+1) (.lst o (ns.map T.str)) (.lst o' (ns.map T.str))=if(ns.map T.str).length=(ns.map T.str).length then(oB 5 (ns.map T.str) (ns.map T.str)).map λes=>es.all id else some false:=by rw[mI]
  show mI (5+1) _ _=_;rw[this,C7 rfl,e 5 ns];simp
 have e3:eqB (.lst o (ns.map .str)) (.lst o' (ns.map .str))=some true:=by unfold eqB;rw[C7 ⟨rfl,rfl⟩];exact e2
 unfold fI;rw[e3]
def main(ns:ah)(h63:ns.length<=63)(hb:∀n∈ns,Builtin.Int.intBits n<=1048576):bv7 [.lst false (ns.map .int)]=.ok (.bl true):=by
 unfold bv7 bq7;obtain⟨f,hf,g⟩:=ex3 ns;have ec:kK [.lst false (ns.map .int),.int 1]=.ok (.int (ns.getD 1 0)):=do1 false ns 1;obtain⟨hid,hh,hl,hhb⟩:=dc3 (ns.getD 1 0/32) g;have ct:=sD T.int ns (some 2) (some 18);have ctl:=ao0 ns (some 2) (some 18);obtain⟨ss,hs,sl,sok⟩:=da1 g (eR ns (some 2) (some 18)) X8 (ns.getD 1 0%2==1) hid hl hhb;have ka:=bj6 g;have kh:=eh8 sok X8;have k1:=ae0 g sok X8;have k0:jK [iD false f,.lst false []]=.ok (.lst true (cJ f [])):=ae0 g (ss:=[]) (λ_ q=>nomatch q) Y1;have r0:gU [cB false f,.lst false [],.lst false (cJ f [])]=.ok (.bl true):=bl3 g (ss:=[]) (λ_ q=>nomatch q) Y1;have r1:=bl3 g sok X8;have fm:=es5 true f;have cf:=df3 f;have ar:=jP true f;have ca:=cn1 f;have zs:=ak1 (f:=f) true sok;have zs0:=ak1 (f:=f) false sok;have cs:=aj9 sok;have co:=cn5 f ss;have zo:=yG true f ss;have zo0:=yG false f ss;have ns1:=xE sok;have no:=tO f ss;have nn:=qF ns;have zh:=oO hid;have c0:=rX (lK f []);have z0:=jC (lK f []);have c1:=rX (lK f ss);have z1:=jC (lK f ss);have part:∀us:List Sd,(∀s∈us,s∈ss)->us.length<=200->jK [iD false f,.lst false (us.map (iF false))]=.ok (.lst true (cJ f us))/\gU [cB false f,.lst false (us.map (gB false f)),.lst false (cJ f us)]=.ok (.bl true)/\dI (cJ f us)=true/\frzs (cJ f us)=cJ f us/\bF (us.map (iF false))=true/\bF (us.map (gB false f))=true/\frzs (us.map (iF false))=us.map (iF false)/\frzs (us.map (gB false f))=us.map (gB false f):=λus hu hl=>by have ok:∀s∈us,SdOk f s:=λs h=>sok s (hu s h);exact⟨ae0 g ok X8,bl3 g ok X8,rX (lK f us),jC (lK f us),xE ok,tO f us,ak1 false ok,yG false f us⟩
 obtain⟨a,ha⟩:∃a,ns.getD 1 0/2%((ss.length:Int)+1)=a:=⟨_,rfl⟩;obtain⟨A,hA⟩:∃A,eR ss none (some a)=A:=⟨_,rfl⟩;obtain⟨B,hB⟩:∃B,eR ss (some (a+1)) none=B:=⟨_,rfl⟩;obtain⟨I,hI⟩:∃I,eR ss none (some (-1))=I:=⟨_,rfl⟩;obtain⟨L,hL⟩:∃L,eR ss (some (-1)) none=L:=⟨_,rfl⟩;have eIL:I++L=ss:=by rw[<-hI,<-hL];exact dp5 ss
 have cA1:eR (ss.map (iF false)) none (some a)=A.map (iF false):=by rw[sD,hA]
 have cB1:eR (ss.map (iF false)) (some (a+1)) none=B.map (iF false):=by rw[sD,hB]
 have cA2:eR (ss.map (gB false f)) none (some a)=A.map (gB false f):=by rw[sD,hA]
 have cB2:eR (ss.map (gB false f)) (some (a+1)) none=B.map (gB false f):=by rw[sD,hB]
 have cI1:eR (ss.map (iF false)) none (some (-1))=I.map (iF false):=by rw[sD,hI]
 have cI2:eR (ss.map (gB false f)) none (some (-1))=I.map (gB false f):=by rw[sD,hI]
 have cL2:eR (ss.map (gB false f)) (some (-1)) none=L.map (gB false f):=by rw[sD,hL]
 have eo:I.map (gB false f)++L.map (gB false f)=ss.map (gB false f):=by rw[<-F7,eIL]
 have lA:A.length<=ss.length:=by rw[<-hA];exact ao0 _ _ _
 have lB:B.length<=ss.length:=by rw[<-hB];exact ao0 _ _ _
 have lI:I.length<=ss.length:=by rw[<-hI];exact ao0 _ _ _
 have lL:L.length<=ss.length:=by rw[<-hL];exact ao0 _ _ _
 have inA:∀s∈A,s∈ss:=λs h=>bv1 (by rw[hA];exact h);have inB:∀s∈B,s∈ss:=λs h=>bv1 (by rw[hB];exact h);have inI:∀s∈I,s∈ss:=λs h=>bv1 (by rw[hI];exact h);have inAB:∀s∈A++B,s∈ss:=λs h=>(A6.mp h).elim (inA s) (inB s);obtain⟨k2,r2,c2,z2,_,_,y2,x2⟩:=part (A++B) inAB (by simp;omega);obtain⟨k3,r3,c3,z3,n3,m3,y3,x3⟩:=part I inI X8;obtain⟨_,_,_,_,nA1,nA2,_,_⟩:=part A inA X8;obtain⟨_,_,_,_,nB1,nB2,_,_⟩:=part B inB X8;have nL2:=tO f L;rw[F7]at k2 r2 y2 x2;have aN:(ss.length:Int)+1≠0:=X8
 have ll0:A.length+B.length<=sizeLine:=by have:=F9;omega
 have ll1:I.length+L.length<=sizeLine:=by have:=F9;omega
 have ll2:ss.length<=100000:=X8
 have ll3:ss.length<=sizeLine:=by have:=F9;omega
 have sh:∀y0 y1 y2 y3 y4 y5 y6 y7 y8 y9 y10:Option T,cL (aJ 11) cO (jS 1 "shown" tm_shown (aB 11) aI) [y0,y1,y2,y3,y4,y5,y6,y7,y8,y9,y10,none] (ss.map (gB false f))=.ok (ss.map λs=>T.str (txt f s)):=λy0 y1 y2 y3 y4 y5 y6 y7 y8 y9 y10=>eO λs hs=>m_shown (sok s hs).c8 rfl;have ee:=cg9 true true (ss.map (txt f));rw[J3]at ee;have ee:fI (.lst true (ss.map λs=>T.str (txt f s))) (.lst true (ss.map λs=>T.str (txt f s)))=.ok (.bl true):=ee;clear part sok hb sl ctl hhb g lA lB lI lL hA hB hI hL hl inA inB inI inAB eIL;generalize cJ f ss=S1 at*;generalize cJ f (A++B)=S2 at*;generalize cJ f I=S3 at*;generalize cJ f []=S0 at*;generalize(ss.map λs=>T.str (txt f s))=SH at*;walk_at "e"
end Nk23
end
namespace PySem.W.Fast
def tw3108243559379927957:=Nat
def tw4947331846347777107:=Nat
def tw15050566493762990728:=Nat
def tw15823138366260904027:=Nat
def tw1917471099220674529:=Nat
def tw16463508378133820154:=Nat
def tw18264848584758477235:=Nat
def tw11270594606993738095:=Nat
def tw16116054917506551112:=Nat
def tw2231082319364323970:=Nat
def tw12457933882560262448:=Nat
def tw1269500466914802125:=Nat
def tw16216017864299626937:=Nat
def tw6567494272607014733:=Nat
def tw3745352631817465253:=Nat
def tw3412442923237589826:=Nat
def tw1058016595121797622:=Nat
def tw13984774885060678564:=Nat
def tw4846856653768593398:=Nat
def tw10571134122144053557:=Nat
def tw5688173149751493318:=Nat
def tw11802316448937216353:=Nat
def tw7462177912517880444:=Nat
def tw14738612826371340348:=Nat
def tw2389062110797555801:=Nat
def tw11937414398535170963:=Nat
def tw12326138532524393353:=Nat
def tw4967329077915342011:=Nat
def tw9959577909917859549:=Nat
def tw18369865604749097976:=Nat
def tw16524288065913552496:=Nat
def tw16837414880234615384:=Nat
def tw3133659515007050680:=Nat
def tw12217772851614435286:=Nat
def tw8803542391119624896:=Nat
def tw12888697278943925890:=Nat
def tw1669002400997272034:=Nat
def tw17490128572806470853:=Nat
def tw18423700663321531230:=Nat
def tw9205751045948815923:=Nat
def tw9848418956956418985:=Nat
def tw9669884763483931836:=Nat
def tw15188164279685131132:=Nat
def tw14062685386805184040:=Nat
def tw2463638993294952109:=Nat
def tw12846824134118279900:=Nat
def tw5680574378248776858:=Nat
def tw16765858468825841493:=Nat
def tw10404306069836628781:=Nat
def tw7666721109326578148:=Nat
def tw9994103346170728463:=Nat
def tw5889211804687364504:=Nat
def tw10695581500134155528:=Nat
def tw16222812359287642378:=Nat
def tw10748792770912025595:=Nat
def tw296769789755294269:=Nat
def tw11716518335961560467:=Nat
def tw13674162281514161416:=Nat
def tw2073626303325744398:=Nat
def tw1940269449408100953:=Nat
def tw11090901381395101660:=Nat
def tw5270871845402965940:=Nat
def tw12643859559048591016:=Nat
def tw10119029599706697080:=Nat
def tw10976996456086165575:=Nat
def tw10090878876891786445:=Nat
def tw9432727587906034626:=Nat
def tw3038718964379813124:=Nat
def tw14896295326132203488:=Nat
def tw14265065826127491986:=Nat
def tw3354932856981961101:=Nat
def tw6468441804264271690:=Nat
def tw18342520434341244341:=Nat
def tw12801444656590698312:=Nat
def tw4965585527766721200:=Nat
def tw14893540454478496519:=Nat
def tw7294027178941649512:=Nat
def tw10712763134569132642:=Nat
def tw2472902255864054463:=Nat
def tw15277377661101134429:=Nat
def tw4055975886569944664:=Nat
def tw3306538977773250894:=Nat
def tw2120387818109648908:=Nat
def tw9893514011660948737:=Nat
def tw5879051540389585799:=Nat
def tw5557505556974825628:=Nat
def tw16334011750507383857:=Nat
def tw16146762025322499591:=Nat
def tw792678842693162669:=Nat
def tw15737027214577147399:=Nat
def tw17357047443755708932:=Nat
def tw3636127559541510410:=Nat
def tw10800283693549489035:=Nat
def tw15830586162318551581:=Nat
def tw3531894538006956739:=Nat
def tw3182410041299065179:=Nat
def tw9603969968410736045:=Nat
def tw3415089740194983007:=Nat
def tw2374267004266872116:=Nat
def tw10301446423277928062:=Nat
def tw14298863027595531080:=Nat
def tw11825341539414836472:=Nat
def tw4304739366225309402:=Nat
def tw8998437807013531488:=Nat
def tw12946932649307542103:=Nat
def tw15345178144993075036:=Nat
def tw5549912698645721149:=Nat
def tw11084840153797023945:=Nat
def tw1936997567618339611:=Nat
def tw1309128572615890077:=Nat
def tw9403007667573976164:=Nat
def tw6461683652711553968:=Nat
def tw11860334661517371156:=Nat
def tw9153307068934172336:=Nat
def tw15627370523621952795:=Nat
def tw10511343146619776534:=Nat
def tw12976270648584904877:=Nat
def tw10931543480867447546:=Nat
def tw11323944407475862953:=Nat
def tw4837977025839223947:=Nat
def tw15368173479784472262:=Nat
def tw7235578246519222393:=Nat
def tw6998907406597354867:=Nat
def tw15943869329693688398:=Nat
def tw11945729305485953725:=Nat
def tw8546654906178156278:=Nat
def tw12032820338677642644:=Nat
def tw1366607441715045805:=Nat
def tw13166366694971433909:=Nat
def tw18109251146343853003:=Nat
def tw9036099589936380204:=Nat
def tw9469320465788815354:=Nat
def tw11265418258258022058:=Nat
def tw3806071438316914145:=Nat
def tw13695506611301149433:=Nat
def tw4610701205753225777:=Nat
def tw2701935633209617855:=Nat
def tw11325051219060952986:=Nat
def tw15568380953764353464:=Nat
def tw14131114781035418030:=Nat
def tw9484962728437308103:=Nat
def tw3015184693391070312:=Nat
def tw4979410294190886287:=Nat
def tw6320941773774919686:=Nat
def tw14864235490928070248:=Nat
def tw11603642906722256988:=Nat
def tw6372066691371180303:=Nat
def tw5184803400088967241:=Nat
def tw13713173749346064615:=Nat
def tw16502069875467272222:=Nat
def tw2178910228037443487:=Nat
def tw1763816526048959285:=Nat
def tw306083588344536206:=Nat
def tw13656780329195456823:=Nat
def tw1750056300166817820:=Nat
def tw16705891835041126567:=Nat
def tw11866885512779664373:=Nat
def tw398562591759782979:=Nat
def tw3761566823653720363:=Nat
def tw12788548996865264717:=Nat
def tw11613308387164218755:=Nat
def tw9557267019910136044:=Nat
def tw18403624292367746872:=Nat
def tw206882458118024620:=Nat
def tw6576261583900371362:=Nat
def tw823902848572813356:=Nat
def tw4263212788112821757:=Nat
def tw11544630607879088060:=Nat
def tw9490987535026727915:=Nat
def tw5985414494687118803:=Nat
def tw16578149307458068348:=Nat
def tw1107188762148476039:=Nat
def tw12593828018099380762:=Nat
def tw9796887110905169098:=Nat
def tw10467398550775428408:=Nat
def tw274753015952003761:=Nat
def tw909443895826783426:=Nat
def tw3244231759860410428:=Nat
def tw11875570035939823728:=Nat
def tw5860113026934561200:=Nat
def tw8485200601559408686:=Nat
def tw7851802624545363883:=Nat
def tw10002941668522221082:=Nat
def tw9290744615402783977:=Nat
def tw17617676775299744211:=Nat
def tw454634832089732360:=Nat
def tw863006607211677277:=Nat
def tw9439431457117272761:=Nat
def tw17047563132286594625:=Nat
def tw16787958709946133310:=Nat
def tw8611760411718484635:=Nat
def tw11505061931232567994:=Nat
def tw5889082889007889289:=Nat
def tw10386325181410130751:=Nat
def tw3601769991285624773:=Nat
def tw3554897024743492068:=Nat
def tw12038403541101709137:=Nat
def tw14881551068804963813:=Nat
def tw6904283170214372477:=Nat
def tw6784171019541735501:=Nat
def tw14481146799551816666:=Nat
def tw3251873978005742957:=Nat
def tw8886832147456585820:=Nat
def tw9756525439770438757:=Nat
def tw9077758388918233697:=Nat
def tw2901166724276300729:=Nat
def tw17022119129175032584:=Nat
def tw18372093528300878010:=Nat
def tw15438570114812198710:=Nat
def tw14590051209615304968:=Nat
def tw13930876871160877341:=Nat
def tw7371883524962557132:=Nat
def tw9869493630894302065:=Nat
def tw2382691533331364972:=Nat
def tw7589060520198809947:=Nat
def tw9401042615335228324:=Nat
def tw9178712291938549459:=Nat
def tw4577030695935213672:=Nat
def tw16099231033939576982:=Nat
def tw15846901352690968687:=Nat
def tw10491348373974874555:=Nat
def tw7346911341531851007:=Nat
def tw2222469271297681209:=Nat
def tw15297450159375173008:=Nat
def tw118771111479278864:=Nat
def tw14026150334027703406:=Nat
def tw10199332718855309858:=Nat
def tw9002524084797514510:=Nat
def tw6157480745905921140:=Nat
def tw13614528003793665990:=Nat
def tw11200639670154911487:=Nat
def tw6633608771616219957:=Nat
def tw6880580253044587581:=Nat
def tw9400924829910723887:=Nat
def tw11548191380881868664:=Nat
def tw3945488620785887606:=Nat
def tw5980848817433492184:=Nat
def tw18344340060727140708:=Nat
def tw13604580815528624860:=Nat
def tw2404294454602306280:=Nat
def tw14187783148134095759:=Nat
def tw8914792762390365969:=Nat
def tw6789922061107923903:=Nat
def tw14591287394776005334:=Nat
def tw10465039375150620410:=Nat
def tw4950968935046682927:=Nat
def tw3794548751172629848:=Nat
def tw14794271127847916155:=Nat
def tw12607848932690020157:=Nat
def tw3370661563408829553:=Nat
def tw7073339864167457606:=Nat
def tw5172619351874584450:=Nat
def tw4690307146532341756:=Nat
def tw3933342707904926454:=Nat
def tw2913431798863690806:=Nat
def tw2187443258574624317:=Nat
def tw2095416918779122930:=Nat
def tw17535424444005623902:=Nat
def tw13627466528272761386:=Nat
def tw13441674950973049126:=Nat
def tw10137448086960908407:=Nat
def tw11096140128935668067:=Nat
def tw11348655699074483635:=Nat
def tw13496944676933926781:=Nat
def tw891740718641632541:=Nat
def tw6587576488595758347:=Nat
def tw17522089644926570875:=Nat
def tw13236088891285212851:=Nat
def tw13054392229792620472:=Nat
def tw10797778526966062056:=Nat
def tw8416356046300901550:=Nat
def tw6835004504066127704:=Nat
def tw5204813383679109416:=Nat
def tw380535935961070994:=Nat
def tw2719712596075152891:=Nat
def tw17674382380208583707:=Nat
def tw16996509608805724764:=Nat
def tw1623955895326931324:=Nat
def tw12977979321895448538:=Nat
def tw12357112059946297712:=Nat
def tw7379883053528363715:=Nat
def tw2014658026282321607:=Nat
def tw18060997037578261336:=Nat
def tw14355634502674753216:=Nat
def tw9843276392981276195:=Nat
def tw9464887587413127965:=Nat
def tw12542722317816176764:=Nat
def tw6043387735388208125:=Nat
def tw11372155105155968884:=Nat
def tw6490376986465250879:=Nat
def tw10014540204509203747:=Nat
def tw10043944454895515422:=Nat
def tw10046205010963343541:=Nat
def tw10046793005047450820:=Nat
def tw10059675497451153223:=Nat
def tw10159818099306266645:=Nat
def tw10259174838959017014:=Nat
def tw10332254221377062597:=Nat
def tw10333304976531945029:=Nat
def tw10366957669230183171:=Nat
def tw10454832210513145905:=Nat
def tw1048656754688097334:=Nat
def tw10590164055547082306:=Nat
def tw10590982725211545588:=Nat
def tw10594362905119351930:=Nat
def tw10606819041951415501:=Nat
def tw10647688350793466864:=Nat
def tw10688790828565471317:=Nat
def tw10752670550745316134:=Nat
def tw10757432098619945371:=Nat
def tw1077301410297146974:=Nat
def tw10785551858872528357:=Nat
def tw10896997667883016499:=Nat
def tw10916248584053600027:=Nat
def tw10933536553618988046:=Nat
def tw10937589646672822973:=Nat
def tw10952484955692134602:=Nat
def tw10961174445548290404:=Nat
def tw10970010902620403958:=Nat
def tw11018788300353967859:=Nat
def tw11051787470568328532:=Nat
def tw11070020229117779668:=Nat
def tw11108807844634154085:=Nat
def tw11115749270673400746:=Nat
def tw11156150237938814443:=Nat
def tw11159977764670678242:=Nat
def tw1117495483674484625:=Nat
def tw11186510718073956271:=Nat
def tw11192889433796400051:=Nat
def tw11223018175340829255:=Nat
def tw11239222195491188930:=Nat
def tw11264638351402391490:=Nat
def tw11269739770554977813:=Nat
def tw11337568624627815555:=Nat
def tw11445684424378589873:=Nat
def tw11462488796503080061:=Nat
def tw11468054936965686579:=Nat
def tw11492348193027806425:=Nat
def tw11531081347343437320:=Nat
def tw11547558984835877130:=Nat
def tw11564193104743837081:=Nat
def tw11597327542106322140:=Nat
def tw11609934224675923436:=Nat
def tw11637167003584218275:=Nat
def tw11724122127691635314:=Nat
def tw11755243020865135239:=Nat
def tw11786193758134872390:=Nat
def tw1178685316740071171:=Nat
def tw11801017268328660271:=Nat
def tw11864437764456250504:=Nat
def tw11868522981966361710:=Nat
def tw11884563005591619135:=Nat
def tw11907838597168344080:=Nat
def tw11936015090400605914:=Nat
def tw11987762880605492175:=Nat
def tw12065397847094042606:=Nat
def tw12151759508856578254:=Nat
def tw12229574044535328355:=Nat
def tw12241683204421607842:=Nat
def tw12290219369892360121:=Nat
def tw12292343095251638162:=Nat
def tw12296498388870172186:=Nat
def tw12359683267288487849:=Nat
def tw12392162229674139195:=Nat
def tw12399450627888875228:=Nat
def tw12407180828043111680:=Nat
def tw12418086005957370005:=Nat
def tw12473332883944385687:=Nat
def tw12477187734931996960:=Nat
def tw12481390370683363268:=Nat
def tw12496163975666167140:=Nat
def tw12502595371094694788:=Nat
def tw12518291144905707358:=Nat
def tw12646197430724548148:=Nat
def tw12755989875841408569:=Nat
def tw12764075845412379198:=Nat
def tw12918061002638424108:=Nat
def tw12943632065234705686:=Nat
def tw12946114325690335446:=Nat
def tw12955383290751990688:=Nat
def tw13016062273264801341:=Nat
def tw1302223136061063925:=Nat
def tw13024198456174060136:=Nat
def tw13084949004630515999:=Nat
def tw13087538403578420373:=Nat
def tw13094960801227004862:=Nat
def tw13164425036649677218:=Nat
def tw13220533813090898073:=Nat
def tw13234997746313081345:=Nat
def tw13235547413606836032:=Nat
def tw13263007403671314730:=Nat
def tw13296138189877228646:=Nat
def tw13381458549365936142:=Nat
def tw13401756943491480839:=Nat
def tw1340613925520247116:=Nat
def tw13442264375441471923:=Nat
def tw13459333688931171184:=Nat
def tw13518423678508426922:=Nat
def tw13556698573622722882:=Nat
def tw1356907304445341612:=Nat
def tw13616797562473410730:=Nat
def tw13651971103914776075:=Nat
def tw13672910420505947333:=Nat
def tw13691228968581820727:=Nat
def tw13742919797422077518:=Nat
def tw13765836462239482417:=Nat
def tw13786784684892288383:=Nat
def tw13857217219413966448:=Nat
def tw1386021652976451109:=Nat
def tw13899383874523458106:=Nat
def tw13917129911955142976:=Nat
def tw13965905723032125109:=Nat
def tw13988832463134434773:=Nat
def tw13993292720383639736:=Nat
def tw14065648867017533699:=Nat
def tw14089507564496791589:=Nat
def tw14093959036212642142:=Nat
def tw1413331695883429031:=Nat
def tw14147457024175143953:=Nat
def tw141755272368362968:=Nat
def tw14176888886721972945:=Nat
def tw141994635402103242:=Nat
def tw14253394813381794121:=Nat
def tw14306597263236243179:=Nat
def tw14322286760681304216:=Nat
def tw14346501230225215716:=Nat
def tw1441404413273088770:=Nat
def tw1451915457179902644:=Nat
def tw14547910333075819741:=Nat
def tw14554194132683732143:=Nat
def tw14606562188336788335:=Nat
def tw14618404328633333694:=Nat
def tw14619372597153250676:=Nat
def tw14627373697191385501:=Nat
def tw14661213566934589823:=Nat
def tw14703952879270919363:=Nat
def tw14717351222495731075:=Nat
def tw14737611769961099635:=Nat
def tw14781378155720252371:=Nat
def tw14792938113741672285:=Nat
def tw14804898585264520884:=Nat
def tw14851679676487949261:=Nat
def tw14855527981621703696:=Nat
def tw14889746538097270960:=Nat
def tw14950030960459481761:=Nat
def tw14979516146431475094:=Nat
def tw14997267081196198429:=Nat
def tw15014204198767687211:=Nat
def tw15024037628305232115:=Nat
def tw15033958921696130350:=Nat
def tw1504742720698712524:=Nat
def tw1504945045214139317:=Nat
def tw15056339065983864278:=Nat
def tw1510299619261918686:=Nat
def tw15134552725856684241:=Nat
def tw15138288775403994680:=Nat
def tw15176602299153753919:=Nat
def tw15178280215691759752:=Nat
def tw15254160025196325791:=Nat
def tw15322429655006201348:=Nat
def tw15325008914768874854:=Nat
def tw15393656583085363589:=Nat
def tw15419156583890931170:=Nat
def tw15453443460226838722:=Nat
def tw15557680438843442211:=Nat
def tw1558605414380509430:=Nat
def tw15608906090646881556:=Nat
def tw15611158745896575338:=Nat
def tw15626112822112152596:=Nat
def tw15649545906227493395:=Nat
def tw15663525888325780495:=Nat
def tw15668387964237050962:=Nat
def tw15680096258988119608:=Nat
def tw15772032145257030030:=Nat
def tw15837239702232010447:=Nat
def tw15853042732882861017:=Nat
def tw15887496051131424413:=Nat
def tw15911707966987381574:=Nat
def tw15922663166088775266:=Nat
def tw15953124152460397701:=Nat
def tw15986152965223160332:=Nat
def tw16014320319606470290:=Nat
def tw16039259814819733723:=Nat
def tw16095706751787685161:=Nat
def tw16127715266447778577:=Nat
def tw16153691194608097600:=Nat
def tw1625542805354089218:=Nat
def tw16282146060047596096:=Nat
def tw16292063164528439554:=Nat
def tw1629693540121669735:=Nat
def tw16308601721913096311:=Nat
def tw16362881819550274969:=Nat
def tw16368770745386971642:=Nat
def tw16378854879862303531:=Nat
def tw16411222526539470277:=Nat
def tw16584856025183432906:=Nat
def tw1660227920139437783:=Nat
def tw1663115465537672613:=Nat
def tw16666659953479683756:=Nat
def tw16693347003283766408:=Nat
def tw16699460612931407724:=Nat
def tw16706621923020219004:=Nat
def tw16720936043278690091:=Nat
def tw16745287376167415672:=Nat
def tw16811243238681993197:=Nat
def tw1687784660113099853:=Nat
def tw16885703956289038579:=Nat
def tw16942245401159767021:=Nat
def tw16961386750079283137:=Nat
def tw16984226900256001809:=Nat
def tw16986144307643757459:=Nat
def tw16987913061913431959:=Nat
def tw16999580101338621445:=Nat
def tw1704180378081293154:=Nat
def tw1705496441756602457:=Nat
def tw17088659448045600533:=Nat
def tw17138012695277710671:=Nat
def tw17147015052138108279:=Nat
def tw17203895956677902214:=Nat
def tw17260815988495804228:=Nat
def tw1728040971341528847:=Nat
def tw17344449549491393039:=Nat
def tw17351344299429841096:=Nat
def tw17378030856094473757:=Nat
def tw17425832623170494978:=Nat
def tw17454533045824819415:=Nat
def tw17488819037472680853:=Nat
def tw17501178312251384861:=Nat
def tw17506378888352853544:=Nat
def tw17512429947286660270:=Nat
def tw17548126421246929857:=Nat
def tw17562467819587739423:=Nat
def tw17585033498132204412:=Nat
def tw17600798185968214954:=Nat
def tw17613234392458812914:=Nat
def tw17700453380710810483:=Nat
def tw17714159698120795396:=Nat
def tw17718368920378278417:=Nat
def tw17792327893042067130:=Nat
def tw17822851178669859606:=Nat
def tw17846617682823293419:=Nat
def tw17851085731096928328:=Nat
def tw17851649295286528192:=Nat
def tw17957926144597713538:=Nat
def tw17961923013062847975:=Nat
def tw18027662440786195863:=Nat
def tw18034397689796674241:=Nat
def tw1805952578466758727:=Nat
def tw18112172406595658834:=Nat
def tw18112902119650395712:=Nat
def tw18128926498375930523:=Nat
def tw18152806564276743617:=Nat
def tw18168515684261447210:=Nat
def tw18177675737057362822:=Nat
def tw18194429829296820590:=Nat
def tw18216190613719936779:=Nat
def tw18278205013189178145:=Nat
def tw18281151742889704297:=Nat
def tw18304716407991462769:=Nat
def tw18376233511332230742:=Nat
def tw18387309810923234845:=Nat
def tw18418257444394348716:=Nat
def tw1845606737045877153:=Nat
def tw1857769402420115728:=Nat
def tw191689908127302441:=Nat
def tw1933975429404142462:=Nat
def tw1971113505682498461:=Nat
def tw1977788198232969464:=Nat
def tw1990937240368787559:=Nat
def tw2014688226710312813:=Nat
def tw2063824452679346363:=Nat
def tw209887428644946423:=Nat
def tw2247049014454006048:=Nat
def tw2297859659087495227:=Nat
def tw2350263250470851947:=Nat
def tw2397741611291913734:=Nat
def tw2420392306124098113:=Nat
def tw2475514561607236337:=Nat
def tw2487766362995552143:=Nat
def tw2488463519711761890:=Nat
def tw2517690247396777211:=Nat
def tw2549487965363635178:=Nat
def tw2570920994063746147:=Nat
def tw2602625913555475394:=Nat
def tw2646578571053998793:=Nat
def tw2649166886903763428:=Nat
def tw2716909188142912136:=Nat
def tw273331913974603234:=Nat
def tw2868101123273364282:=Nat
def tw2880202868360032187:=Nat
def tw2897275975562631348:=Nat
def tw2948172105907055911:=Nat
def tw2985649996494191199:=Nat
def tw3004870086121787869:=Nat
def tw3025111346770034125:=Nat
def tw3034779529647347415:=Nat
def tw3053045969886016750:=Nat
def tw3105674412636156714:=Nat
def tw3114026217570025359:=Nat
def tw3121583263700231466:=Nat
def tw3124772425314054609:=Nat
def tw3179180549500188860:=Nat
def tw3194420621195218347:=Nat
def tw3239408664053120305:=Nat
def tw3240086288809973556:=Nat
def tw3260612104370745391:=Nat
def tw3262909171623998191:=Nat
def tw3289875272373805325:=Nat
def tw3292328793011194499:=Nat
def tw3346069026044237013:=Nat
def tw335322035338817911:=Nat
def tw3392295327316475852:=Nat
def tw3401050534686288113:=Nat
def tw3489274264514078787:=Nat
def tw349845813484905048:=Nat
def tw3576040680261288759:=Nat
def tw3651966726638606566:=Nat
def tw3660162573016862364:=Nat
def tw373185003055541890:=Nat
def tw3764793844892169243:=Nat
def tw3770946550213233636:=Nat
def tw3835200081722203419:=Nat
def tw3840398237046593453:=Nat
def tw3903699695137970340:=Nat
def tw39060789289961307:=Nat
def tw3922686474656840215:=Nat
def tw3956277542676211606:=Nat
def tw3961125381138888987:=Nat
def tw3972553429675339704:=Nat
def tw4066544314577545248:=Nat
def tw4072153658824372761:=Nat
def tw415752547851742774:=Nat
def tw4176242347003849654:=Nat
def tw4207590710210861495:=Nat
def tw4220365607571143789:=Nat
def tw4230093251352747441:=Nat
def tw4250499180408714504:=Nat
def tw4274420334315235717:=Nat
def tw4299859201376613571:=Nat
def tw4346307715796266182:=Nat
def tw4373109746671350553:=Nat
def tw4409084962996017548:=Nat
def tw4436553853313935677:=Nat
def tw4499712076413478545:=Nat
def tw4503014147143639417:=Nat
def tw454888844457146269:=Nat
def tw4564884613101102936:=Nat
def tw4577650439724652191:=Nat
def tw4604816689327361882:=Nat
def tw4625528004182294962:=Nat
def tw4633314640638594763:=Nat
def tw4688655563853380212:=Nat
def tw4767377840312856700:=Nat
def tw4794357170719578670:=Nat
def tw4857602928452927567:=Nat
def tw4874430468457065213:=Nat
def tw4907421990854667495:=Nat
def tw4928753758309329565:=Nat
def tw493469523676318853:=Nat
def tw493724991507801980:=Nat
def tw4945812698611973290:=Nat
def tw4990648954797659520:=Nat
def tw499337346439351286:=Nat
def tw5041475416291649793:=Nat
def tw5055899764553858509:=Nat
def tw5111282775581969010:=Nat
def tw5115551252253057404:=Nat
def tw5168824453527342686:=Nat
def tw5201455146168573887:=Nat
def tw5259753268792145117:=Nat
def tw5336150857624970845:=Nat
def tw5351436636135630082:=Nat
def tw5357438106284329478:=Nat
def tw5378168594356358289:=Nat
def tw5389631913623708564:=Nat
def tw5411477501714582696:=Nat
def tw5561693161706963702:=Nat
def tw5580767201040064381:=Nat
def tw5595009673548311073:=Nat
def tw559683086790829155:=Nat
def tw5638445859910734325:=Nat
def tw5759662425410336073:=Nat
def tw5822905288720889411:=Nat
def tw5837385857677429946:=Nat
def tw5868829121668096298:=Nat
def tw5872903320774745576:=Nat
def tw5883423992811834531:=Nat
def tw5918588928815359951:=Nat
def tw5960419016224988839:=Nat
def tw5975431815823604709:=Nat
def tw5998930303352624280:=Nat
def tw6067948145962596246:=Nat
def tw6143048357824060255:=Nat
def tw615387758794434087:=Nat
def tw6186594650136694134:=Nat
def tw6198520484109924360:=Nat
def tw6228990150686866425:=Nat
def tw6255984228197400658:=Nat
def tw626030534729165326:=Nat
def tw6347911614072851280:=Nat
def tw6394552541876385009:=Nat
def tw6450956404612427197:=Nat
def tw6473586823582837178:=Nat
def tw6487754082893586164:=Nat
def tw6502503021921644683:=Nat
def tw6571265030415001988:=Nat
def tw6575570906387240223:=Nat
def tw658026008538969995:=Nat
def tw6629501462446727608:=Nat
def tw6638972435273815141:=Nat
def tw6668906449332624634:=Nat
def tw6687274566334336409:=Nat
def tw6747989971835197644:=Nat
def tw6768801979198541529:=Nat
def tw6802426294878862238:=Nat
def tw6824280087944666286:=Nat
def tw6834222760163673537:=Nat
def tw6873713618076296990:=Nat
def tw6902789236561676957:=Nat
def tw6963202495289429692:=Nat
def tw7033355029350001455:=Nat
def tw705361037049021385:=Nat
def tw7088922240397926700:=Nat
def tw7099148835332056159:=Nat
def tw7125757401681144230:=Nat
def tw7188847344249972843:=Nat
def tw7192412144175543706:=Nat
def tw7228632368503929692:=Nat
def tw7232384788752858542:=Nat
end PySem.W.Fast
open PySem PySem.W PyProof.Rows
set_option maxRecDepth 100000 in
set_option maxHeartbeats 0 in
theorem PySem.Challenge.cw_inkyears_k23_least_costs_holds : PySem.Challenge.rw_inkyears_k23_least_costs.Holds := by
 w_on;o_law;k_head;(case hw=>w_witness2)
 k_fill
 refine L2.dw5 (l:=PySem.Challenge.rw_inkyears_k23_least_costs) (k:=10) (x:="_law_script") rfl rfl ⟨rfl,by decide,by decide⟩ (λw h Y=>PySem.W.kIn_of Y) ?F
 case F=>
  intro w mg fa h KX G hmg
  refine' Nk23.eq6 (cn:=λx=>[(("Archive":Str),?c_Archive),(("Ink":Str),?c_Ink),(("Reign":Str),?c_Reign),(("Under":Str),?c_Under),(("Between":Str),?c_Between),(("After":Str),?c_After),(("Same":Str),?c_Same),(("Within":Str),?c_Within),(("Apart":Str),?c_Apart),(("Stuck":Str),?c_Stuck)].lookup x) (Am6:=?c_Archive) (An2:=?c_Ink) (Ao0:=?c_Reign) (Ao4:=?c_Under) (An1:=?c_Between) (Am4:=?c_After) (Ao1:=?c_Same) (Ao5:=?c_Within) (Am5:=?c_Apart) (Ao2:=?c_Stuck) (Am7:=?c_ArchiveError) (Am8:=?c_BadArchive) (An0:=?c_BadSaying) (An3:=?c_NoAge) (An9:=?c_NoYear) (An5:=?c_NoGap) (Ao3:=?c_TooMany) (An7:=?c_NoNumber) (An4:=?c_NoDating) (Am9:=?c_BadRow) (An8:=?c_NoRow) (An6:=?c_NoName) KX G hmg ?a0 ?l0 ?c0 ?k0 ⟨?T0,?T1,?T2,?T3,?T4,?T5,?T6,?T7,?T8,?T9,?T10,?T11,?T12,?T13,?T14,?T15,?T16,?T17,?T18,?T19,?T20,?T21,?T22,?T23,?T24,?T25,?T26,?T27,?T28,?T29,?T30,?T31,?T32,?T33,?T34,?T35,?T36,?T37,?T38,?T39,?T40,?T41,?T42,?T43,?T44,?T45,?T46,?T47,?T48,?T49,?T50,?T51,?T52,?T53,?T54,?T55,?T56,?T57,?T58,?T59,?T60,?T61,?T62,?T63,?T64,?T65,?T66,?T67,?T68,?T69,?T70,?T71,?T72,?T73,?T74,?T75,?T76,?T77,?T78,?T79,?T80,?T81,?T82,?T83,?T84,?T85,?T86,?T87,?T88,?T89,?T90,?T91,?T92,?T93,?T94,?T95,?T96,?T97,?T98,?T99,?T100,?T101,?T102,?T103,?T104,?T105,?T106,?T107,?T108,?T109,?T110,?T111,?T112,?T113,?T114,?t0,?t1,?t2,?t3,?t4,?t5,?t6,?t7,?t8,?t9,?t10,?t11,?t12,?t13,?t14,?t15,?t16,?t17,?t18,?t19,?t20,?t21,?t22,?t23,?t24,?t25,?t26,?t27,?t28,?t29,?t30,?t31,?t32,?t33,?t34,?t35,?t36,?t37,?t38,?t39,?t40,?t41,?t42,?t43,?t44,?t45,?t46,?t47,?t48,?t49,?t50,?t51,?t52,?t53,?t54,?t55,?t56,?t57,?t58,?t59,?t60,?t61,?t62,?t63,?t64,?t65,?t66,?t67,?t68,?t69,?t70,?t71,?t72,?t73,?t74,?t75,?t76,?t77,?t78,?t79,?t80,?t81,?t82,?t83,?t84,?t85,?t86,?t87,?t88,?t89,?t90,?t91,?t92,?t93,?t94,?t95,?t96,?t97,?t98,?t99,?t100,?t101,?t102,?t103,?t104,?t105⟩ Nk23.main
  (case a0=>k_is);(case l0=>k_is);(case c0=>k_is);(case k0=>k_is)
  all_goals try(refine' L2.ex9 KX G ?a ?l ?c ?k;(case a=>k_is);(case l=>k_is);(case c=>k_is);(case k=>k_is))
  all_goals try(refine' L2.ef1 KX G ?g ?mk ?a ?b ?kc ?l ?c ?k;(case g=>k_is);(case mk=>k_is);(case a=>k_is);(case b=>k_is);(case kc=>k_is);(case l=>k_is);(case c=>k_is);(case k=>k_is))
  all_goals try(refine' L2.er0 ?a ?b ?l ?c ?k;(case a=>k_is);(case b=>k_is);(case l=>k_is);(case c=>k_is);(case k=>k_is))
  all_goals try exact PySem.W.mg_none_of KX G (by k_is)
  all_goals try(refine' L2.eh7 KX G ?a ?r;(case a=>k_is);(case r=>exact⟨_,rfl⟩))
  case t97=>(refine' L2.bs2 KX G ?g ?l ?r ?nd ?sm;(case g=>k_is);(case l=>k_is);(case r=>exact .cons (.cons (.cons (.cons (.cons (.cons (.cons (.cons (.nil)))))))));(case nd=>decide+kernel);(case sm=>rfl))
  case T31=>(refine' L2.bs2 KX G ?g ?l ?r ?nd ?sm;(case g=>k_is);(case l=>k_is);(case r=>exact .cons (.cons (.cons (.cons (.cons (.nil))))));(case nd=>decide+kernel);(case sm=>rfl))
  case T32=>exact .cons (TL.mG (by k_is) (.int (.int .nil)) (by decide)) (.cons (TL.mG (by k_is) (.int (.int .nil)) (by decide)) (.cons (TL.mG (by k_is) (.int (.int .nil)) (by decide)) (.cons (TL.mG (by k_is) (.int (.int .nil)) (by decide)) (.cons (TL.mG (by k_is) (.int (.int .nil)) (by decide)) (.nil)))))
  case T33=>(refine' L2.bs2 KX G ?g ?l ?r ?nd ?sm;(case g=>k_is);(case l=>k_is);(case r=>exact .cons (.cons (.cons (.cons (.cons (.cons (.cons (.cons (.nil)))))))));(case nd=>decide+kernel);(case sm=>rfl))
  case T34=>exact .cons (TL.mG (by k_is) (.str (.str (.str (.str .nil)))) (by decide)) (.cons (TL.mG (by k_is) (.str (.str (.str .nil))) (by decide)) (.cons (TL.mG (by k_is) (.str (.str .nil)) (by decide)) (.cons (TL.mG (by k_is) (.str (.str (.str .nil))) (by decide)) (.cons (TL.mG (by k_is) (.str (.str .nil)) (by decide)) (.cons (TL.mG (by k_is) (.str (.str .nil)) (by decide)) (.cons (TL.mG (by k_is) (.str (.str (.str .nil))) (by decide)) (.cons (TL.mG (by k_is) (.str (.str (.str (.str .nil)))) (by decide)) (.nil))))))))
  all_goals try exact L2.fd4 KX G (by k_is) rfl
  all_goals try exact L2.eb9 KX G (by k_is)
  all_goals try(refine' L2.ey1 KX G ?gl ?eg ?kc ?ex;(case gl=>k_is);(case eg=>(refine' L2.cs3 ?a ?b ?c ?d ?e ?f ?g ?h;(case a=>with_unfolding_all rfl);(case b=>rfl);(case c=>k_is);(case d=>k_is);(case e=>k_is);(case f=>k_is);(case g=>k_is);(case h=>k_is)));(case kc=>k_is);(case ex=>first|with_unfolding_all rfl|k_is))
  all_goals try(refine' L2.ee1 KX G ?gl ?b ?t;(case gl=>k_is);(case b=>k_is);(case t=>k_is))
  case T35=>rfl
  case T37=>rfl
  case T39=>rfl
  case T41=>rfl
  case T43=>rfl
  case T45=>rfl
  case T47=>rfl
  case T49=>rfl
  case T51=>rfl
  case T90=>rfl
  all_goals try(refine' L2.cs3 ?a ?b ?c ?d ?e ?f ?g ?h;(case a=>with_unfolding_all rfl);(case b=>rfl);(case c=>k_is);(case d=>k_is);(case e=>k_is);(case f=>k_is);(case g=>k_is);(case h=>k_is))
  all_goals try(refine' L2.ef5 ?a ?b ?c ?d;(case a=>k_is);(case b=>k_is);(case c=>k_is);(case d=>k_is))
  all_goals try exact L2.dz5 (by k_is)
  all_goals try exact L2.fw2 (by k_is)
  all_goals try exact L2.ef0 (by rfl)
  all_goals try((iterate 1 refine List.forall_mem_cons.mpr ⟨L2.eu2 (by rfl),?_⟩);exact nofun)
  case T106=>exact L2.be8 (by rfl)
  case T107=>((iterate 1 refine List.forall_mem_cons.mpr ⟨L2.cb4 (by rfl),?_⟩);exact nofun)
  case T113=>exact L2.be8 (by rfl)
  case T114=>((iterate 1 refine List.forall_mem_cons.mpr ⟨L2.cb4 (by rfl),?_⟩);exact nofun)
