import PyProof.Rows.All
import Wide.All
import OpenK.AllK
import Wide.FinOn
import Lean
import PyProof.EqAt
import PyProof.EqKinds
import PyProof.TupleCall
import PyProof.NeKinds
import PyProof.ZipIter
import PyProof.EnumMake
import PyProof.Rows.ZipGen
import PyProof.Rows.SetFrom
import PyProof.IsiNone
import KE.KRevSl
import PyProof.Rows.ListMul
import PyProof.ListRange
import PyProof.Rows.SumAny
import KE.KDictList
import PySem.Challenge.RW_inkyears_k33_whole_datings_together
set_option Elab.async false
set_option compiler.extract_closed false
set_option linter.all false
set_option maxRecDepth 100000
set_option maxHeartbeats 4000000
abbrev A5:=PySem.W.Frag
def A6:=@List.getElem?_eq_getElem
def A7:=@PySem.wpAny_bind
def A8:=@List.getD_eq_getElem?_getD
def A9:=@List.mem_append
def B0:=@PySem.Heap.get?_push_of_some
def B5:=@List.mem_cons_of_mem
def B6:=@List.size_toArray
def B7:=@List.mem_cons_self
abbrev B8:=PySem.Shared
def B9:=@PySem.wpAny_pure
def C3:=@List.length_map
def C4:=@List.mem_cons
def C5:=@List.mem_singleton
def C6:=@List.mem_append_right
def C7:=@List.map_cons
def C8:=@List.getElem?_map
def C9:=@Nat.le_refl
def D0:=@List.flatten_cons
def D3:=@List.getElem?_eq_some_iff
def D4:=@List.mem_of_getElem?
def D5:=@PySem.Heap.lt_size
def D6:=@PySem.Heap.get?_push_size
def D7:=@if_neg
def D8:=@List.nodup_append
def D9:=@List.mem_append_left
def E3:=@if_pos
def E4:=@PySem.PassesOwn.never
def E5:=@Int.toNat_natCast
def E6:=@Array.length_toList
def E7:=@List.length_append
def E8:=@absurd
def E9:=@Bool.false_ne_true
def F6:=@decide_eq_false
def F7:=@decide_eq_true
def F8:=@PySem.sizeLine_eq
def F9:=@List.mem_range
def G0:=@Option.some.inj
abbrev G1:=PySem.Program
def G2:=@Nat.ne_of_lt
def G3:=@Nat.lt_of_lt_of_le
def G4:=@Option.map_eq_some_iff
def G5:=@List.length_cons
def G6:=@List.nodup_cons
def G7:=@List.getElem?_range
def G8:=@Bool.and_eq_true
def G9:=@Int.emod_nonneg
def H0:=@Bool.and_self
abbrev J0:=PySem.Around
def J1:=@List.map_append
def J2:=@List.nodup_nil
def J3:=@List.not_mem_nil
def J4:=@List.map_map
def J5:=@List.lookup_cons
def J6:=@List.getElem?_eq_none
def J7:=@Int.emod_lt_of_pos
def J8:=@List.replicate_succ
def J9:=@List.getElem?_set_ne
def K0:=@List.append_assoc
def K1:=@Nat.le_trans
def K2:=@beq_eq_false_iff_ne
def K3:=@List.getElem_mem
def K4:=@List.all_eq_true
def K5:=@List.getElem?_append_right
def K6:=@List.length_range
def K7:=@PySem.wpAny_newObj_type
def K8:=@List.append_nil
def K9:=@PySem.Heap.get?_update_other
def L0:=@PyProof.Rows.callWith_type1
def L3:=@List.map_nil
def L4:=@PySem.Heap.size_push
def L5:=@Array.getElem?_eq_some_iff
def L6:=@PySem.wpAny_callSpecial?_slot
def L7:=@List.mem_flatMap
def L8:=@List.cons_append
def L9:=@PySem.wpAny_call_entry
def M3:=@List.mem_map
def M4:=@PySem.wpAny_truthy_bool
def M5:=@List.set_cons_zero
def M6:=@List.set_cons_succ
def M7:=@Int.zero_add
def M8:=@List.mem_map_of_mem
def M9:=@List.nil_append
def N0:=@List.getElem?_append_left
def N1:=@congrArg
def N2:=@PySem.F.called_set
def N3:=@List.eq_nil_iff_forall_not_mem
def N4:=@if_true
def N5:=@PySem.wpAny_Call_Name_kw
def N6:=@Ne.symm
def N7:=@List.length_set
def N8:=@Int.le_trans
def N9:=@PySem.wpAny_mono
def O0:=@beq_self_eq_true
def O1:=@Classical.byContradiction
def O2:=@List.mem_of_mem_take
def O3:=@List.getElem_toArray
def O4:=@Nat.lt_irrefl
def O5:=@PySem.wpAny_field
def O6:=@or_false
def O7:=@PySem.F.plainAttrs_list
def O8:=@Option.bind_eq_some_iff
def O9:=@List.getElem?_replicate
def P7:=@Bool.not_false
def P8:=@PySem.wpAny_holding
def P9:=@List.pairwise_cons
def Q0:=@Bool.false_eq_true
def Q1:=@PySem.wpAny_seqItems
def Q2:=@if_false
def Q3:=@List.foldl_cons
def Q4:=@Bool.eq_iff_iff
def Q5:=@Array.getElem?_toList
def Q6:=@PySem.wpAny_passesOwn
def Q7:=@Nat.lt_succ_self
def Q8:=@List.any_eq_true
def Q9:=@PySem.mem_of_lookup
def R0:=@PyProof.Rows.F.plain_set_update_loop
def R1:=@List.getElem_of_mem
def R3:=@PySem.W.mg_of
def R4:=@PySem.F.slot_tuple_iterator_next
def R5:=@List.range_succ
def R6:=@Nat.lt_of_le_of_lt
def R7:=@Nat.zero_le
def R8:=@Nat.zero_add
def R9:=@Nat.ne_of_gt
def S2:=@List.getElem?_set_self
def S3:=@PySem.wpAny_setField_rec
def S4:=@PyProof.Rows.slot_tuple_getitem
def S5:=@beq_iff_eq
def S6:=@List.length_take
def S7:=@PySem.wpAny_pyIter_list
def S8:=@PySem.codeAny_mono
def S9:=@List.mem_iff_getElem
def U0:=@List.forall_mem_cons
def U1:=@Int.le_refl
def U2:=@List.length_pos_iff
def U3:=@PySem.W.callWith_K
def U4:=@List.zip_cons_cons
def U5:=@List.map_replicate
def U6:=@List.map_take
def U7:=@List.getElem?_take_of_lt
def U8:=@List.all_cons
def U9:=@Bool.true_and
def V0:=@PySem.call_meets
def V1:=@Nat.min_eq_right
def V2:=@List.getElem?_cons_succ
def V3:=@List.take_of_length_le
def V4:=@List.sublist_cons_self
def V5:=@List.range_succ_eq_map
def V6:=@Nat.min_eq_left
def V7:=@List.mem_filter
def V8:=@Bool.or_eq_true
def V9:=@PySem.wpAny_execs_nil
def W0:=@List.length_drop
def W1:=@List.of_mem_zip
def W2:=@PySem.F.type_list_extend
def W3:=@PySem.F.slot_list_extend
def W4:=@List.sublist_append_left
def W5:=@List.length_erase_of_mem
def W6:=@List.getElem?_cons_zero
def W7:=@PySem.wpAny_standAt
def W8:=@List.contains_cons
def W9{p:Prop}(h:p:=by omega):p:=h
def X0{p:Prop}(h:p:=by decide+kernel):p:=h
def X4{p:Prop}(h:p:=by simp):p:=h
def X5{p:Prop}(h:p:=by decide):p:=h
def X6{p:Prop}(h:p:=by walk_at "u"):p:=h
def X7{p:Prop}(h:p:=by with_unfolding_all rfl):p:=h
def X8{p:Prop}(h:p:=by walk_at "s"):p:=h
def Am9{α:Sort u}{β:α->Sort v}{f g:(a:α)->β a}(h:∀a,f a=g a:=by intro _;rfl):=h
section
open PySem PySem.Spec PyProof.Rows
def z03{P0 P1 P2 P3:Prop}{G:Prop}(h:P0/\P1/\P2/\P3)(k:P0->P1->P2->P3->G):G:=by obtain⟨h0,h1,h2,h3⟩:=h;exact k h0 h1 h2 h3
def z04{P0 P1 P2 P3 P4:Prop}{G:Prop}(h:P0/\P1/\P2/\P3/\P4)(k:P0->P1->P2->P3->P4->G):G:=by obtain⟨h0,h1,h2,h3,h4⟩:=h;exact k h0 h1 h2 h3 h4
def z05{P0 P1 P2 P3 P4 P5:Prop}{G:Prop}(h:P0/\P1/\P2/\P3/\P4/\P5)(k:P0->P1->P2->P3->P4->P5->G):G:=by obtain⟨h0,h1,h2,h3,h4,h5⟩:=h;exact k h0 h1 h2 h3 h4 h5
def z12{α0:Type}{P0 P1 P2:α0->Prop}{G:Prop}(h:∃a0,P0 a0/\P1 a0/\P2 a0)(k:∀a0,P0 a0->P1 a0->P2 a0->G):G:=by obtain⟨a0,h0,h1,h2⟩:=h;exact k a0 h0 h1 h2
def z14{α0:Type}{P0 P1 P2 P3 P4:α0->Prop}{G:Prop}(h:∃a0,P0 a0/\P1 a0/\P2 a0/\P3 a0/\P4 a0)(k:∀a0,P0 a0->P1 a0->P2 a0->P3 a0->P4 a0->G):G:=by obtain⟨a0,h0,h1,h2,h3,h4⟩:=h;exact k a0 h0 h1 h2 h3 h4
def z21{α0 α1:Type}{P0 P1:α0->α1->Prop}{G:Prop}(h:∃a0 a1,P0 a0 a1/\P1 a0 a1)(k:∀a0 a1,P0 a0 a1->P1 a0 a1->G):G:=by obtain⟨a0,a1,h0,h1⟩:=h;exact k a0 a1 h0 h1
def z22{α0 α1:Type}{P0 P1 P2:α0->α1->Prop}{G:Prop}(h:∃a0 a1,P0 a0 a1/\P1 a0 a1/\P2 a0 a1)(k:∀a0 a1,P0 a0 a1->P1 a0 a1->P2 a0 a1->G):G:=by obtain⟨a0,a1,h0,h1,h2⟩:=h;exact k a0 a1 h0 h1 h2
def z23{α0 α1:Type}{P0 P1 P2 P3:α0->α1->Prop}{G:Prop}(h:∃a0 a1,P0 a0 a1/\P1 a0 a1/\P2 a0 a1/\P3 a0 a1)(k:∀a0 a1,P0 a0 a1->P1 a0 a1->P2 a0 a1->P3 a0 a1->G):G:=by obtain⟨a0,a1,h0,h1,h2,h3⟩:=h;exact k a0 a1 h0 h1 h2 h3
def z24{α0 α1:Type}{P0 P1 P2 P3 P4:α0->α1->Prop}{G:Prop}(h:∃a0 a1,P0 a0 a1/\P1 a0 a1/\P2 a0 a1/\P3 a0 a1/\P4 a0 a1)(k:∀a0 a1,P0 a0 a1->P1 a0 a1->P2 a0 a1->P3 a0 a1->P4 a0 a1->G):G:=by obtain⟨a0,a1,h0,h1,h2,h3,h4⟩:=h;exact k a0 a1 h0 h1 h2 h3 h4
def z25{α0 α1:Type}{P0 P1 P2 P3 P4 P5:α0->α1->Prop}{G:Prop}(h:∃a0 a1,P0 a0 a1/\P1 a0 a1/\P2 a0 a1/\P3 a0 a1/\P4 a0 a1/\P5 a0 a1)(k:∀a0 a1,P0 a0 a1->P1 a0 a1->P2 a0 a1->P3 a0 a1->P4 a0 a1->P5 a0 a1->G):G:=by obtain⟨a0,a1,h0,h1,h2,h3,h4,h5⟩:=h;exact k a0 a1 h0 h1 h2 h3 h4 h5
def z31{α0 α1 α2:Type}{P0 P1:α0->α1->α2->Prop}{G:Prop}(h:∃a0 a1 a2,P0 a0 a1 a2/\P1 a0 a1 a2)(k:∀a0 a1 a2,P0 a0 a1 a2->P1 a0 a1 a2->G):G:=by obtain⟨a0,a1,a2,h0,h1⟩:=h;exact k a0 a1 a2 h0 h1
def z32{α0 α1 α2:Type}{P0 P1 P2:α0->α1->α2->Prop}{G:Prop}(h:∃a0 a1 a2,P0 a0 a1 a2/\P1 a0 a1 a2/\P2 a0 a1 a2)(k:∀a0 a1 a2,P0 a0 a1 a2->P1 a0 a1 a2->P2 a0 a1 a2->G):G:=by obtain⟨a0,a1,a2,h0,h1,h2⟩:=h;exact k a0 a1 a2 h0 h1 h2
def z33{α0 α1 α2:Type}{P0 P1 P2 P3:α0->α1->α2->Prop}{G:Prop}(h:∃a0 a1 a2,P0 a0 a1 a2/\P1 a0 a1 a2/\P2 a0 a1 a2/\P3 a0 a1 a2)(k:∀a0 a1 a2,P0 a0 a1 a2->P1 a0 a1 a2->P2 a0 a1 a2->P3 a0 a1 a2->G):G:=by obtain⟨a0,a1,a2,h0,h1,h2,h3⟩:=h;exact k a0 a1 a2 h0 h1 h2 h3
def z34{α0 α1 α2:Type}{P0 P1 P2 P3 P4:α0->α1->α2->Prop}{G:Prop}(h:∃a0 a1 a2,P0 a0 a1 a2/\P1 a0 a1 a2/\P2 a0 a1 a2/\P3 a0 a1 a2/\P4 a0 a1 a2)(k:∀a0 a1 a2,P0 a0 a1 a2->P1 a0 a1 a2->P2 a0 a1 a2->P3 a0 a1 a2->P4 a0 a1 a2->G):G:=by obtain⟨a0,a1,a2,h0,h1,h2,h3,h4⟩:=h;exact k a0 a1 a2 h0 h1 h2 h3 h4
def z36{α0 α1 α2:Type}{P0 P1 P2 P3 P4 P5 P6:α0->α1->α2->Prop}{G:Prop}(h:∃a0 a1 a2,P0 a0 a1 a2/\P1 a0 a1 a2/\P2 a0 a1 a2/\P3 a0 a1 a2/\P4 a0 a1 a2/\P5 a0 a1 a2/\P6 a0 a1 a2)(k:∀a0 a1 a2,P0 a0 a1 a2->P1 a0 a1 a2->P2 a0 a1 a2->P3 a0 a1 a2->P4 a0 a1 a2->P5 a0 a1 a2->P6 a0 a1 a2->G):G:=by obtain⟨a0,a1,a2,h0,h1,h2,h3,h4,h5,h6⟩:=h;exact k a0 a1 a2 h0 h1 h2 h3 h4 h5 h6
def z41{α0 α1 α2 α3:Type}{P0 P1:α0->α1->α2->α3->Prop}{G:Prop}(h:∃a0 a1 a2 a3,P0 a0 a1 a2 a3/\P1 a0 a1 a2 a3)(k:∀a0 a1 a2 a3,P0 a0 a1 a2 a3->P1 a0 a1 a2 a3->G):G:=by obtain⟨a0,a1,a2,a3,h0,h1⟩:=h;exact k a0 a1 a2 a3 h0 h1
def z42{α0 α1 α2 α3:Type}{P0 P1 P2:α0->α1->α2->α3->Prop}{G:Prop}(h:∃a0 a1 a2 a3,P0 a0 a1 a2 a3/\P1 a0 a1 a2 a3/\P2 a0 a1 a2 a3)(k:∀a0 a1 a2 a3,P0 a0 a1 a2 a3->P1 a0 a1 a2 a3->P2 a0 a1 a2 a3->G):G:=by obtain⟨a0,a1,a2,a3,h0,h1,h2⟩:=h;exact k a0 a1 a2 a3 h0 h1 h2
def z43{α0 α1 α2 α3:Type}{P0 P1 P2 P3:α0->α1->α2->α3->Prop}{G:Prop}(h:∃a0 a1 a2 a3,P0 a0 a1 a2 a3/\P1 a0 a1 a2 a3/\P2 a0 a1 a2 a3/\P3 a0 a1 a2 a3)(k:∀a0 a1 a2 a3,P0 a0 a1 a2 a3->P1 a0 a1 a2 a3->P2 a0 a1 a2 a3->P3 a0 a1 a2 a3->G):G:=by obtain⟨a0,a1,a2,a3,h0,h1,h2,h3⟩:=h;exact k a0 a1 a2 a3 h0 h1 h2 h3
def z44{α0 α1 α2 α3:Type}{P0 P1 P2 P3 P4:α0->α1->α2->α3->Prop}{G:Prop}(h:∃a0 a1 a2 a3,P0 a0 a1 a2 a3/\P1 a0 a1 a2 a3/\P2 a0 a1 a2 a3/\P3 a0 a1 a2 a3/\P4 a0 a1 a2 a3)(k:∀a0 a1 a2 a3,P0 a0 a1 a2 a3->P1 a0 a1 a2 a3->P2 a0 a1 a2 a3->P3 a0 a1 a2 a3->P4 a0 a1 a2 a3->G):G:=by obtain⟨a0,a1,a2,a3,h0,h1,h2,h3,h4⟩:=h;exact k a0 a1 a2 a3 h0 h1 h2 h3 h4
def z45{α0 α1 α2 α3:Type}{P0 P1 P2 P3 P4 P5:α0->α1->α2->α3->Prop}{G:Prop}(h:∃a0 a1 a2 a3,P0 a0 a1 a2 a3/\P1 a0 a1 a2 a3/\P2 a0 a1 a2 a3/\P3 a0 a1 a2 a3/\P4 a0 a1 a2 a3/\P5 a0 a1 a2 a3)(k:∀a0 a1 a2 a3,P0 a0 a1 a2 a3->P1 a0 a1 a2 a3->P2 a0 a1 a2 a3->P3 a0 a1 a2 a3->P4 a0 a1 a2 a3->P5 a0 a1 a2 a3->G):G:=by obtain⟨a0,a1,a2,a3,h0,h1,h2,h3,h4,h5⟩:=h;exact k a0 a1 a2 a3 h0 h1 h2 h3 h4 h5
def z46{α0 α1 α2 α3:Type}{P0 P1 P2 P3 P4 P5 P6:α0->α1->α2->α3->Prop}{G:Prop}(h:∃a0 a1 a2 a3,P0 a0 a1 a2 a3/\P1 a0 a1 a2 a3/\P2 a0 a1 a2 a3/\P3 a0 a1 a2 a3/\P4 a0 a1 a2 a3/\P5 a0 a1 a2 a3/\P6 a0 a1 a2 a3)(k:∀a0 a1 a2 a3,P0 a0 a1 a2 a3->P1 a0 a1 a2 a3->P2 a0 a1 a2 a3->P3 a0 a1 a2 a3->P4 a0 a1 a2 a3->P5 a0 a1 a2 a3->P6 a0 a1 a2 a3->G):G:=by obtain⟨a0,a1,a2,a3,h0,h1,h2,h3,h4,h5,h6⟩:=h;exact k a0 a1 a2 a3 h0 h1 h2 h3 h4 h5 h6
def z51{α0 α1 α2 α3 α4:Type}{P0 P1:α0->α1->α2->α3->α4->Prop}{G:Prop}(h:∃a0 a1 a2 a3 a4,P0 a0 a1 a2 a3 a4/\P1 a0 a1 a2 a3 a4)(k:∀a0 a1 a2 a3 a4,P0 a0 a1 a2 a3 a4->P1 a0 a1 a2 a3 a4->G):G:=by obtain⟨a0,a1,a2,a3,a4,h0,h1⟩:=h;exact k a0 a1 a2 a3 a4 h0 h1
def z54{α0 α1 α2 α3 α4:Type}{P0 P1 P2 P3 P4:α0->α1->α2->α3->α4->Prop}{G:Prop}(h:∃a0 a1 a2 a3 a4,P0 a0 a1 a2 a3 a4/\P1 a0 a1 a2 a3 a4/\P2 a0 a1 a2 a3 a4/\P3 a0 a1 a2 a3 a4/\P4 a0 a1 a2 a3 a4)(k:∀a0 a1 a2 a3 a4,P0 a0 a1 a2 a3 a4->P1 a0 a1 a2 a3 a4->P2 a0 a1 a2 a3 a4->P3 a0 a1 a2 a3 a4->P4 a0 a1 a2 a3 a4->G):G:=by obtain⟨a0,a1,a2,a3,a4,h0,h1,h2,h3,h4⟩:=h;exact k a0 a1 a2 a3 a4 h0 h1 h2 h3 h4
def z55{α0 α1 α2 α3 α4:Type}{P0 P1 P2 P3 P4 P5:α0->α1->α2->α3->α4->Prop}{G:Prop}(h:∃a0 a1 a2 a3 a4,P0 a0 a1 a2 a3 a4/\P1 a0 a1 a2 a3 a4/\P2 a0 a1 a2 a3 a4/\P3 a0 a1 a2 a3 a4/\P4 a0 a1 a2 a3 a4/\P5 a0 a1 a2 a3 a4)(k:∀a0 a1 a2 a3 a4,P0 a0 a1 a2 a3 a4->P1 a0 a1 a2 a3 a4->P2 a0 a1 a2 a3 a4->P3 a0 a1 a2 a3 a4->P4 a0 a1 a2 a3 a4->P5 a0 a1 a2 a3 a4->G):G:=by obtain⟨a0,a1,a2,a3,a4,h0,h1,h2,h3,h4,h5⟩:=h;exact k a0 a1 a2 a3 a4 h0 h1 h2 h3 h4 h5
abbrev aa:=PySem.Str->Option PySem.Addr
abbrev ac:=PySem.Str->Option PySem.Value
abbrev ad:=List (PySem.Addr×PySem.Obj)
abbrev af:=PySem.Value->B8->Prop
abbrev ag:=List (List PySem.Addr)
abbrev ah:=List Int
abbrev am:=List (List Int)
abbrev ao:=List PySem.Value
abbrev aq:=PySem.Addr->Prop
abbrev av:=List PySem.Addr
abbrev ax:=List PySem.Str
abbrev ay:=List (PySem.Str×PySem.Value)
abbrev az:=List Nat
abbrev a9:=Option Int
abbrev bf:=Option (PySem.Value×Nat)->B8->Prop
abbrev bg:=Array PySem.Value
abbrev bi:=Array (Int×PySem.Value)
abbrev bj:=List PySem.Expr
abbrev bm:=List PySem.Env
abbrev br:=Option PySem.Addr
abbrev bu:=Nat->Int
abbrev bv:=Array (Option PySem.Value)
abbrev bw:=List Bool
abbrev b7:=List (PySem.Str×PySem.NameKind)
abbrev b9:=List (PySem.Str×PySem.Addr)
abbrev ce:=List (PySem.Str×Int×Int)
abbrev cv:=List (PySem.Str×List Int)
abbrev c5:=PySem.Str->Option PySem.NameKind
abbrev c6:=Nat->Nat
abbrev c9:=PySem.Str×Int×Int
abbrev c_:=Nat->PySem.Value->Prop
abbrev db:=Nat->PySem.Heap->Prop
abbrev dg:=Array Nat
namespace L2
abbrev wN:=Sum Int Str
def di7:wN->Value->Bool
 |.inl k,v=>Value.isInt k v
 |.inr x,v=>Value.isStrOf x v
def fd4(w:World):wN->Int
 |.inl k=>hashInt k
 |.inr x=>hashStr w x
theorem jA:∀{k:wN}{v:Value},di7 k v=true->(∃i t,k=Sum.inl i/\v=Value.int i t)\/(∃x t,k=Sum.inr x/\v=Value.str x t)
 |.inl i,v,h=>by obtain⟨t,e⟩:=Value.isInt_shape (k:=i) (v:=v) h;exact .inl ⟨i,t,rfl,e⟩
 |.inr x,v,h=>by obtain⟨t,e⟩:=Value.isStrOf_shape (x:=x) (v:=v) h;exact .inr ⟨x,t,rfl,e⟩
def ey7(a b:Int):decide ((Sum.inl a:wN)=Sum.inl b)=(a==b):=by
 by_cases e:a=b
 . subst e;simp
 . have h:¬(Sum.inl a:wN)=Sum.inl b:=λq=>e (Sum.inl.inj q);rw[F6 h];exact(K2.mpr e).symm
def eu5(a b:Str):decide ((Sum.inr a:wN)=Sum.inr b)=decide (a=b):=by
 by_cases e:a=b
 . subst e;simp
 . have h:¬(Sum.inr a:wN)=Sum.inr b:=λq=>e (Sum.inr.inj q);rw[F6 h,F6 e]
def eb7(a:Int)(b:Str):decide ((Sum.inl a:wN)=Sum.inr b)=false:=F6 (λq=>nomatch q)
def ez6(a:Str)(b:Int):decide ((Sum.inr a:wN)=Sum.inl b)=false:=F6 (λq=>nomatch q)
def bz2(prog:G1)(w:World):PySem.KeyKind prog w wN where
 is:=di7
 hash:=fd4 w
 inj:=λv a b ha hb=>by
  rcases jA ha with⟨i,t,rfl,rfl⟩|⟨x,t,rfl,rfl⟩
  . rcases jA hb with⟨j,u,rfl,e⟩|⟨y,u,rfl,e⟩
    . injection e with e1 _;rw[e1]
    . exact nomatch e
  . rcases jA hb with⟨j,u,rfl,e⟩|⟨y,u,rfl,e⟩
    . exact nomatch e
    . injection e with e1 _;rw[e1]
 byValue:=λk v h=>by
  rcases jA h with⟨i,t,rfl,rfl⟩|⟨x,t,rfl,rfl⟩<;>rfl
 pyHash:=λhv h=>by
  rcases jA hv with⟨i,t,rfl,rfl⟩|⟨x,t,rfl,rfl⟩
  . exact wpAny_pyHash_int h
  . exact wpAny_pyHash_str h
 eqBool:=λhu hv h=>by
  rcases jA hu with⟨i,t,rfl,rfl⟩|⟨x,t,rfl,rfl⟩
  . rcases jA hv with⟨j,u,rfl,rfl⟩|⟨y,u,rfl,rfl⟩
    . rw[ey7]at h;exact wpAny_eqBool_int h
    . rw[eb7]at h;exact SeqAt.EqAt.int_str i t y u _ _ _ _ h
  . rcases jA hv with⟨j,u,rfl,rfl⟩|⟨y,u,rfl,rfl⟩
    . rw[ez6]at h;exact SeqAt.EqAt.str_int x t j u _ _ _ _ h
    . rw[eu5]at h;exact wpAny_eqBool_str h
 «strs»:=λk x t v h=>by
  rcases jA h with⟨i,u,rfl,e⟩|⟨y,u,rfl,e⟩
  . exact nomatch e
  . injection e with e1 _
    subst e1
    cases v<;>rfl
inductive V where
 |non|bl (b:Bool)|int (i:Int)|str (x:Str)|byt (b:Array UInt8)|flt (b:UInt64)|ref (a:Addr)|ty (n:String)
 deriving DecidableEq
def RelV:V->Value->Prop
 |.non,u=>u=Value.none
 |.bl b,u=>u=Value.bool b
 |.int i,u=>∃t,u=Value.int i t
 |.str x,u=>∃t,u=Value.str x t
 |.byt b,u=>∃t,u=Value.bytes b t
 |.flt b,u=>∃t,u=Value.float b t
 |.ref a,u=>u=Value.ref a
 |.ty n,u=>u=Value.type n
abbrev Vals:List V->List Value->Prop:=Paired RelV
theorem Vals.length(r:Vals xs us):xs.length=us.length:=Paired.length r
theorem Vals.get:∀{xs:List V}{us:ao}{i:Nat}{x:V},Vals xs us->xs[i]?=some x->∃u,us[i]?=some u/\RelV x u
 |_,_,_,_,.nil,e=>by simp at e
 |_,_,0,_,.cons r _,e=>by simp at e;subst e;exact⟨_,rfl,r⟩
 |_,_,i+1,x,.cons _ t,e=>by obtain⟨u,h1,h2⟩:=Vals.get (i:=i) (x:=x) t (by simpa using e);exact⟨u,by simpa using h1,h2⟩
theorem Vals.set(r:RelV x u):∀{xs:List V}{us:ao}(i:Nat),Vals xs us->Vals (xs.set i x) (us.set i u)
 |_,_,_,.nil=>.nil
 |_,_,0,.cons _ t=>.cons r t
 |_,_,i+1,.cons q t=>.cons q (Vals.set r i t)
theorem Vals.append:∀{xs ys:List V}{us ws:ao},Vals xs us->Vals ys ws->Vals (xs++ys) (us++ws)
 |_,_,_,_,.nil,s=>s
 |_,_,_,_,.cons r t,s=>.cons r (Vals.append t s)
theorem Vals.take:∀{xs:List V}{us:ao}(n:Nat),Vals xs us->Vals (xs.take n) (us.take n)
 |_,_,0,_=>.nil
 |_,_,_+1,.nil=>.nil
 |_,_,n+1,.cons r t=>.cons r (Vals.take n t)
theorem Vals.drop:∀{xs:List V}{us:ao}(n:Nat),Vals xs us->Vals (xs.drop n) (us.drop n)
 |_,_,0,r=>r
 |_,_,_+1,.nil=>.nil
 |_,_,n+1,.cons _ t=>Vals.drop n t
def RelO:Option V->Option Value->Prop
 |some v,some u=>RelV v u
 |none,none=>True
 |_,_=>False
def KV{κ:Type}:List (κ×V)->List (κ×Value)->Prop:=Paired λ(p:κ×V)(q:κ×Value)=>p.1=q.1/\RelV p.2 q.2
def kV:wN->V
 |.inl i=>.int i
 |.inr x=>.str x
inductive HO where
 |lst (xs:List V)
 |tup (xs:List V)
 |dK (kvs:List (wN×V))|dT (kvs:List (List wN×V))
 |set (S:Int->Bool) (n:Nat)
 |ins (C dx:Addr) (fs:List (Str×V))
 |own (x:Addr)
 |xd (fs:List (Str×V))
 |met (f x:Addr)
 |rng (lo hi:Int)
 |frz (o:Obj) (u:HO)
 |tbl (ps:bg)
 |ext (φ:Heap->Prop)
abbrev Hp:=Addr->Option HO
def upd(H:Hp)(a:Addr)(o:HO):Hp:=λb=>if b=a then some o else H b
def gC:upd H a o a=some o:=by unfold upd;rw[E3 rfl]
def dJ(h:b≠a):upd H a o b=H b:=by unfold upd;rw[D7 h]
def iZ{H:Hp}{a b:Addr}{o:HO}(h:H a=some o)(h':H b=none):a≠b:=by intro e;subst e;rw[h]at h';cases h'
section
variable(P:G1)(w:World)
def ObjOk(H:Hp)(h:Heap)(a:Addr):HO->Prop
 |.lst xs=>xs.length<=sizeLine/\∃(its:ao)(n:Nat),Vals xs its/\h.get? a=some {cls:=.type "list",data:=.seq its.toArray n}
 |.tup xs=>xs.length<=sizeLine/\∃its:List Value,Vals xs its/\IsTup h a its.toArray
 |.dK kvs=>kvs.length<=sizeLine/\(a==sysModules)=false/\∃vs,KV kvs vs/\h.DictOf (bz2 P w) a vs
 |.dT kvs=>kvs.length<=sizeLine/\(a==sysModules)=false/\∃xs:List (List wN×Addr×Value),
  Paired (λ(p:List wN×V)(q:List wN×Addr×Value)=>p.1=q.1/\H q.2.1=some (.tup (p.1.map kV))/\RelV p.2 q.2.2) kvs xs/\
  ∃o es ep,h.get? a=some o/\o.ExactDict/\o.data=.dict es ep/\es.toList=xs.map (entryOfKey (tupleKind (bz2 P w)))/\(xs.map (·.1)).Nodup
 |.set S n=>h.SetOf (intKind P w) a S n
 |.ins C dx fs=>H dx=some (.own a)/\fs.length<=1000/\dx≠a/\h.get? a=some (PySem.W.instObj C dx)/\
  ∃mA,h.Ns1 dx mA/\(∀f,RelO (fs.lookup f) (mA f))/\PySem.Within mA (fs.map (·.1))
 |.own _=>∃o,h.get? a=some o
 |.xd fs=>∃mA,h.Ns1 a mA/\∀f,RelO (fs.lookup f) (mA f)
 |.rng lo hi=>∃t u v,h.get? a=some {cls:=.type "range",data:=.fields #[.int lo t,.int hi u,.int 1 v]}
 |.frz o u=>h.get? a=some o/\ObjOk H h a u
 |.tbl ps=>h.get? a=some {cls:=.none,data:=.fields ps}
 |.met f x=>h.get? a=some (PySem.W.methodObj (.ref f) (.ref x))
 |.ext φ=>φ h/\(∃o,h.get? a=some o)/\∀h1 h2:Heap,φ h1->(∀o,h1.get? a=some o->h2.get? a=some o)->φ h2
def HOk(H:Hp)(h:Heap):Prop:=∀a o,H a=some o->ObjOk P w H h a o
end
section
variable{P:G1}{w:World}{H H':Hp}{h h':Heap}{a:Addr}{o:HO}
theorem ObjOk.lt(x:ObjOk P w H h a o):a<h.objs.size:=by
 cases o with
 |lst xs=>obtain⟨_,_,_,_,e⟩:=x;exact D5 e
 |tup xs=>obtain⟨_,_,_,p⟩:=x;exact p.lt
 |set S n=>refine z41 x λo _ _ _ e _=>?_;exact D5 e
 |ins C dx fs=>refine z04 x λ_ _ _ e _=>?_;exact D5 e
 |own y=>obtain⟨_,e⟩:=x;exact D5 e
 |xd fs=>obtain⟨_,⟨_,_,_,e,_⟩,_⟩:=x;exact D5 e
 |rng lo hi=>obtain⟨_,_,_,e⟩:=x;exact D5 e
 |frz ob u=>obtain⟨e,_⟩:=x;exact D5 e
 |tbl ps=>exact D5 (show h.get? a=some _ from x)
 |met f y=>exact D5 (show h.get? a=some _ from x)
 |ext φ=>obtain⟨_,⟨_,e⟩,_⟩:=x;exact D5 e
 |_=>obtain⟨_,_,_,_,o,_,_,e,_⟩:=x;exact D5 e
theorem Paired.mapP:∀{l₁:List α}{l₂:List β},Paired F l₁ l₂->(∀a b,F a b->G a b)->Paired G l₁ l₂
 |_,_,.nil,_=>.nil
 |_,_,.cons r t,f=>.cons (f _ _ r) (Paired.mapP t f)
theorem ObjOk.stay(x:ObjOk P w H h a o)(k:∀b u,(b=a\/H b=some (.own a))->h.get? b=some u->h'.get? b=some u)
 (ho:∀b,H b=some (.own a)->H' b=some (.own a))(ht:∀b xs,H b=some (.tup xs)->H' b=some (.tup xs)):ObjOk P w H' h' a o:=by
 induction o with
 |lst xs=>obtain⟨z,its,n,r,e⟩:=x;exact⟨z,its,n,r,k _ _ (.inl rfl) e⟩
 |tup xs=>obtain⟨z,its,r,ob,e,c⟩:=x;exact⟨z,its,r,ob,k _ _ (.inl rfl) e,c⟩
 |dK kvs=>obtain⟨z,y,vs,r,ob,es,ep,e,c⟩:=x;exact⟨z,y,vs,r,ob,es,ep,k _ _ (.inl rfl) e,c⟩
 |dT kvs=>obtain⟨z,y,xs,r,ob,es,ep,e,c⟩:=x;exact⟨z,y,xs,Paired.mapP r λp q z=>⟨z.1,ht _ _ z.2.1,z.2.2⟩,ob,es,ep,k _ _ (.inl rfl) e,c⟩
 |set S n=>refine z41 x λob es ep t e c=>?_;exact⟨ob,es,ep,t,k _ _ (.inl rfl) e,c⟩
 |ins C dx fs=>obtain⟨d,z,ne,e,mA,⟨od,es,ep,e2,c⟩,r⟩:=x;exact⟨ho _ d,z,ne,k _ _ (.inl rfl) e,mA,⟨od,es,ep,k _ _ (.inr d) e2,c⟩,r⟩
 |own y=>obtain⟨ob,e⟩:=x;exact⟨ob,k _ _ (.inl rfl) e⟩
 |xd fs=>obtain⟨mA,⟨od,es,ep,e,c⟩,r⟩:=x;exact⟨mA,⟨od,es,ep,k _ _ (.inl rfl) e,c⟩,r⟩
 |rng lo hi=>obtain⟨t,u,v,e⟩:=x;exact⟨t,u,v,k _ _ (.inl rfl) e⟩
 |frz ob u ih=>obtain⟨e,q⟩:=x;exact⟨k _ _ (.inl rfl) e,ih q⟩
 |tbl ps=>have e:h.get? a=some {cls:=.none,data:=.fields ps}:=x;show h'.get? a=some {cls:=.none,data:=.fields ps};exact k a _ (.inl rfl) e
 |met f y=>have e:h.get? a=some (PySem.W.methodObj (.ref f) (.ref y)):=x;show h'.get? a=some (PySem.W.methodObj (.ref f) (.ref y));exact k a _ (.inl rfl) e
 |ext φ=>obtain⟨p,⟨o,e⟩,st⟩:=x;exact⟨st _ _ p λo q=>k _ _ (.inl rfl) q,⟨o,k _ _ (.inl rfl) e⟩,st⟩
theorem HOk.lt(x:HOk P w H h)(e:H a=some o):a<h.objs.size:=(x a o e).lt
theorem HOk.fresh(x:HOk P w H h)(e:h.objs.size<=a):H a=none:=by
 cases q:H a with
 |none=>rfl
 |some u=>exact E8 (G3 (x.lt q) e) (O4 _)
def HOk.kept(x:HOk P w H h)(k:∀b u,h.get? b=some u->h'.get? b=some u):HOk P w H h':=λa o e=>
 (x a o e).stay (λb u _ q=>k b u q) (λ_ q=>q) λ_ _ q=>q
def HOk.laid(x:HOk P w H h)(k:∀b u,h.get? b=some u->h'.get? b=some u)(hp:h.objs.size<=a)(new:ObjOk P w (upd H a o) h' a o):HOk P w (upd H a o) h':=λb u e=>by
 have hn:=x.fresh hp;by_cases hb:b=a
 . subst hb;rw[gC]at e;cases e;exact new
 . rw[dJ hb]at e;exact(x b u e).stay (λc v _ q=>k c v q) (λc q=>by rw[dJ (iZ q hn)];exact q) λc xs q=>by rw[dJ (iZ q hn)];exact q
end
def Rd(H:Hp)(a:Addr)(u:HO):Prop:=H a=some u\/∃o,H a=some (.frz o u)
def Rd.ok(r:Rd H a u)(x:HOk P w H h):ObjOk P w H h a u:=by
 rcases r with r|⟨o,r⟩
 . exact x a u r
 . obtain⟨_,q⟩:=x a _ r;exact q
def Mut:Option HO->Prop
 |some (.lst _)=>True
 |some (.dK _)=>True
 |some (.dT _)=>True
 |some (.set _ _)=>True
 |some (.ins _ _ _)=>True
 |some (.ext _)=>True
 |_=>False
section
variable{P:G1}{w:World}{H:Hp}{h h':Heap}{x e:Addr}{o':HO}
def HOk.write(ok:HOk P w H h)(mu:Mut (H x))(he:e=x\/H e=some (.own x))(k:∀b u,b≠e->h.get? b=some u->h'.get? b=some u)(heo:∃u,h'.get? e=some u)
 (new:ObjOk P w (upd H x o') h' x o'):HOk P w (upd H x o') h':=λb u q=>by
 have nown:∀c y,H c=some (.own y)->c≠x:=λc y r z=>by subst z;rw[r]at mu;exact mu
 have ntup:∀c xs,H c=some (.tup xs)->c≠x:=λc xs r z=>by subst z;rw[r]at mu;exact mu
 by_cases hb:b=x
 . subst hb;rw[gC]at q;cases q;exact new
 . rw[dJ hb]at q;by_cases hbe:b=e
   . have q':H b=some (.own x):=by
      rcases he with z|z
      . exact E8 (hbe.trans z) hb
      . rw[hbe];exact z
     rw[q]at q';cases q';obtain⟨v,hv⟩:=heo;exact⟨v,by rw[hbe];exact hv⟩
   . refine(ok b u q).stay (λc v hc r=>k c v ?_ r) (λc r=>by rw[dJ (nown c b r)];exact r) λc xs r=>by rw[dJ (ntup c xs r)];exact r
     rcases hc with rfl|hc
     . exact hbe
     . rintro rfl;rcases he with z|z
       . exact nown c b hc z
       . rw[hc]at z;cases z;exact hb rfl
end
structure Un (fs ex:av) (H H':Hp) (h h':Heap):Prop where
 keep:∀b o,h.get? b=some o->H b=none->b∉fs->b∉ex->h'.get? b=some o
 slot:∀b o,h.get? b=some o->H b=none->b∈fs->b∉ex->∃sl,h'.get? b=some {o with slots:=sl}
 free:∀b o,h.get? b=some o->H b=none->b∉ex->H' b=none
 there:∀b o,h.get? b=some o->b∉ex->∃o',h'.get? b=some o'
 tups:∀b xs,H b=some (.tup xs)->H' b=some (.tup xs)
 frzs:∀b o u,H b=some (.frz o u)->H' b=some (.frz o u)
 tbls:∀b ps,H b=some (.tbl ps)->∃more,H' b=some (.tbl (ps++more))
section
variable{fs fs' ex ex':av}{H H1 H2:Hp}{h h1 h2 h':Heap}{a x e:Addr}{o:HO}
def Un.any(u:Un fs ex H H1 h h1)(q:h.get? b=some ob)(n:H b=none)(hx:b∉ex):∃sl,h1.get? b=some {ob with slots:=sl}:=by
 by_cases hb:b∈fs
 . exact u.slot b ob q n hb hx
 . exact⟨ob.slots,u.keep b ob q n hb hx⟩
def Un.kept(k:∀b u,h.get? b=some u->h'.get? b=some u):Un fs ex H H h h':=
 ⟨λb ob q _ _ _=>k b ob q,λb ob q _ _ _=>⟨ob.slots,k b ob q⟩,λ_ _ _ n _=>n,λb ob q _=>⟨ob,k b ob q⟩,λ_ _ q=>q,λ_ _ _ q=>q,λ_ ps q=>⟨#[],by rw[q];simp⟩⟩
def Un.refl:Un fs ex H H h h:=Un.kept λ_ _ q=>q
def Un.laid(k:∀b u,h.get? b=some u->h'.get? b=some u)(hp:h.objs.size<=a)(hn:H a=none):Un fs ex H (upd H a o) h h' where
 keep:=λb u q _ _ _=>k b u q
 slot:=λb u q _ _ _=>⟨u.slots,k b u q⟩
 free:=λb u q n _=>by rw[dJ (G2 (G3 (D5 q) hp))];exact n
 there:=λb u q _=>⟨u,k b u q⟩
 tups:=λb xs q=>by rw[dJ (iZ q hn)];exact q
 frzs:=λb u xs q=>by rw[dJ (iZ q hn)];exact q
 tbls:=λb ps q=>⟨#[],by rw[dJ (iZ q hn),q];simp⟩
def Un.write(mu:Mut (H x))(he:e=x\/H e=some (.own x))(k:∀b u,b≠e->h.get? b=some u->h'.get? b=some u)(heo:∃u,h'.get? e=some u):Un fs ex H (upd H x o) h h':=by
 have hx:∀b,H b=none->b≠x:=λb n z=>by subst z;rw[n]at mu;exact mu
 have hb:∀b,H b=none->b≠e:=λb n z=>by
  subst z;rcases he with r|r
  . exact hx b n r
  . rw[n]at r;cases r
 have hm:∀b u,H b=some u->¬Mut (some u)->b≠x:=λb u q nm z=>by subst z;rw[q]at mu;exact nm mu
 refine⟨λb u q n _ _=>k b u (hb b n) q,λb u q n _ _=>⟨u.slots,k b u (hb b n) q⟩,λb u q n _=>by rw[dJ (hx b n)];exact n,λb u q _=>?_,
  λb xs q=>by rw[dJ (hm b _ q λz=>z)];exact q,λb u xs q=>by rw[dJ (hm b _ q λz=>z)];exact q,λb ps q=>⟨#[],by rw[dJ (hm b _ q λz=>z),q];simp⟩⟩
 by_cases hbe:b=e
 . subst hbe;exact heo
 . exact⟨u,k b u hbe q⟩
end
def trk(h:Heap)(H:Hp):List Addr:=(List.range h.objs.size).filter λa=>(H a).isSome
def ag3(h:Heap)(H:Hp):Heap:=PySem.W.hideAll h (trk h H)
def cv9(h:Heap)(H:Hp):(ag3 h H).objs.size=h.objs.size:=PySem.W.hideAll_size _ _
def dn4(e:h.get? b=some o)(n:H b=none):(ag3 h H).get? b=some o:=
 PySem.W.hideAll_get _ e λhm=>by have q:(H b).isSome=true:=(V7.mp hm).2;rw[n]at q;simp at q
theorem em1(e:(ag3 h H).get? b=some o):h.get? b=some o/\H b=none:=by
 have e':h.get? b=some o:=PySem.W.of_hideAll (trk h H) e;refine⟨e',?_⟩;cases q:H b with
 |none=>rfl
 |some x=>have hm:b∈trk h H:=V7.mpr ⟨F9.mpr (D5 e'),by simp[q]⟩;have z:(ag3 h H).get? b=none:=PySem.W.hideAll_none (trk h H) hm;rw[z]at e;cases e
structure Mod (K:A5) (mg:ac) (base:Heap):Prop where
 kin:K.In base
 glob:base.Ns mainGlobals mg
 blt:∃mb,base.Ns builtinsNs mb/\∀x:Str,x≠"__name__"->mb x=bootBuiltins x
 nolimit:base.NoLimit
structure Cx where
 prog:G1
 w:World
 K:A5
 mg:Str->Option Value
 base:Heap
 A:J0
 N:List Str
 s₀:B8
 H₀:Hp
 env:Env
 outer:List Env
 stack:List Env
 ex:List Addr
 fn:Str->Bool
 calm:Bool
 pn:List (Addr×Obj)
 xe:Value->B8->Prop
def frs(l:bm):List Addr:=l.filterMap (·.frame)
abbrev Cx.fs(X:Cx):List Addr:=frs X.outer
def Vis(sc:Scope)(x:Str):Prop:=sc.names.lookup x=some .local\/sc.names.lookup x=some .cell\/sc.names.lookup x=some .free
def Loc(sc:Scope)(x:Str):Prop:=sc.names.lookup x=some .local\/sc.names.lookup x=some .cell
def fe4(env:Env)(h:Heap)(m:ac)(x:Str)(u:Value):Prop:=
 (env.kindOf x=some .local/\m x=some u)\/((env.kindOf x=some .cell\/env.kindOf x=some .free)/\∃c,env.cells.lookup x=some c/\h.IsCell c (some u))
structure Cx.Ok (X:Cx):Prop where
 mod:Mod X.K X.mg X.base
 kind:X.env.scope.kind=.function
 glob:X.env.globals=mainGlobals
 blt:X.env.builtins=builtinsNs
 above:X.s₀.heap.objs.size<=X.env.locals
 inj:∀x y c,X.env.cells.lookup x=some c->X.env.cells.lookup y=some c->x=y
 has:∀x,(X.env.kindOf x=some .cell\/X.env.kindOf x=some .free)->∃c,X.env.cells.lookup x=some c
 cab:∀x c,X.fn x=true->X.env.cells.lookup x=some c->X.s₀.heap.objs.size<=c
 hd:X.calm=true->X.A.handled=none
 frames:X.A.frames=some X.stack
 stk:X.stack=X.outer\/(X.stack=X.env::X.outer/\X.env.frame=some X.env.locals)
 exf:∀b∈X.ex,b≠X.env.locals/\∀x c,X.env.cells.lookup x=some c->c≠b
 bs:∀b o,X.base.get? b=some o->X.s₀.heap.get? b=some o/\X.H₀ b=none
 bsz:X.base.objs.size<=X.s₀.heap.objs.size
 noex:∀b o,X.base.get? b=some o->b∉X.ex
 exfs:∀b∈X.ex,b∉X.fs
 funs:X.s₀.heap.FunFrames X.base X.outer
 frf:∀b∈X.fs,X.H₀ b=none
structure Inv (X:Cx) (ζ:ad) (O:List (Option V)) (H:Hp) (s:B8):Prop where
 ok:X.Ok
 os:s.os=X.s₀.os
 bare:AllBare s.gens
 base:Un X.fs X.ex X.H₀ H X.s₀.heap s.heap
 loc:∃m,s.heap.Ns X.env.locals m/\∀(i:Nat)(x:Str)(v:V),X.N[i]?=some x->O[i]?=some (some v)->Vis X.env.scope x->∃u,RelV v u/\fe4 X.env s.heap m x u
 cell:∀x c,X.env.cells.lookup x=some c->∃v,s.heap.IsCell c v
 free:H X.env.locals=none
 freeC:∀x c,X.env.cells.lookup x=some c->H c=none
 pin:∀p∈X.pn++ζ,s.heap.get? p.1=some p.2/\H p.1=none/\p.1≠X.env.locals/\p.1∉X.fs/\∀v,p.2.data≠ .cell v
 hok:HOk X.prog X.w H s.heap
 len:O.length=X.N.length
section
variable{X:Cx}{ζ:ad}{O:List (Option V)}{H H':Hp}{s:B8}{h':Heap}
def Cx.Ok.nofr(ok:X.Ok)(e:X.base.get? b=some o):b∉X.fs:=λhb=>by have:=(ok.funs.mem hb).1;rw[e]at this;cases this
theorem Inv.bs(I:Inv X ζ O H s):∀b o,X.base.get? b=some o->s.heap.get? b=some o/\H b=none:=λb o e=>
 ⟨I.base.keep b o (I.ok.bs b o e).1 (I.ok.bs b o e).2 (I.ok.nofr e) (I.ok.noex b o e),I.base.free b o (I.ok.bs b o e).1 (I.ok.bs b o e).2 (I.ok.noex b o e)⟩
def Inv.bk(I:Inv X ζ O H s):∀b o,X.base.get? b=some o->s.heap.get? b=some o:=λb o e=>(I.bs b o e).1
theorem Inv.mod(I:Inv X ζ O H s):Mod X.K X.mg X.base:=I.ok.mod
def Inv.kIn(I:Inv X ζ O H s):X.K.In s.heap:=I.ok.mod.kin.keeps I.bk
def Inv.fr(I:Inv X ζ O H s):∃m,Fr X.base X.env.locals s.heap m:=
 let⟨m,hn,_⟩:=I.loc
 ⟨m,hn,I.bk,K1 I.ok.bsz I.ok.above⟩
theorem Inv.lt(I:Inv X ζ O H s):X.env.locals<s.heap.objs.size:=let⟨_,hn,_⟩:=I.loc;hn.lt
def Inv.sz(I:Inv X ζ O H s):X.s₀.heap.objs.size<=s.heap.objs.size:=K1 I.ok.above (Nat.le_of_lt I.lt)
def Inv.nofs(I:Inv X ζ O H s)(h:s.heap.objs.size<=a):a∉X.fs:=λhb=>by obtain⟨_,o,ho,_⟩:=I.ok.funs.mem hb;exact E8 (G3 (D5 ho) (K1 I.sz h)) (O4 _)
def Inv.cne(I:Inv X ζ O H s):∀x c,X.env.cells.lookup x=some c->c≠X.env.locals:=λx c e z=>by refine z21 (I.cell x c e) λv o ho hd=>?_;obtain⟨m,⟨o',es,ep,ho',hd',_⟩,_⟩:=I.loc;rw[z,ho']at ho;cases ho;rw[hd']at hd;cases hd
theorem Inv.funs(I:Inv X ζ O H s):s.heap.FunFrames X.base X.outer:=by
 have all:∀(l:bm),(∀b∈frs l,b∈X.fs)->X.s₀.heap.FunFrames X.base l->s.heap.FunFrames X.base l:=by
  intro l;induction l with
  |nil=>intro _ _;trivial
  |cons env r ih=>intro hs hl;obtain⟨hk,⟨L,o,hf,hn,ho,hd⟩,hr⟩:=hl;have hL:L∈X.fs:=hs L (by unfold frs;rw[List.filterMap_cons,hf];exact B7);obtain⟨sl,e⟩:=I.base.slot L o ho (I.ok.frf L hL) hL λz=>I.ok.exfs L z hL;exact⟨hk,⟨L,_,hf,hn,e,hd⟩,ih (λb hb=>hs b (by unfold frs;rw[List.filterMap_cons,hf];exact B5 _ hb)) hr⟩
 exact all X.outer (λ_ hb=>hb) I.ok.funs
theorem Inv.stack(I:Inv X ζ O H s):s.heap.FunFrames X.base X.stack:=by
 rcases I.ok.stk with e|⟨e,hf⟩
 . rw[e];exact I.funs
 . rw[e];obtain⟨m,hn,_⟩:=I.loc;refine .cons (by rw[I.ok.kind];decide) hf hn ?_ I.funs;exact Heap.get?_none_of_le (K1 I.ok.bsz I.ok.above)
def Inv.stkSub(I:Inv X ζ O H s):∀b∈frs X.stack,b∈X.env.locals::X.fs:=λb hb=>by
 rcases I.ok.stk with e|⟨e,hf⟩
 . rw[e]at hb;exact B5 _ hb
 . rw[e]at hb;unfold frs at hb;rw[List.filterMap_cons,hf]at hb;exact hb
def Inv.stkFree(I:Inv X ζ O H s):∀b∈frs X.stack,H b=none:=λb hb=>by
 rcases C4.mp (I.stkSub b hb)with e|hb
 . rw[e];exact I.free
 . obtain⟨_,o,ho,_⟩:=I.ok.funs.mem hb;exact I.base.free b o ho (I.ok.frf b hb) λz=>I.ok.exfs b z hb
def Inv.step{g':Array GenState}{t':Nat}{d':Drawn}{ch:av}(I:Inv X ζ O H s)
 (hch:∀b∈ch,(b∈X.ex\/X.s₀.heap.objs.size<=b)/\b≠X.env.locals/\(∀x c,X.env.cells.lookup x=some c->c≠b)/\∀p∈X.pn++ζ,p.1≠b)
 (keep:∀b o,b≠X.env.locals->b∉X.fs->b∉ch->s.heap.get? b=some o->H b=none->h'.get? b=some o)
 (slot:∀b o,b≠X.env.locals->b∈X.fs->b∉ch->s.heap.get? b=some o->H b=none->∃sl,h'.get? b=some {o with slots:=sl})(free:∀b o,b∉ch->s.heap.get? b=some o->H b=none->H' b=none)
 (there:∀b o,b∉ch->s.heap.get? b=some o->∃o',h'.get? b=some o')
 (tups:∀b xs,H b=some (.tup xs)->H' b=some (.tup xs))(frzs:∀b o u,H b=some (.frz o u)->H' b=some (.frz o u))(tbls:∀b ps,H b=some (.tbl ps)->∃more,H' b=some (.tbl (ps++more)))
 (ns:∀m,s.heap.Ns X.env.locals m->h'.Ns X.env.locals m)(hok:HOk X.prog X.w H' h')(hg:AllBare g'):
 Inv X ζ O H' {s with heap:=h',gens:=g',drawn:=d',toks:=t'}:=by
 have neL:∀b o,X.s₀.heap.get? b=some o->b≠X.env.locals:=λb o e=>G2 (G3 (D5 e) I.ok.above);have neC:∀b o,X.s₀.heap.get? b=some o->b∉X.ex->b∉ch:=λb o e hx hb=>by
  rcases(hch b hb).1 with z|z
  . exact hx z
  . exact E8 (G3 (D5 e) z) (O4 _)
 have cellK:∀x c,X.env.cells.lookup x=some c->∀v,s.heap.IsCell c v->h'.IsCell c v:=λx c e v ⟨o,ho,hd⟩=>by
  have nch:c∉ch:=λz=>(hch c z).2.2.1 x c e rfl;by_cases hc:c∈X.fs
  . obtain⟨sl,q⟩:=slot c o (I.cne x c e) hc nch ho (I.freeC x c e);exact⟨_,q,hd⟩
  . exact⟨o,keep c o (I.cne x c e) hc nch ho (I.freeC x c e),hd⟩
 refine⟨I.ok,I.os,hg,⟨λb o e n hb hx=>?_,λb o e n hb hx=>?_,λb o e n hx=>?_,λb o e hx=>?_,λb xs e=>tups b xs (I.base.tups b xs e),λb o xs e=>frzs b o xs (I.base.frzs b o xs e),λb ps e=>?_⟩,?_,λx c e=>?_,?_,λx c e=>?_,λp hp=>?_,hok,I.len⟩
 . exact keep b o (neL b o e) hb (neC b o e hx) (I.base.keep b o e n hb hx) (I.base.free b o e n hx)
 . obtain⟨sl,e1⟩:=I.base.slot b o e n hb hx;obtain⟨sl',e2⟩:=slot b _ (neL b o e) hb (neC b o e hx) e1 (I.base.free b o e n hx);exact⟨sl',e2⟩
 . obtain⟨o',e1⟩:=I.base.there b o e hx;exact free b o' (neC b o e hx) e1 (I.base.free b o e n hx)
 . obtain⟨o',e1⟩:=I.base.there b o e hx;exact there b o' (neC b o e hx) e1
 . obtain⟨m1,e1⟩:=I.base.tbls b ps e;obtain⟨m2,e2⟩:=tbls b _ e1;exact⟨m1++m2,by rw[e2,Array.append_assoc]⟩
 . obtain⟨m,hn,hl⟩:=I.loc;refine⟨m,ns m hn,λi x v e1 e2 e3=>?_⟩;obtain⟨u,r,l⟩:=hl i x v e1 e2 e3;refine⟨u,r,?_⟩;rcases l with l|⟨k,c,e,z⟩
   . exact .inl l
   . exact .inr ⟨k,c,e,cellK x c e _ z⟩
 . obtain⟨v,z⟩:=I.cell x c e;exact⟨v,cellK x c e v z⟩
 . obtain⟨m,⟨o,_,_,ho,_⟩,_⟩:=I.loc;exact free _ o (λz=>(hch _ z).2.1 rfl) ho I.free
 . refine z21 (I.cell x c e) λv o ho hd=>?_;exact free c o (λz=>(hch c z).2.2.1 x c e rfl) ho (I.freeC x c e)
 . refine z04 (I.pin p hp) λe n ne nf d=>?_;have nch:p.1∉ch:=λz=>(hch p.1 z).2.2.2 p hp rfl;exact⟨keep p.1 p.2 ne nf nch e n,free p.1 p.2 nch e n,ne,nf,d⟩
def Inv.un{t':Nat}(I:Inv X ζ O H s)(u:Un X.fs [] H H' s.heap h')(hok:HOk X.prog X.w H' h'):Inv X ζ O H' {s with heap:=h',toks:=t'}:=by obtain⟨m,⟨o,es,ep,ho,r⟩,_⟩:=id I.loc;obtain⟨sl,hL⟩:=u.any ho I.free X4;exact I.step (g':=s.gens) (d':=s.drawn) (ch:=[]) (λ_ z=>nomatch z) (λb o _ hb _ e n=>u.keep b o e n hb X4) (λb o _ hb _ e n=>u.slot b o e n hb X4) (λb o _ e n=>u.free b o e n X4) (λb o _ e=>u.there b o e X4) u.tups u.frzs u.tbls (λm' hm=>by refine z31 hm λo' es' ep' ho' r'=>?_;rw[ho]at ho';cases ho';exact⟨_,es',ep',hL,r'⟩) hok I.bare
def Inv.call{g':Array GenState}{t':Nat}{d':Drawn}{ch:av}(I:Inv X ζ O H s)(u:Un (frs X.stack) ch H H' s.heap h')(hok:HOk X.prog X.w H' h')(hg:AllBare g')
 (hch:∀b∈ch,(b∈X.ex\/X.s₀.heap.objs.size<=b)/\b≠X.env.locals/\(∀x c,X.env.cells.lookup x=some c->c≠b)/\∀p∈X.pn++ζ,p.1≠b):
 Inv X ζ O H' {s with heap:=h',gens:=g',drawn:=d',toks:=t'}:=by
 obtain⟨m,⟨o,es,ep,ho,r⟩,_⟩:=id I.loc;obtain⟨sl,hL⟩:=u.any ho I.free λz=>(hch _ z).2.1 rfl;exact I.step (ch:=ch) hch (λb o hL hb hc e n=>u.keep b o e n (λz=>(C4.mp (I.stkSub b z)).elim hL hb) hc) (λb o _ _ hc e n=>u.any e n hc) (λb o hc e n=>u.free b o e n hc) (λb o hc e=>u.there b o e hc) u.tups u.frzs u.tbls (λm' hm=>by refine z31 hm λo' es' ep' ho' r'=>?_;rw[ho]at ho';cases ho';exact⟨_,es',ep',hL,r'⟩) hok hg
def Inv.turned{t':Nat}{it:Addr}(I:Inv X ζ O H s)(k:∀b o,b≠it->s.heap.get? b=some o->h'.get? b=some o)(hn:H it=none)(hL:it≠X.env.locals)
 (h1:it∈X.ex\/X.s₀.heap.objs.size<=it)(h2:∀x c,X.env.cells.lookup x=some c->c≠it)(h3:∀p∈X.pn++ζ,p.1≠it):Inv X ζ O H {s with heap:=h',toks:=t'}:=by
 have nit:∀b u,H b=some u->b≠it:=λb u e z=>by rw[z,hn]at e;cases e
 refine I.step (g':=s.gens) (d':=s.drawn) (ch:=[it]) (λb hb=>?_) (λb o _ _ hc e _=>k b o (λz=>hc (by simp[z])) e) (λb o _ _ hc e _=>⟨o.slots,k b o (λz=>hc (by simp[z])) e⟩) (λ_ _ _ _ n=>n)
  (λb o hc e=>⟨o,k b o (λz=>hc (by simp[z])) e⟩) (λ_ _ e=>e) (λ_ _ _ e=>e) (λb ps e=>⟨#[],by rw[e];simp⟩) (λm hm=>?_) (λb u e=>?_) I.bare
 . have e:b=it:=by simpa using hb
   subst e;exact⟨h1,hL,h2,h3⟩
 . refine z31 hm λo es ep ho r=>?_;exact⟨o,es,ep,k _ o (N6 hL) ho,r⟩
 . refine(I.hok b u e).stay (λc v hc q=>k c v ?_ q) (λ_ q=>q) λ_ _ q=>q;rcases hc with z|z
   . rw[z];exact nit b u e
   . exact nit c _ z
def Inv.tok(I:Inv X ζ O H s)(t:Nat):Inv X ζ O H {s with toks:=t}:=I.un (h':=s.heap) (t':=t) Un.refl I.hok
theorem Inv.kept(I:Inv X ζ O H s)(k:∀b u,s.heap.get? b=some u->h'.get? b=some u):Inv X ζ O H {s with heap:=h',toks:=t'}:=I.un (Un.kept k) (I.hok.kept k)
theorem Inv.laid(I:Inv X ζ O H s)(k:∀b u,s.heap.get? b=some u->h'.get? b=some u)(hp:s.heap.objs.size<=a)(new:ObjOk X.prog X.w (upd H a o) h' a o):
 Inv X ζ O (upd H a o) {s with heap:=h',toks:=t'}:=I.un (Un.laid k hp (I.hok.fresh hp)) (I.hok.laid k hp new)
theorem Inv.write(I:Inv X ζ O H s)(mu:Mut (H x))(he:e=x\/H e=some (.own x))(k:∀b u,b≠e->s.heap.get? b=some u->h'.get? b=some u)(heo:∃u,h'.get? e=some u)
 (new:ObjOk X.prog X.w (upd H x o) h' x o):Inv X ζ O (upd H x o) {s with heap:=h',toks:=t'}:=I.un (Un.write mu he k heo) (I.hok.write mu he k heo new)
def Inv.weak(I:Inv X ζ O H s)(hl:σ'.length=O.length)(w:∀(i:Nat) v,σ'[i]?=some (some v)->O[i]?=some (some v)):Inv X ζ σ' H s:=
 ⟨I.ok,I.os,I.bare,I.base,let⟨m,hn,hl'⟩:=I.loc;⟨m,hn,λi x v e1 e2 e3=>hl' i x v e1 (w i v e2) e3⟩,I.cell,I.free,I.freeC,I.pin,I.hok,hl.trans I.len⟩
def Inv.pins_of(I:Inv X ζ O H s)(h:∀p∈pins',s.heap.get? p.1=some p.2/\H p.1=none/\p.1≠X.env.locals/\p.1∉X.fs/\∀v,p.2.data≠ .cell v):Inv X pins' O H s:=
 ⟨I.ok,I.os,I.bare,I.base,I.loc,I.cell,I.free,I.freeC,λp hp=>(A9.mp hp).elim (λz=>I.pin p (D9 _ z)) (h p),I.hok,I.len⟩
def ca0{N:ax}(hN:N.Nodup){i j:Nat}{x:Str}(a:N[i]?=some x)(b:N[j]?=some x):i=j:=by obtain⟨h1,e1⟩:=D3.mp a;obtain⟨h2,e2⟩:=D3.mp b;exact(List.getElem_inj hN).mp (e1.trans e2.symm)
def bw4{M:Model}{A:J0}{E:af}{i:Nat}{x:Str}{v:V}{u:Value}{Q:Unit->B8->Prop}(I:Inv X ζ O H s)(hN:X.N.Nodup)(hi:X.N[i]?=some x)(hx:Loc X.env.scope x)(r:RelV v u)
 (h:∀s',Inv X ζ (O.set i (some v)) H s'->(∃a,Heap.SameBut a s.heap s'.heap/\(a=X.env.locals\/X.env.cells.lookup x=some a))->Q () s')(hf:X.fn x=true\/X.env.scope.names.lookup x=some .local:=by first|exact .inl rfl|exact .inr rfl|assumption):wpAny M A (storeName X.env x u) Q E s:=by
 obtain⟨m,hn,hl⟩:=id I.loc;have hcls:(X.env.scope.kind==.class||(X.env.scope.kind==.module&&X.env.locals !=X.env.globals))=false:=by rw[I.ok.kind];rfl
 have hiσ:i<O.length:=by rw[I.len];exact(D3.mp hi).1
 have cne:=I.cne;have tracked:∀{a:Addr}{h':Heap},(∃o,s.heap.get? a=some o/\H a=none)->Heap.SameBut a s.heap h'->HOk X.prog X.w H h':=λ{a h'} ha hs b ob e=>by
  obtain⟨_,_,hfree⟩:=ha;refine(I.hok b ob e).stay (λc w' hc q=>(hs.2 c ?_).trans q) (λ_ q=>q) λ_ _ q=>q;rintro rfl;rcases hc with rfl|hc
  . rw[hfree]at e;cases e
  . rw[hfree]at hc;cases hc
 rcases hx with hk|hk
 . refine wpAny_storeName_local hk hn (λh' hn' hs=>?_) hcls;refine z31 (id hn) λoL _ _ hoL _=>?_;refine h _ ⟨I.ok,I.os,I.bare,⟨λb o e n hb hx=>?_,λb o e n hb hx=>?_,I.base.free,λb o e hx=>?_,I.base.tups,I.base.frzs,I.base.tbls⟩,⟨_,hn',λj y v' e1 e2 e3=>?_⟩,λy c e=>?_,I.free,I.freeC,λp hp=>?_,tracked ⟨oL,hoL,I.free⟩ hs,by simpa using I.len⟩ ⟨_,hs,.inl rfl⟩
   . exact(hs.2 b (G2 (G3 (D5 e) I.ok.above))).trans (I.base.keep b o e n hb hx)
   . obtain⟨sl,e1⟩:=I.base.slot b o e n hb hx;exact⟨sl,(hs.2 b (G2 (G3 (D5 e) I.ok.above))).trans e1⟩
   . obtain⟨o',e1⟩:=I.base.there b o e hx;exact⟨o',(hs.2 b (G2 (G3 (D5 e) I.ok.above))).trans e1⟩
   . by_cases hj:j=i
     . subst hj;rw[hi]at e1;cases e1;rw[S2 hiσ]at e2;cases e2;exact⟨u,r,.inl ⟨hk,X4⟩⟩
     . rw[J9 (N6 hj)]at e2;obtain⟨u',r',q⟩:=hl j y v' e1 e2 e3;refine⟨u',r',?_⟩;rcases q with⟨k,e⟩|⟨k,c,e,z⟩
       . refine .inl ⟨k,?_⟩;have:y≠x:=λe=>hj (ca0 hN e1 (e▸hi));simp[this,e]
       . exact .inr ⟨k,c,e,z.sameBut hs (cne y c e)⟩
   . obtain⟨w',z⟩:=I.cell y c e;exact⟨w',z.sameBut hs (cne y c e)⟩
   . refine z04 (I.pin p hp) λe n ne nf d=>?_;exact⟨(hs.2 p.1 ne).trans e,n,ne,nf,d⟩
 . have hfn:X.fn x=true:=by
    rcases hf with z|z
    . exact z
    . rw[z]at hk;cases hk
   obtain⟨c,hc⟩:=I.ok.has x (.inl hk);obtain⟨w',z⟩:=I.cell x c hc;refine wpAny_storeName_cell I.ok.kind hk hc z (λh' hc' hs=>?_);obtain⟨oc,hoc,hocd⟩:=id z;refine h {s with heap:=h'} ⟨I.ok,I.os,I.bare,⟨λb o e n hb hx=>?_,λb o e n hb hx=>?_,I.base.free,λb o e hx=>?_,I.base.tups,I.base.frzs,I.base.tbls⟩,⟨m,hn.sameBut hs (N6 (cne x c hc)),λj y v' e1 e2 e3=>?_⟩,λy c' e=>?_,I.free,I.freeC,λp hp=>?_,tracked ⟨oc,hoc,I.freeC x c hc⟩ hs,by simpa using I.len⟩ ⟨c,hs,.inr hc⟩
   . exact(hs.2 b (G2 (G3 (D5 e) (I.ok.cab x c hfn hc)))).trans (I.base.keep b o e n hb hx)
   . obtain⟨sl,e1⟩:=I.base.slot b o e n hb hx;exact⟨sl,(hs.2 b (G2 (G3 (D5 e) (I.ok.cab x c hfn hc)))).trans e1⟩
   . obtain⟨o',e1⟩:=I.base.there b o e hx;exact⟨o',(hs.2 b (G2 (G3 (D5 e) (I.ok.cab x c hfn hc)))).trans e1⟩
   . by_cases hj:j=i
     . subst hj;rw[hi]at e1;cases e1;rw[S2 hiσ]at e2;cases e2;exact⟨u,r,.inr ⟨.inl hk,c,hc,hc'⟩⟩
     . rw[J9 (N6 hj)]at e2;obtain⟨u',r',q⟩:=hl j y v' e1 e2 e3;refine⟨u',r',?_⟩;rcases q with q|⟨k,c',e,z'⟩
       . exact .inl q
       . refine .inr ⟨k,c',e,z'.sameBut hs ?_⟩;rintro rfl;exact hj (ca0 hN e1 (I.ok.inj _ _ _ e hc▸hi))
   . by_cases hcc:c'=c
     . subst hcc;exact⟨_,hc'⟩
     . obtain⟨w2,z2⟩:=I.cell y c' e;exact⟨w2,z2.sameBut hs hcc⟩
   . refine z04 (I.pin p hp) λe n ne nf d=>?_;refine⟨(hs.2 p.1 ?_).trans e,n,ne,nf,d⟩;intro q;rw[q,hoc]at e;have q':oc=p.2:=G0 e;exact d w' (by rw[<-q'];exact hocd)
def cl0(I:Inv X ζ O H s)(hN:X.N.Nodup)(hi:X.N[i]?=some x)(hx:Loc X.env.scope x)(r:RelV v u)
 (h:∀s',Inv X ζ (O.set i (some v)) H s'->Q () s')(hf:X.fn x=true\/X.env.scope.names.lookup x=some .local:=by first|exact .inl rfl|exact .inr rfl|assumption):wpAny M A (storeName X.env x u) Q E s:=
 bw4 I hN hi hx r (λs' I' _=>h s' I') hf
def Inv.call'(I:Inv X ζ O H s)(ho:s'.os=s.os)(u:Un (frs X.stack) ch H H' s.heap s'.heap)(hok:HOk X.prog X.w H' s'.heap)(hg:AllBare s'.gens)
 (hch:∀b∈ch,(b∈X.ex\/X.s₀.heap.objs.size<=b)/\b≠X.env.locals/\(∀x c,X.env.cells.lookup x=some c->c≠b)/\∀p∈X.pn++ζ,p.1≠b):Inv X ζ O H' s':=by
 obtain⟨h',g',d',t',o'⟩:=s';have e:o'=s.os:=ho;subst e;exact I.call (g':=g') (t':=t') (d':=d') u hok hg hch
end
abbrev XK:=Value->Option Addr->Hp->Prop
abbrev St:=List (Option V)
abbrev VK:=V->Hp->Prop
abbrev a_:=List V
abbrev bh:=V->List V->Hp->VK->Prop
abbrev b8:=V->Option Int->Option Int->Hp->VK->Prop
abbrev b_:=Bool->Hp->Prop
abbrev ck:=List V->Hp->Prop
abbrev cq:=List V->Hp->VK->Prop
abbrev c7:=St->Hp->Prop
abbrev dh:=Int->Int->V
abbrev dl:=V->Hp->VK->Prop
abbrev TE:=St->Hp->VK->Prop
abbrev TT:=St->Hp->(Bool->Hp->Prop)->Prop
abbrev TA:=St->Hp->(List V->Hp->Prop)->Prop
structure aa8 where
 nx:St->Hp->Prop
 rt:VK
 bk:St->Hp->Prop:=λ_ _=>False
 ct:St->Hp->Prop:=λ_ _=>False
abbrev TS:=aa8->St->Hp->Prop
def EP(X:Cx)(ζ:ad)(O:St)(Q:VK)(u:Value)(s':B8):Prop:=∃v H',Inv X ζ O H' s'/\RelV v u/\Q v H'
def TP(X:Cx)(ζ:ad)(O:St)(Q:b_)(b:Bool)(s':B8):Prop:=∃H',Inv X ζ O H' s'/\Q b H'
def AP(X:Cx)(ζ:ad)(O:St)(Q:ck)(us:ao)(s':B8):Prop:=∃vs H',Inv X ζ O H' s'/\Vals vs us/\Q vs H'
def SP(X:Cx)(ζ:ad)(D:aa8)(f:Flow)(s':B8):Prop:=
 match f with
 |.next=>∃σ' H',Inv X ζ σ' H' s'/\D.nx σ' H'
 |.brk=>∃σ' H',Inv X ζ σ' H' s'/\D.bk σ' H'
 |.cont=>∃σ' H',Inv X ζ σ' H' s'/\D.ct σ' H'
 |.ret u=>∃v σ' H',Inv X ζ σ' H' s'/\RelV v u/\D.rt v H'
def PE(X:Cx)(e:Expr)(t:TE):Prop:=
 ∀⦃ζ:ad⦄ (s:B8)(O:St)(H:Hp)(Q:VK),Inv X ζ O H s->t O H Q->wpAny (model X.prog X.w) X.A (eval e X.env) (EP X ζ O Q) X.xe s
def PT(X:Cx)(e:Expr)(t:TT):Prop:=
 ∀⦃ζ:ad⦄ (s:B8)(O:St)(H:Hp)(Q:b_),Inv X ζ O H s->t O H Q->wpAny (model X.prog X.w) X.A (isTrue e X.env (eval e X.env)) (TP X ζ O Q) X.xe s
def PW(X:Cx)(e:Expr)(t:TT):Prop:=
 ∀⦃whole:Sem Value⦄ (ζ:ad)(s:B8)(O:St)(H:Hp)(Q:b_),Inv X ζ O H s->t O H Q->wpAny (model X.prog X.w) X.A (isTrue e X.env whole) (TP X ζ O Q) X.xe s
def PW.pt(h:PW X e t):PT X e t:=λ_ s O H Q I q=>h _ s O H Q I q
def PA(X:Cx)(es:bj)(t:TA):Prop:=
 ∀⦃pos:Pos⦄ (ζ:ad)(s:B8)(O:St)(H:Hp)(Q:ck),Inv X ζ O H s->t O H Q->wpAny (model X.prog X.w) X.A (spliced (backTo pos (starEach es X.env))) (AP X ζ O Q) X.xe s
def PS(X:Cx)(st:Stmt)(t:TS):Prop:=
 ∀⦃ζ:ad⦄ (s:B8)(O:St)(H:Hp)(D:aa8),Inv X ζ O H s->t D O H->wpAny (model X.prog X.w) X.A (exec st X.env) (SP X ζ D) X.xe s
def PSs(X:Cx)(st:List Stmt)(t:TS):Prop:=
 ∀⦃ζ:ad⦄ (s:B8)(O:St)(H:Hp)(D:aa8),Inv X ζ O H s->t D O H->wpAny (model X.prog X.w) X.A (execs st X.env) (SP X ζ D) X.xe s
def kO(h:wpAny M A t Q E s)(hQ:∀a s,Q a s->Q' a s):wpAny M A t Q' E s:=N9 h hQ λ_ _ x=>x
section
variable{α:Type}{M:Model}{A:J0}{E:af}{s:B8}{X:Cx}{ζ:ad}{O:St}
def jI{t:Sem Value}{Q:VK}{Q':af}(h:wpAny M A t (EP X ζ O Q) E s)(k:∀v s x H,Inv X ζ O H s->RelV x v->Q x H->Q' v s):wpAny M A t Q' E s:=kO h λ_ _ ⟨_,_,I,r,q⟩=>k _ _ _ _ I r q
def wM{t:Sem (List Value)}{Q:ck}{Q':List Value->B8->Prop}(h:wpAny M A t (AP X ζ O Q) E s)(k:∀v s x H,Inv X ζ O H s->Vals x v->Q x H->Q' v s):wpAny M A t Q' E s:=kO h λ_ _ ⟨_,_,I,r,q⟩=>k _ _ _ _ I r q
def thT{t:Sem Bool}{Q:b_}{Q':Bool->B8->Prop}(h:wpAny M A t (TP X ζ O Q) E s)(k:∀b s H,Inv X ζ O H s->Q b H->Q' b s):wpAny M A t Q' E s:=kO h λ_ _ ⟨_,I,q⟩=>k _ _ _ I q
def thH{t:Sem α}{Q:Hp->Prop}{Q':α->B8->Prop}(h:wpAny M A t (λ_ s'=>∃H',Inv X ζ O H' s'/\Q H') E s)(k:∀b s H,Inv X ζ O H s->Q H->Q' b s):wpAny M A t Q' E s:=kO h λ_ _ ⟨_,I,q⟩=>k _ _ _ I q
def thG{t:Sem α}{Q:c7}{Q':α->B8->Prop}(h:wpAny M A t (λ_ s'=>∃σ' H',Inv X ζ σ' H' s'/\Q σ' H') E s)(k:∀b s σ' H,Inv X ζ σ' H s->Q σ' H->Q' b s):wpAny M A t Q' E s:=kO h λ_ _ ⟨_,_,I,q⟩=>k _ _ _ _ I q
end
section
variable{X:Cx}
def am4(i:Nat):TE:=λO H Q=>∃v,O[i]?=some (some v)/\Q v H
def tC(v:V):TE:=λ_ H Q=>Q v H
def ep8(hN:X.N[i]?=some x)(hv:Vis X.env.scope x)(hd:(x==("__debug__":Str))=false:=by decide)(hcd:(x==("__classdict__":Str))=false:=by decide):PE X (.Name x pos) (am4 i):=by
 intro ζ s O H Q I h;obtain⟨v,e,h⟩:=h;obtain⟨m,hn,hl⟩:=I.loc;obtain⟨u,r,l⟩:=hl i x v hN e hv;have bN:EP X ζ O Q u s:=⟨v,H,I,r,h⟩;rcases l with⟨hk,hm⟩|⟨hk,c,hc,hcell⟩
 . exact wpAny_Name (wpAny_loadName_local I.ok.kind hk hn hm bN) hd
 . rcases hk with hk|hk
   . exact wpAny_Name (wpAny_loadName_cell I.ok.kind hk hc hcell bN) hd
   . exact wpAny_Name (wpAny_loadName_free I.ok.kind hk hc hcell bN hcd) hd
def aG{i j pos}:PE X (.Constant (.int i) j pos) (tC (.int i)):=λ_ _ _ H _ I h=>wpAny_Constant_int ⟨.int i,H,I.tok _,⟨_,rfl⟩,h⟩
def gH{b j pos}:PE X (.Constant (.bool b) j pos) (tC (.bl b)):=λ_ _ _ H _ I h=>Constant_bool ⟨.bl b,H,I,rfl,h⟩
def eH{j pos}:PE X (.Constant .none j pos) (tC .non):=λ_ _ _ H _ I h=>Constant_none ⟨.non,H,I,rfl,h⟩
def cF{x j pos}:PE X (.Constant (.str x) j pos) (tC (.str x)):=λ_ _ _ H _ I h=>Calls.Constant_str ⟨.str x,H,I.tok _,⟨_,rfl⟩,h⟩
def Gl(X:Cx)(x:Str):Prop:=X.env.kindOf x=some .globalImplicit
def aw1(I:Inv X ζ O H s)(hg:Gl X x)(hm:X.mg x=some u)(h:Q u s)
 (hd:(x==("__debug__":Str))=false:=by decide):wpAny (model X.prog X.w) X.A (eval (.Name x pos) X.env) Q E s:=
 Calls.Name_function_global I.ok.kind hg (Calls.loadGlobal_global (by rw[I.ok.glob];exact I.mod.glob.keeps I.bk) hm h) hd
def oR(I:Inv X ζ O H s)(hg:Gl X x)(hm:X.mg x=none)(hv:bootBuiltins x=some u)(h:Q u s)
 (hn:x≠"__name__":=by decide)(hd:(x==("__debug__":Str))=false:=by decide):wpAny (model X.prog X.w) X.A (eval (.Name x pos) X.env) Q E s:=by
 obtain⟨mb,h1,h2⟩:=I.mod.blt;exact Calls.Name_function_global I.ok.kind hg (Calls.loadGlobal_builtin (by rw[I.ok.glob];exact I.mod.glob.keeps I.bk) hm (by rw[I.ok.blt];exact h1.keeps I.bk) ((h2 x hn).trans hv) h) hd
def eg2(hg:Gl X x)(hm:X.mg x=some u)(r:RelV v u)(hd:(x==("__debug__":Str))=false:=by decide):PE X (.Name x pos) (tC v):=
 λ_ _ _ H _ I h=>aw1 I hg hm ⟨v,H,I,r,h⟩ hd
def eh1(hg:Gl X x)(hm:X.mg x=none)(hv:bootBuiltins x=some u)(r:RelV v u)(hn:x≠"__name__":=by decide)(hd:(x==("__debug__":Str))=false:=by decide):PE X (.Name x pos) (tC v):=
 λ_ _ _ H _ I h=>oR I hg hm hv ⟨v,H,I,r,h⟩ hn hd
variable{a b:Expr}{ta tb:TE}{pos:Pos}
def PC(X:Cx)(op:CmpOp)(a b:Expr)(t:TE):Prop:=
 ∀⦃ζ:ad⦄ (s:B8)(O:St)(H:Hp)(Q:VK),Inv X ζ O H s->t O H Q->
  wpAny (model X.prog X.w) X.A (eval a X.env) (λv s₁=>wpAny (model X.prog X.w) X.A (eval b X.env) (λu s₂=>wpAny (model X.prog X.w) X.A (compareOp op v u) (EP X ζ O Q) X.xe s₂) X.xe s₁) X.xe s
def tB(t:TE):TT:=λO H Q=>t O H λx H1=>∃c,x=.bl c/\Q c H1
def eh8(h:PC X op a b t)(h1:behindInMarks op b=false:=by first|exact ff3 _ X5 X5|rfl):PT X (.Compare a [op] [b] pos) (tB t):=by intro ζ s O H Q I hw;refine wpAny_isTrue_Compare1 (kO (h s O H _ I hw) λv s1 h1=>kO h1 λu s2 h2=>jI h2 λc s3 x H1 I1 r1 q1=>?_) h1;obtain⟨d,rfl,q⟩:=q1;cases r1;exact M4 ⟨H1,I1,q⟩
variable{tA tB':TT}{rest:bj}
def ep4(t u:TT):TT:=λO H Q=>t O H λc H1=>if c=true then u O H1 Q else Q false H1
def tOr(t u:TT):TT:=λO H Q=>t O H λc H1=>if c=true then Q true H1 else u O H1 Q
def ee3(t:TT):TT:=λO H Q=>t O H λc H1=>Q (!c) H1
theorem rZ(ha:PT X a tA):PW X (.BoolOp .And [a] pos) tA:=by
 intro wh ζ s O H Q I h;refine isTrue_and (kO (ha s O H Q I h) λc s1 e=>?_);cases c with
 |true=>exact isTrue_and_nil e
 |false=>exact e
theorem mO(ha:PT X a tA):PW X (.BoolOp .Or [a] pos) tA:=by
 intro wh ζ s O H Q I h;refine isTrue_or (kO (ha s O H Q I h) λc s1 e=>?_);cases c with
 |false=>exact isTrue_or_nil e
 |true=>exact e
theorem wF(ha:PT X a tA)(hb:PW X (.BoolOp .And (b::rest) pos) tB'):PW X (.BoolOp .And (a::b::rest) pos) (ep4 tA tB'):=by
 intro wh ζ s O H Q I h;refine isTrue_and (thT (ha s O H _ I h) λc s1 H1 I1 q1=>?_);cases c with
 |true=>exact hb ζ s1 O H1 Q I1 q1
 |false=>exact⟨H1,I1,q1⟩
theorem mD(ha:PT X a tA)(hb:PW X (.BoolOp .Or (b::rest) pos) tB'):PW X (.BoolOp .Or (a::b::rest) pos) (tOr tA tB'):=by
 intro wh ζ s O H Q I h;refine isTrue_or (thT (ha s O H _ I h) λc s1 H1 I1 q1=>?_);cases c with
 |true=>exact⟨H1,I1,q1⟩
 |false=>exact hb ζ s1 O H1 Q I1 q1
def dQ(ha:PT X a tA):PT X (.UnaryOp .Not a pos) (ee3 tA):=by intro ζ s O H Q I h;exact isTrue_not (ha s O H (λc H1=>Q (!c) H1) I h)
def dk8(ta tb:TE):TE:=λO H Q=>ta O H λx H1=>∃c,x=.bl c/\if c=true then tb O H1 Q else Q (.bl false) H1
def dd7(ta:TE):TE:=λO H Q=>ta O H λx H1=>∃c,x=.bl c/\Q (.bl (!c)) H1
def sY{op}(h:PE X a t):PE X (.BoolOp op [a] pos) t:=λζ s O H Q I hw=>BoolOp_one (h s O H Q I hw)
theorem sX(ha:PE X a ta)(hb:PE X (.BoolOp .And (b::rest) pos) tb):PE X (.BoolOp .And (a::b::rest) pos) (dk8 ta tb):=by
 intro ζ s O H Q I h;refine BoolOp_and (jI (ha s O H _ I h) λv s1 x H1 I1 r1 q1=>?_);obtain⟨c,rfl,q1⟩:=q1;cases r1;refine M4 ?_;cases c with
 |true=>exact hb s1 O H1 Q I1 q1
 |false=>exact⟨.bl false,H1,I1,rfl,q1⟩
def dq1(ha:PE X a ta):PE X (.UnaryOp .Not a pos) (dd7 ta):=by intro ζ s O H Q I h;refine UnaryOp_ (jI (ha s O H _ I h) λv s1 x H1 I1 r1 q1=>?_);obtain⟨c,rfl,q1⟩:=q1;cases r1;exact not_of (M4 ⟨.bl (!c),H1,I1,rfl,q1⟩)
def tIf(t:TT)(ta tb:TE):TE:=λO H Q=>t O H λc H1=>if c=true then ta O H1 Q else tb O H1 Q
theorem an7(hc:PT X c tA)(ha:PE X a ta)(hb:PE X b tb):PE X (.IfExp c a b pos) (tIf tA ta tb):=by
 intro ζ s O H Q I h;refine wpAny_IfExp (thT (hc s O H _ I h) λd s1 H1 I1 q1=>?_);cases d with
 |true=>exact ha s1 O H1 Q I1 q1
 |false=>exact hb s1 O H1 Q I1 q1
end
def SqL(K:A5)(H:Hp)(a:Addr)(xs:a_):Prop:=
 Rd H a (.lst xs)\/
  ∃(o:Obj)(its:bg)(n:Nat),K.lookup a=some o/\o.cls=.type "list"/\o.dict=none/\o.data=.seq its n/\its.size<=sizeLine/\Vals xs its.toList
def SqT(K:A5)(H:Hp)(a:Addr)(xs:a_):Prop:=
 Rd H a (.tup xs)\/
  ∃(o:Obj)(its:bg)(n:Nat),K.lookup a=some o/\o.cls=.type "tuple"/\o.data=.seq its n/\its.size<=sizeLine/\Vals xs its.toList
def fx3:Value->Option V
 |.none=>some .non
 |.bool b=>some (.bl b)
 |.int i _=>some (.int i)
 |.str x _=>some (.str x)
 |.bytes b _=>some (.byt b)
 |.float b _=>some (.flt b)
 |.ref a=>some (.ref a)
 |.type n=>some (.ty n)
 |_=>none
theorem RelV.abs(r:RelV x u):fx3 u=some x:=by
 cases x with
 |int _=>obtain⟨t,rfl⟩:=r;rfl
 |str _=>obtain⟨t,rfl⟩:=r;rfl
 |byt _=>obtain⟨t,rfl⟩:=r;rfl
 |flt _=>obtain⟨t,rfl⟩:=r;rfl
 |_=>cases r;rfl
def RelV.inj(r:RelV x u)(q:RelV y u):x=y:=G0 (r.abs.symm.trans q.abs)
theorem Vals.inj:∀{xs ys:a_}{us:ao},Vals xs us->Vals ys us->xs=ys
 |_,_,_,.nil,.nil=>rfl
 |_,_,_,.cons r t,.cons r' t'=>by rw[r.inj r',Vals.inj t t']
section
variable{X:Cx}{ζ:ad}{O:St}{H:Hp}{s:B8}{a:Addr}{xs ys:a_}
def SqL.of{K:A5}(h:H a=some (.lst xs)):SqL K H a xs:=.inl (.inl h)
def SqT.of{K:A5}(h:H a=some (.tup xs)):SqT K H a xs:=.inl (.inl h)
def Inv.list(I:Inv X ζ O H s)(h:SqL X.K H a xs):∃its:List Value,Vals xs its/\PlainL s.heap a its.toArray/\xs.length<=sizeLine:=by
 rcases h with h|⟨o,its,n,hk,hc,hd,hs,hz,r⟩
 . obtain⟨z,its,n,r,e⟩:=h.ok I.hok;exact⟨its,r,⟨_,n,e,rfl,rfl,rfl⟩,z⟩
 . refine⟨its.toList,r,⟨o,n,I.kIn a o hk,hc,hd,by simpa using hs⟩,?_⟩;have e:=r.length;simp only[Array.length_toList]at e;omega
def Inv.tuple(I:Inv X ζ O H s)(h:SqT X.K H a xs):∃its:List Value,Vals xs its/\IsTup s.heap a its.toArray/\xs.length<=sizeLine:=by
 rcases h with h|⟨o,its,n,hk,hc,hs,hz,r⟩
 . obtain⟨z,its,r,p⟩:=h.ok I.hok;exact⟨its,r,p,z⟩
 . refine⟨its.toList,r,⟨o,I.kIn a o hk,hc,n,by simpa using hs⟩,?_⟩;have e:=r.length;simp only[Array.length_toList]at e;omega
def Inv.list_inj(I:Inv X ζ O H s)(h:SqL X.K H a xs)(h':SqL X.K H a ys):xs=ys:=by
 obtain⟨its,r,⟨o,n,e,_,_,d⟩,_⟩:=I.list h;obtain⟨its',r',⟨o',n',e',_,_,d'⟩,_⟩:=I.list h';rw[e]at e';cases e';rw[d]at d';injection d' with d1 _;have:its=its':=by simpa using N1 Array.toList d1
 subst this;exact r.inj r'
def Inv.tuple_inj(I:Inv X ζ O H s)(h:SqT X.K H a xs)(h':SqT X.K H a ys):xs=ys:=by
 obtain⟨its,r,⟨o,e,_,n,d⟩,_⟩:=I.tuple h;obtain⟨its',r',⟨o',e',_,n',d'⟩,_⟩:=I.tuple h';rw[e]at e';cases e';rw[d]at d';injection d' with d1 _;have:its=its':=by simpa using N1 Array.toList d1
 subst this;exact r.inj r'
end
abbrev Cx.wish(X:Cx)(E:af):Cx:={X with xe:=E}
abbrev Cx.nox(X:Cx):Cx:=X.wish λ_ _=>False
theorem Cx.Ok.wish{X:Cx}(ok:X.Ok)(E:af):(X.wish E).Ok:=
 ⟨ok.mod,ok.kind,ok.glob,ok.blt,ok.above,ok.inj,ok.has,ok.cab,ok.hd,ok.frames,ok.stk,ok.exf,ok.bs,ok.bsz,ok.noex,ok.exfs,ok.funs,ok.frf⟩
def Cx.Ok.unwish{X:Cx}{E:af}(ok:(X.wish E).Ok):X.Ok:=
 ⟨ok.mod,ok.kind,ok.glob,ok.blt,ok.above,ok.inj,ok.has,ok.cab,ok.hd,ok.frames,ok.stk,ok.exf,ok.bs,ok.bsz,ok.noex,ok.exfs,ok.funs,ok.frf⟩
section
variable{X:Cx}{ζ:ad}{O:St}{H:Hp}{s:B8}{E:af}
theorem Inv.wish(I:Inv X ζ O H s)(E:af):Inv (X.wish E) ζ O H s:=⟨I.ok.wish E,I.os,I.bare,I.base,I.loc,I.cell,I.free,I.freeC,I.pin,I.hok,I.len⟩
theorem Inv.unwish(I:Inv (X.wish E) ζ O H s):Inv X ζ O H s:=⟨I.ok.unwish,I.os,I.bare,I.base,I.loc,I.cell,I.free,I.freeC,I.pin,I.hok,I.len⟩
theorem SP.unwish(h:SP (X.wish E) ζ D f s'):SP X ζ D f s':=by
 cases f with
 |ret u=>refine z32 h λv σ' H' I r q=>?_;exact⟨v,σ',H',I.unwish,r,q⟩
 |_=>refine z21 h λσ' H' I q=>?_;exact⟨σ',H',I.unwish,q⟩
theorem PSs.nox{st:List Stmt}{t:TS}(h:PSs X.nox st t):PSs X st t:=λζ s O H D I hw=>
 N9 (h s O H D (I.wish _) hw) (λ_ _ q=>q.unwish) λ_ _ z=>False.elim z
end
section
variable{X:Cx}{st:Stmt}{rest:List Stmt}{t u:TS}{e:Expr}{te:TE}{pos:Pos}
def dn7:TS:=λD O H=>D.nx O H
def et4(t u:TS):TS:=λD O H=>t {D with nx:=u D} O H
def bI:PSs X [] dn7:=λ_ _ O H _ I h=>V9 ⟨O,H,I,h⟩
theorem aJ(h1:PS X st t)(h2:PSs X rest u):PSs X (st::rest) (et4 t u):=by
 intro ζ s O H D I h;refine wpAny_execs_cons (kO (h1 s O H {D with nx:=u D} I h) λf s1 q=>?_);cases f with
 |next=>refine z21 q λσ' H' I' q=>?_;exact h2 s1 σ' H' D I' q
 |_=>exact q
theorem aK(h1:PS X st t):PSs X [st] t:=by
 intro ζ s O H D I h;refine wpAny_execs_cons (kO (h1 s O H D I h) λf s1 q=>?_);cases f with
 |next=>exact V9 q
 |_=>exact q
def Inv.quiet(I:Inv X ζ O H s):interactive X.env=false:=by simp[interactive,I.ok.kind]
def bm7(te:TE):TS:=λD O H=>te O H λ_ H1=>D.nx O H1
def gA(he:PE X e te)(hs:swapsWith e none pos.line X.env=pure false:=by rfl):PS X (.Expr e pos) (bm7 te):=by intro ζ s O H D I h;exact wpAny_Expr_any (jI (he s O H _ I h) λv s1 x H1 I1 r1 q1=>⟨O,H1,I1,q1⟩) I.quiet hs
def dv2(te:TE):TS:=λD O H=>te O H D.rt
def aR(he:PE X e te):PS X (.Return (some e) pos) (dv2 te):=by intro ζ s O H D I h;exact wpAny_Return_some (jI (he s O H _ I h) λv s1 x H1 I1 r1 q1=>⟨x,O,H1,I1,r1,q1⟩)
def eb5(c:TT)(t u:TS):TS:=λD O H=>c O H λb H1=>if b=true then t D O H1 else u D O H1
theorem bX(hc:PT X c tc)(ha:PSs X a t)(hb:PSs X b u):PS X (.If c a b pos) (eb5 tc t u):=by
 intro ζ s O H D I h;refine wpAny_If (thT (hc s O H _ I h) λd s1 H1 I1 q1=>?_);cases d with
 |true=>exact ha s1 O H1 D I1 q1
 |false=>exact hb s1 O H1 D I1 q1
end
abbrev TG:=V->St->Hp->(St->Hp->Prop)->Prop
abbrev TGs:=List V->St->Hp->(St->Hp->Prop)->Prop
def PG(X:Cx)(target:Expr)(t:TG):Prop:=
 ∀⦃ζ:ad⦄ (s:B8)(O:St)(H:Hp)(v:V)(u:Value)(Q:c7),Inv X ζ O H s->RelV v u->t v O H Q->
  wpAny (model X.prog X.w) X.A (assign target X.env u) (λ_ s'=>∃σ' H',Inv X ζ σ' H' s'/\Q σ' H') X.xe s
def PGs(X:Cx)(ts:bj)(t:TGs):Prop:=
 ∀⦃ζ:ad⦄ (s:B8)(O:St)(H:Hp)(vs:a_)(us:ao)(Q:c7),Inv X ζ O H s->Vals vs us->t vs O H Q->
  wpAny (model X.prog X.w) X.A (assignInOrder ((assignEach ts X.env).map (·.2)) us) (λ_ s'=>∃σ' H',Inv X ζ σ' H' s'/\Q σ' H') X.xe s
abbrev er3:=V->V->V->Hp->(Hp->Prop)->Prop
def el8(X:Cx)(t:er3):Prop:=
 ∀⦃ζ:ad⦄ (s:B8)(O:St)(H:Hp)(o i v:V)(ov iv u:Value)(Q:Hp->Prop),Inv X ζ O H s->RelV o ov->RelV i iv->RelV v u->t o i v H Q->
  wpAny (model X.prog X.w) X.A (setItem ov iv u) (λ_ s'=>∃H',Inv X ζ O H' s'/\Q H') X.xe s
section
variable{X:Cx}{pos:Pos}
def ag6(i:Nat):TG:=λv O H Q=>Q (O.set i (some v)) H
def ek2(hN:X.N.Nodup)(hi:X.N[i]?=some x)(hx:Loc X.env.scope x)(hf:X.fn x=true\/X.env.scope.names.lookup x=some .local:=by first|exact .inl rfl|exact .inr rfl|assumption):PG X (.Name x pos) (ag6 i):=by intro ζ s O H v u Q I r h;exact wpAny_assign_Name (cl0 I hN hi hx r (λs' I'=>⟨_,H,I',h⟩) hf)
def eg7:TGs:=λvs O H Q=>vs=[]/\Q O H
def ck6(t:TG)(u:TGs):TGs:=λvs O H Q=>∃v r,vs=v::r/\t v O H λσ' H'=>u r σ' H' Q
def fW:PGs X [] eg7:=by intro ζ s O H vs us Q I r h;obtain⟨e,h⟩:=h;subst e;cases r;exact assignInOrder_nil ⟨O,H,I,h⟩
theorem bK(h1:PG X e t)(h2:PGs X es u)
 (hs:(assignEach (e::es) X.env).map (·.2)=assign e X.env::(assignEach es X.env).map (·.2):=by rfl):PGs X (e::es) (ck6 t u):=by
 intro ζ s O H vs us Q I r h;obtain⟨v,vr,e1,h⟩:=h;subst e1;cases r with
 |cons r rr=>rw[hs];refine assignInOrder_cons (thG (h1 s O H _ _ _ I r h) λ_ s1 σ1 H1 I1 q1=>?_);exact h2 s1 σ1 H1 _ _ Q I1 rr q1
def db6(K:A5)(n:Nat)(t:TGs):TG:=λv O H Q=>∃a xs,v=.ref a/\SqT K H a xs/\xs.length=n/\t xs O H Q
def ef4(hc:X.calm=true)(h:PGs X es t)
 (hn:(assignEach es X.env).length=n:=by rfl)(hst:(assignEach es X.env).findIdx? (·.1)=none:=by rfl):PG X (.Tuple es k pos) (db6 X.K n t):=by
 intro ζ s O H v u Q I r hw;obtain⟨a,xs,e1,hq,hl,hw⟩:=hw;subst e1;cases r;obtain⟨its,rv,ht,hz⟩:=I.tuple hq;refine assign_Tuple_tuple (I.ok.hd hc) ht (by simp[hn,<-hl,rv.length]) hst λh' hx=>?_;have I1:Inv X ζ O H {s with heap:=h'}:=I.kept (t':=s.toks) λb o e=>hx b o (G2 (D5 e)) e;exact h _ O H xs _ Q I1 (by simpa using rv) hw
def ei5(to ti:TE)(t:er3):TG:=λv O H Q=>to O H λo H1=>ti O H1 λi H2=>t o i v H2 λH3=>Q O H3
def ad4(ho:PE X o to)(hi:PE X i ti)(hs:el8 X t)
 (ha:∀v,assign (.Subscript o i pos) X.env v=(do
  let ov<-holding [v] (eval o X.env);let iv<-holding [v,ov] (eval i X.env)
  standAt pos
  holding [v,ov,iv] (setItem ov iv v)
  release [v,ov,iv] []):=by intro _;rfl):PG X (.Subscript o i pos) (ei5 to ti t):=by
 intro ζ s O H v u Q I r h;rw[ha];refine A7 (P8 (jI (ho s O H _ I h) λov s1 x H1 I1 r1 q1=>?_));refine A7 (P8 (jI (hi s1 O H1 _ I1 q1) λiv s2 y H2 I2 r2 q2=>?_));refine A7 (W7 (A7 (P8 (thH (hs s2 O H2 x y v ov iv u _ I2 r1 r2 r q2) λ_ s3 H3 I3 q3=>?_))));exact wpAny_release ⟨O,H3,I3,q3⟩
def bw2(te:TE)(g:TG):TS:=λD O H=>te O H λx H1=>g x O H1 D.nx
def qH(he:PE X e te)(hg:PG X tg g)(hs:swapsWithSole [tg] e pos.line X.env=pure false:=by rfl)(hw:swappedStores [tg] e X.env=pure none:=by rfl)
 (h1:(assignEach [tg] X.env).map (·.2)=[assign tg X.env]:=by rfl):PS X (.Assign [tg] e pos) (bw2 te g):=by
 intro ζ s O H D I h;refine wpAny_Assign_stores (jI (he s O H _ I h) λv s1 x H1 I1 r1 q1=>?_) hs hw;rw[h1];exact kO (hg s1 O H1 x v _ I1 r1 q1) λ_ s2 q=>q
def el7(hN:X.N.Nodup)(hi:X.N[i]?=some x)(hx:Loc X.env.scope x)(he:PE X e te)(hs:swapsWith e (some (.Name x pos')) pos.line X.env=pure false:=by rfl)(hf:X.fn x=true\/X.env.scope.names.lookup x=some .local:=by first|exact .inl rfl|exact .inr rfl|assumption):
 PS X (.Assign [.Name x pos'] e pos) (bw2 te (ag6 i)):=by
 intro ζ s O H D I h;refine wpAny_Assign_Name (jI (he s O H _ I h) λv s1 y H1 I1 r1 q1=>?_) hs;exact cl0 I1 hN hi hx r1 (λs2 I2=>⟨_,H1,I2,q1⟩) hf
def dd0(c:TT)(tb:TS):TS:=λD O H=>∃W:Nat->St->Hp->Prop,(∃m,W m O H)/\∀m O H,W m O H->
 c O H λb H1=>if b=true then∃N:St->Hp->Prop,(∀σ' H',N σ' H'->∃m',m'<m/\W m' σ' H')/\tb {D with nx:=N,ct:=N,bk:=D.nx} O H1 else D.nx O H1
theorem dy4(hp:PassesOwn (model X.prog X.w) X.A X.env X.xe)(hc:PT X c tc)(hb:PSs X body tb):PS X (.While c body [] pos) (dd0 tc tb):=by
 intro ζ s O H D I h;obtain⟨W,⟨m0,w0⟩,turn⟩:=h;refine wpAny_While (codeAny_whileLoop (λn s'=>∃σ' H',Inv X ζ σ' H' s'/\W n σ' H') ?_ m0 ⟨O,H,I,w0⟩);rintro n s1 ⟨σ1,H1,I1,w1⟩;refine Q6 hp (thT (hc s1 σ1 H1 _ I1 (turn n σ1 H1 w1)) λb s2 H2 I2 q2=>?_);cases b with
 |true=>
  obtain⟨N,hN,q2⟩:=q2;rw[E3 rfl];refine Q6 hp (kO (hb s2 σ1 H2 _ I2 q2) λf s3 q3=>?_);cases f with
  |next=>refine z21 q3 λσ3 H3 I3 n3=>?_;obtain⟨m',hm,w3⟩:=hN σ3 H3 n3;exact⟨m',hm,σ3,H3,I3,w3⟩
  |cont=>refine z21 q3 λσ3 H3 I3 n3=>?_;obtain⟨m',hm,w3⟩:=hN σ3 H3 n3;exact⟨m',hm,σ3,H3,I3,w3⟩
  |_=>exact q3
 |false=>rw[D7 E9];exact V9 ⟨σ1,H2,I2,q2⟩
end
structure It where
 go:Nat->Hp->Prop
 yld:Nat->Hp->V->Hp->Prop
 stop:Nat->Hp->Prop
def uR(X:Cx)(ζ:ad)(H:Hp)(b:Addr):Prop:=
 H b=none/\b≠X.env.locals/\b∉X.fs/\(b∈X.ex\/X.s₀.heap.objs.size<=b)/\(∀x c,X.env.cells.lookup x=some c->c≠b)/\∀p∈X.pn++ζ,p.1≠b
def Inv.fpOk(I:Inv X ζ O H s)(hb:s.heap.objs.size<=b)(hn:H' b=none):uR X ζ H' b:=by
 refine⟨hn,R9 (G3 I.lt hb),I.nofs hb,.inr (K1 I.sz hb),λx c e z=>?_,λp hp z=>?_⟩
 . obtain⟨v,q⟩:=I.cell x c e;exact E8 (G3 q.lt (by rw[z];exact hb)) (O4 _)
 . exact E8 (G3 (D5 (I.pin p hp).1) (by rw[z];exact hb)) (O4 _)
structure ar5 (P:G1) (w:World) (K:A5) (tg:Expr) (J:It) (fp:av) (it:Addr) (tn:db):Prop where
 mem:it∈fp
 obj:∀i h,tn i h->∀b∈fp,∃o,h.get? b=some o/\∀v,o.data≠ .cell v
 keep:∀i h h',tn i h->(∀b∈fp,∀o,h.get? b=some o->h'.get? b=some o)->tn i h'
 item:∀(X:Cx),X.prog=P->X.w=w->X.K=K->X.calm=true->∀(i:Nat)(ζ:ad)(s:B8)(O:St)(H:Hp)(E:af),Inv X ζ O H s->(∀b∈fp,uR X ζ H b)->tn i s.heap->J.go i H->
  wpAny (model P w) X.A (pyNext (.ref it)) (λr s1=>∃u,r=some u/\
   wpAny (model P w) X.A (letOwnedTupleGo tg (.ref it) u) (λ_ s2=>∃x H',Inv X ζ O H' s2/\RelV x u/\J.yld i H x H'/\tn (i+1) s2.heap/\∀b∈fp,H' b=none) E s1) E s
 done:∀(X:Cx),X.prog=P->X.w=w->X.K=K->X.calm=true->∀(i:Nat)(ζ:ad)(s:B8)(O:St)(H:Hp)(E:af),Inv X ζ O H s->(∀b∈fp,uR X ζ H b)->tn i s.heap->J.stop i H->
  wpAny (model P w) X.A (pyNext (.ref it)) (λr s1=>r=none/\Inv X ζ O H s1) E s
 self:∀(A:J0)(i:Nat)(s:B8)(Q:af)(E:af),tn i s.heap->Q (.ref it) s->wpAny (model P w) A (pyIter (.ref it)) Q E s
abbrev TI:=St->Hp->(It->Hp->Prop)->Prop
def PIE(X:Cx)(ζ:ad)(O:St)(tg:Expr)(R:It->Hp->Prop)(itv:Value)(s2:B8):Prop:=
 ∃(it:Addr)(fp:av)(tn:db)(J:It)(H':Hp),itv=.ref it/\Inv X ζ O H' s2/\ar5 X.prog X.w X.K tg J fp it tn/\tn 0 s2.heap/\(∀b∈fp,uR X ζ H' b)/\R J H'
def PI(X:Cx)(tg iter:Expr)(wi:TI):Prop:=
 ∀⦃ζ:ad⦄ (s:B8)(O:St)(H:Hp)(R:It->Hp->Prop),Inv X ζ O H s->wi O H R->
  wpAny (model X.prog X.w) X.A (eval iter X.env) (λv s1=>wpAny (model X.prog X.w) X.A (pyIter v) (PIE X ζ O tg R) X.xe s1) X.xe s
def ci6 (ho : s.heap.get? it = some o) (hc : o.cls = .type n) (hd : o.data = .fields vs)
    (hn : ["enumerate", "zip", "dict_itemiterator", "dict_reverseitemiterator", "odict_iterator", "itertools.zip_longest", "itertools.pairwise"].contains n = false) (hQ : Q () s) : wpAny M A (letOwnedTupleGo tg (.ref it) u) Q E s := by
  unfold letOwnedTupleGo
  cases tg <;> first
    | exact B9 hQ
    | (cases u <;> first
        | exact B9 hQ
        | (refine A7 (wpAny_load ho ?_)
           rw [hc, hd]
           show wpAny M A (if (["enumerate", "zip", "dict_itemiterator", "dict_reverseitemiterator", "odict_iterator", "itertools.zip_longest", "itertools.pairwise"].contains n && vs[0]? == some (rawInt _)) = true then _ else _) Q E s
           rw [D7 (by intro h; rw [hn, Bool.false_and] at h; cases h)]
           exact B9 hQ))
def Itl(K:A5)(a:Addr):It:=
 ⟨λi H=>∃xs x,SqL K H a xs/\xs[i]?=some x,λi H x H'=>H'=H/\∀xs,SqL K H a xs->xs[i]?=some x,λi H=>∃xs,SqL K H a xs/\xs.length<=i⟩
def Itt(K:A5)(a:Addr):It:=
 ⟨λi H=>∃xs x,SqT K H a xs/\xs[i]?=some x,λi H x H'=>H'=H/\∀xs,SqT K H a xs->xs[i]?=some x,λi H=>∃xs,SqT K H a xs/\xs.length<=i⟩
def Itr(lo:Int)(n:Nat):It:=⟨λi _=>i<n,λi H x H'=>H'=H/\x=.int (lo+i),λi _=>n<=i⟩
def cd9{P:G1}{w:World}{K:A5}{tg:Expr}(a it:Addr):ar5 P w K tg (Itl K a) [it] it (λi h=>h.IsListIter it a i) where
 mem:=X4
 obj:=λi h st b hb=>by
  have e:b=it:=by simpa using hb
  subst e;refine z12 st λo e c d=>?_;exact⟨o,e,λv z=>by rw[d]at z;cases z⟩
 keep:=λi h h' st k=>st.at λo e=>k it X4 o e
 item:=by intro X hP hw hK hc i ζ s O H E I hf st hg;subst hP hw hK;refine z21 hg λxs x hq hx=>?_;refine z12 (I.list hq) λits rv p hz=>?_;obtain⟨u,hu,ru⟩:=rv.get hx;obtain⟨f0,f1,f2,f3,f4,f5⟩:=hf it X4;refine wpAny_pyNext_list_item st p.isList (x:=u) (by simpa using hu) λh' st' sb=>?_;have I1:Inv X ζ O H {s with heap:=h'}:=I.turned (t':=s.toks) (λb o hb e=>(sb.2 b hb).trans e) f0 f1 f3 f4 f5;refine z12 (id st') λo e c d=>?_;exact⟨u,rfl,ci6 (s:={s with heap:=h'}) e c d X5 ⟨x,H,I1,ru,⟨rfl,λys hy=>by rw[I.list_inj hy hq];exact hx⟩,st',λb hb=>(hf b hb).1⟩⟩
 done:=by intro X hP hw hK hc i ζ s O H E I hf st hg;subst hP hw hK;obtain⟨xs,hq,hx⟩:=hg;refine z12 (I.list hq) λits rv p hz=>?_;obtain⟨f0,f1,f2,f3,f4,f5⟩:=hf it X4;have hl:=rv.length;exact wpAny_pyNext_list_end (I.ok.hd hc) st p.isList (by simp;omega) λh' eb=>⟨rfl,I.turned (t':=s.toks) (λb o hb e=>eb b o hb e) f0 f1 f3 f4 f5⟩
 self:=λ_ _ _ _ _ st h=>wpAny_pyIter_listiter st h
def cg6{P:G1}{w:World}{K:A5}{tg:Expr}(a it:Addr):ar5 P w K tg (Itt K a) [it] it (λi h=>h.IsTupleIter it a i) where
 mem:=X4
 obj:=λi h st b hb=>by
  have e:b=it:=by simpa using hb
  subst e;refine z12 st λo e c d=>?_;exact⟨o,e,λv z=>by rw[d]at z;cases z⟩
 keep:=λi h h' st k=>st.at λo e=>k it X4 o e
 item:=by intro X hP hw hK hc i ζ s O H E I hf st hg;subst hP hw hK;refine z21 hg λxs x hq hx=>?_;refine z12 (I.tuple hq) λits rv p hz=>?_;obtain⟨u,hu,ru⟩:=rv.get hx;obtain⟨f0,f1,f2,f3,f4,f5⟩:=hf it X4;refine wpAny_pyNext_tuple_item st (show s.heap.IsTuple a its.toArray from p) (x:=u) (by simpa using hu) λh' st' sb=>?_;have I1:Inv X ζ O H {s with heap:=h'}:=I.turned (t':=s.toks) (λb o hb e=>(sb.2 b hb).trans e) f0 f1 f3 f4 f5;refine z12 (id st') λo e c d=>?_;exact⟨u,rfl,ci6 (s:={s with heap:=h'}) e c d X5 ⟨x,H,I1,ru,⟨rfl,λys hy=>by rw[I.tuple_inj hy hq];exact hx⟩,st',λb hb=>(hf b hb).1⟩⟩
 done:=by intro X hP hw hK hc i ζ s O H E I hf st hg;subst hP hw hK;obtain⟨xs,hq,hx⟩:=hg;refine z12 (I.tuple hq) λits rv p hz=>?_;obtain⟨f0,f1,f2,f3,f4,f5⟩:=hf it X4;have hl:=rv.length;exact wpAny_pyNext_tuple_end (I.ok.hd hc) st (show s.heap.IsTuple a its.toArray from p) (by simp;omega) λh' eb=>⟨rfl,I.turned (t':=s.toks) (λb o hb e=>eb b o hb e) f0 f1 f3 f4 f5⟩
 self:=λ_ _ _ _ _ st h=>wpAny_pyIter_tupleiter st h
def cc6{P:G1}{w:World}{K:A5}{tg:Expr}(it:Addr)(lo:Int)(n:Nat):ar5 P w K tg (Itr lo n) [it] it (λi h=>IsRangeIter h it (lo+(i:Nat)*1) ((n:Int)-(i:Nat)) 1) where
 mem:=X4
 obj:=λi h st b hb=>by
  have e:b=it:=by simpa using hb
  subst e;exact⟨_,st,λv z=>by have z':Data.fields _=Data.cell v:=z;cases z'⟩
 keep:=λi h h' st k=>k it X4 _ st
 item:=by intro X hP hw hK hc i ζ s O H E I hf st hg;subst hP hw hK;obtain⟨f0,f1,f2,f3,f4,f5⟩:=hf it X4;have W:=Walks.range (prog:=X.prog) (w:=X.w) (I.ok.hd hc) it lo 1 n;refine W.item i s _ _ hg st λv h' tk hv st' kk=>?_;obtain⟨t,rfl⟩:=hv;have I1:Inv X ζ O H {s with heap:=h',toks:=tk}:=I.turned (λb o hb e=>kk b o (by simpa using hb) e) f0 f1 f3 f4 f5;refine⟨_,rfl,ci6 (s:={s with heap:=h',toks:=tk}) (n:="range_iterator") st' rfl rfl X5 ⟨.int (lo+i),H,I1,⟨t,?_⟩,⟨rfl,rfl⟩,st',λb hb=>(hf b hb).1⟩⟩;rw[Int.mul_one]
 done:=by intro X hP hw hK hc i ζ s O H E I hf st hg;subst hP hw hK;obtain⟨f0,f1,f2,f3,f4,f5⟩:=hf it X4;exact wpAny_pyNext_range_end (I.ok.hd hc) st (by have:n<=i:=hg;omega) λh' eb=>⟨rfl,I.turned (t':=s.toks) (λb o hb e=>eb b o hb e) f0 f1 f3 f4 f5⟩
 self:=λ_ _ _ _ _ st h=>wpAny_pyIter_rangeiter st h
section
variable{X:Cx}{tg:Expr}
def cm0{ζ:ad}{O:St}{H:Hp}{s:B8}{R:It->Hp->Prop}{E:af}{lo hi:Int}{t u v:Tok}{tk:Nat}(I:Inv X ζ O H s)(h1:-(2^62)<=lo)(h2:lo<2^62)(h3:-(2^62)<=hi)(h4:hi<2^62)
 (q:R (Itr lo (hi-lo).toNat) H):wpAny (model X.prog X.w) X.A (pyIter (.ref s.heap.objs.size)) (PIE X ζ O tg R) E {s with heap:=s.heap.push {cls:=.type "range",data:=.fields #[.int lo t,.int hi u,.int 1 v]},toks:=tk}:=by
 refine wpAny_pyIter_range (IsRange.new ..) (small_one h1 h2 h3 h4) ?_;have I1:Inv X ζ O H {s with heap:=s.heap.push {cls:=.type "range",data:=.fields #[.int lo t,.int hi u,.int 1 v]},toks:=tk}:=I.kept λb o e=>B0 _ e;refine⟨(s.heap.push {cls:=.type "range",data:=.fields #[.int lo t,.int hi u,.int 1 v]}).objs.size,[(s.heap.push {cls:=.type "range",data:=.fields #[.int lo t,.int hi u,.int 1 v]}).objs.size],_,_,H,rfl,
  I1.kept (t':=tk) λb o e=>B0 _ e,cc6 _ lo (hi-lo).toNat,?_,λb hb=>?_,q⟩
 . have e1:lo+((0:Nat):Int)*1=lo:=X4
   have e2:(((hi-lo).toNat:Nat):Int)-((0:Nat):Int)=Builtin.Range.rangeSize lo hi 1:=by rw[rangeSize_one];split<;>omega
   show IsRangeIter _ _ (lo+((0:Nat):Int)*1) ((((hi-lo).toNat:Nat):Int)-((0:Nat):Int)) 1;rw[e1,e2];exact D6 _ rfl
 . have e:b=(s.heap.push {cls:=.type "range",data:=.fields #[.int lo t,.int hi u,.int 1 v]}).objs.size:=by simpa using hb
   subst e;exact I1.fpOk (C9 _) (I1.hok.fresh (C9 _))
def dc7(ta:TA):TI:=λO H R=>ta O H λvs H1=>∃j:Int,vs=[.int j]/\-(2^62)<=j/\j<2^62/\R (Itr 0 j.toNat) H1
def dr7(ta:TA):TI:=λO H R=>ta O H λvs H1=>∃i j:Int,vs=[.int i,.int j]/\(-(2^62)<=i/\i<2^62/\-(2^62)<=j/\j<2^62)/\R (Itr i (j-i).toNat) H1
theorem dE{a:Expr}{ta:TA}{p pos:Pos}(hg:Gl X "range")(hm:X.mg "range"=none)(ha:PA X [a] ta)(hs:starEach [a] X.env=[(false,eval a X.env)]:=by rfl):PI X tg (.Call (.Name "range" p) [a] [] pos) (dc7 ta):=by
 intro ζ s O H R I h;refine Call_ (oR I hg hm boot_range (L0 (wM (ha ζ s O H _ I h) λus s1 vs H1 I1 r1 q1=>?_) hs rfl));obtain⟨j,e,q1,q2,q⟩:=q1;subst e;cases r1 with
 |cons r rr=>cases rr;obtain⟨t,rfl⟩:=r;exact call_range_1 (cm0 I1 W9 W9 q1 q2 (by simpa using q))
theorem cx8(hg:Gl X "range")(hm:X.mg "range"=none)(ha:PA X [a,b] ta)(hs:starEach [a,b] X.env=[(false,eval a X.env),(false,eval b X.env)]:=by rfl)(hs2:starEach [b] X.env=[(false,eval b X.env)]:=by rfl):
 PI X tg (.Call (.Name "range" p) [a,b] [] pos) (dr7 ta):=by
 intro ζ s O H R I h;refine Call_ (oR I hg hm boot_range (L0 (wM (ha ζ s O H _ I h) λus s1 vs H1 I1 r1 q1=>?_) (by rw[hs,hs2]) (by rw[hs2];rfl)));obtain⟨i,j,e,⟨q1,q2,q3,q4⟩,q⟩:=q1;subst e;cases r1 with
 |cons r rr=>
  cases rr with
  |cons r' rr=>cases rr;obtain⟨t,rfl⟩:=r;obtain⟨t',rfl⟩:=r';exact call_range_2 (cm0 I1 q1 q2 q3 q4 q)
def ei4(wi:TI)(g:TG)(tb:TS):TS:=λD O H=>wi O H λJ H1=>∃W:Nat->Nat->St->Hp->Prop,(∃m,W 0 m O H1)/\∀i m O H,W i m O H->
 (J.stop i H/\D.nx O H)\/(J.go i H/\∃N:St->Hp->Prop,(∀σ' H',N σ' H'->∃m',m'<m/\W (i+1) m' σ' H')/\∀x H',J.yld i H x H'->g x O H' λσ2 H2=>tb {D with nx:=N,ct:=N,bk:=D.nx} σ2 H2)
def ac1(fp:av)(h:Heap):List (Addr×Obj):=fp.filterMap λb=>(h.get? b).map λo=>(b,o)
def wW(hb:b∈fp)(e:h.get? b=some o):(b,o)∈ac1 fp h:=List.mem_filterMap.mpr ⟨b,hb,by rw[e];rfl⟩
theorem cr8(hp:p∈ac1 fp h):p.1∈fp/\h.get? p.1=some p.2:=by
 obtain⟨b,hb,e⟩:=List.mem_filterMap.mp hp;cases q:h.get? b with
 |none=>rw[q]at e;cases e
 |some o=>rw[q]at e;have e':(b,o)=p:=G0 e;subst e';exact⟨hb,q⟩
def Inv.pinned(I:Inv X ζ O H s)(hf:∀b∈fp,uR X ζ H b)(ho:∀b∈fp,∃o,s.heap.get? b=some o/\∀v,o.data≠ .cell v):Inv X (ζ++ac1 fp s.heap) O H s:=
 I.pins_of λp hp=>(A9.mp hp).elim (λz=>I.pin p (C6 _ z)) λz=>by obtain⟨hb,e⟩:=cr8 z;refine z03 (hf p.1 hb) λf0 f1 f2 _=>?_;obtain⟨o,e',d⟩:=ho p.1 hb;rw[e]at e';cases e';exact⟨e,f0,f1,f2,d⟩
def Inv.unpinned(I:Inv X (ζ++pl) O H s):Inv X ζ O H s:=I.pins_of λp hp=>I.pin p (C6 _ (D9 _ hp))
def eV(hp:PassesOwn (model X.prog X.w) X.A X.env X.xe)(hc:X.calm=true)(hi:PI X tg iter wi)(hg:PG X tg g)(hb:PSs X body tb)
 (hs:∀x,foldedSetIterable iter X.env x=pure x:=by intro _;rfl):PS X (.For tg iter body [] pos) (ei4 wi g tb):=by
 intro ζ s O H D I h;refine wpAny_For (kO (hi s O H _ I h) λv s1 h1=>kO h1 λitv s2 h2=>?_) hs;obtain⟨it,fp,tn,J,H2,e,I2,T,st2,f2,W,⟨m0,w0⟩,turn⟩:=h2;subst e;have stat:∀{H':Hp},(∀b∈fp,H' b=none)->∀b∈fp,uR X ζ H' b:=λhn b hb=>⟨hn b hb,(f2 b hb).2⟩;refine codeAny_forLoop_any (λn s'=>∃i σ' H',Inv X ζ σ' H' s'/\tn i s'.heap/\(∀b∈fp,H' b=none)/\W i n σ' H') ?_ m0 ⟨0,O,H2,I2,st2,λb hb=>(f2 b hb).1,w0⟩;rintro n s3 ⟨i,σ3,H3,I3,st3,fr3,w3⟩;rcases turn i n σ3 H3 w3 with⟨stop,qn⟩|⟨go,N,hN,step⟩
 . refine Q6 hp (kO (T.done X rfl rfl rfl hc i ζ s3 σ3 H3 X.xe I3 (stat fr3) st3 stop) λr s4 ⟨hr,I4⟩=>?_);subst hr;exact V9 ⟨σ3,H3,I4,qn⟩
 . refine Q6 hp (kO (T.item X rfl rfl rfl hc i ζ s3 σ3 H3 X.xe I3 (stat fr3) st3 go) λr s4 ⟨u,hr,h4⟩=>?_);subst hr;refine Q6 hp (kO h4 λ_ s5 ⟨x,H5,I5,r5,y5,st5,fr5⟩=>?_);have I5':=I5.pinned (stat fr5) (T.obj _ _ st5);refine Q6 hp (thG (hg s5 σ3 H5 x u _ I5' r5 (step x H5 y5)) λ_ s6 σ6 H6 I6 q6=>?_);refine Q6 hp (kO (hb s6 σ6 H6 _ I6 q6) λf s7 q7=>?_);have again:∀{σ7:St}{H7:Hp},Inv X (ζ++ac1 fp s5.heap) σ7 H7 s7->N σ7 H7->∃m,m<n/\∃i σ' H',Inv X ζ σ' H' s7/\tn i s7.heap/\(∀b∈fp,H' b=none)/\W i m σ' H':=λ{σ7 H7} I7 n7=>by obtain⟨m',hm,w7⟩:=hN σ7 H7 n7;refine⟨m',hm,i+1,σ7,H7,I7.unpinned,T.keep _ _ _ st5 λb hb o e=>(I7.pin (b,o) (C6 _ (C6 _ (wW hb e)))).1,λb hb=>?_,w7⟩;obtain⟨o,e,d⟩:=T.obj _ _ st5 b hb;exact(I7.pin (b,o) (C6 _ (C6 _ (wW hb e)))).2.1
   cases f with
   |brk=>refine z21 q7 λσ7 H7 I7 q7=>?_;exact⟨σ7,H7,I7.unpinned,q7⟩
   |ret v=>refine z32 q7 λx7 σ7 H7 I7 r7 q7=>?_;exact⟨x7,σ7,H7,I7.unpinned,r7,q7⟩
   |_=>refine z21 q7 λσ7 H7 I7 n7=>?_;exact again I7 n7
end
abbrev R2:=V->V->Hp->VK->Prop
def OpR(X:Cx)(f:Value->Value->Sem Value)(r:R2):Prop:=
 ∀⦃ζ:ad⦄ (s:B8)(O:St)(H:Hp)(x y:V)(v u:Value)(Q:VK),Inv X ζ O H s->RelV x v->RelV y u->r x y H Q->
  wpAny (model X.prog X.w) X.A (f v u) (EP X ζ O Q) X.xe s
def UnR(X:Cx)(f:Value->Sem Value)(r:dl):Prop:=
 ∀⦃ζ:ad⦄ (s:B8)(O:St)(H:Hp)(x:V)(v:Value)(Q:VK),Inv X ζ O H s->RelV x v->r x H Q->
  wpAny (model X.prog X.w) X.A (f v) (EP X ζ O Q) X.xe s
def CallR(X:Cx)(f:Value)(r:cq):Prop:=
 ∀⦃ζ:ad⦄ (s:B8)(O:St)(H:Hp)(xs:a_)(us:ao)(Q:VK),Inv X ζ O H s->Vals xs us->r xs H Q->
  wpAny (model X.prog X.w) X.A (call f us) (EP X ζ O Q) X.xe s
def fo3(X:Cx)(r:V->Hp->(Bool->Hp->Prop)->Prop):Prop:=
 ∀⦃ζ:ad⦄ (s:B8)(O:St)(H:Hp)(x:V)(v:Value)(Q:b_),Inv X ζ O H s->RelV x v->r x H Q->
  wpAny (model X.prog X.w) X.A (truthy v) (TP X ζ O Q) X.xe s
def tOp(r:R2)(ta tb:TE):TE:=λO H Q=>ta O H λx H1=>tb O H1 λy H2=>r x y H2 Q
def tUn(r:dl)(ta:TE):TE:=λO H Q=>ta O H λx H1=>r x H1 Q
def rI(C:Int->Int->Prop)(g:dh):R2:=λx y H Q=>∃i j,x=.int i/\y=.int j/\C i j/\Q (g i j) H
def xX(g:dh):R2:=λx y H Q=>∃i j,x=.int i/\y=.int j/\Q (g i j) H
def rU(g:Int->V):V->Hp->VK->Prop:=λx H Q=>∃i,x=.int i/\Q (g i) H
section
variable{X:Cx}{a b c:Expr}{ta tb tc:TE}{pos:Pos}
def dy2(ha:PE X a ta)(hb:PE X b tb){ζ:ad}{s:B8}{O:St}{H:Hp}{R:V->V->Hp->Prop}(I:Inv X ζ O H s)
 (h:ta O H λx H1=>tb O H1 λy H2=>R x y H2){Q:af}{f:Value->Value->Sem Value}
 (hf:∀v u s2 x y H2,Inv X ζ O H2 s2->RelV x v->RelV y u->R x y H2->wpAny (model X.prog X.w) X.A (f v u) Q X.xe s2):
 wpAny (model X.prog X.w) X.A (eval a X.env) (λv s₁=>wpAny (model X.prog X.w) X.A (eval b X.env) (λu s₂=>wpAny (model X.prog X.w) X.A (f v u) Q X.xe s₂) X.xe s₁) X.xe s:=by
 refine jI (ha s O H _ I h) λv s1 x H1 I1 r1 q1=>?_;refine jI (hb s1 O H1 _ I1 q1) λu s2 y H2 I2 r2 q2=>?_;exact hf v u s2 x y H2 I2 r1 r2 q2
def aL{op:Operator}{r:R2}(ho:OpR X (binaryOp op) r)(ha:PE X a ta)(hb:PE X b tb):PE X (.BinOp a op b pos) (tOp r ta tb):=by intro ζ s O H Q I h;exact wpAny_BinOp (dy2 ha hb I h λv u s2 x y H2 I2 rx ry q=>ho s2 O H2 x y v u Q I2 rx ry q)
def zW(ho:UnR X (unaryOp op) r)(ha:PE X a ta):PE X (.UnaryOp op a pos) (tUn r ta):=by intro ζ s O H Q I h;exact UnaryOp_ (jI (ha s O H _ I h) λv s1 x H1 I1 r1 q1=>ho s1 O H1 x v Q I1 r1 q1)
def opI{f:Value->Value->Sem Value}{C:Int->Int->Prop}{g:Int->Int->Int}
 (rule:∀(i j:Int)(t u:Tok)(s:B8)(Q:af)(E:af),C i j->Q (.int (g i j) s.toks) {s with toks:=s.toks+1}->wpAny (model X.prog X.w) X.A (f (.int i t) (.int j u)) Q E s):
 OpR X f (rI C λi j=>.int (g i j)):=by
 intro ζ s O H x y v u Q I rx ry h;refine z23 h λi j zz zy hc q=>?_;clear h;subst zz zy;obtain⟨t,rfl⟩:=rx;obtain⟨t',rfl⟩:=ry;exact rule i j t t' s _ _ hc ⟨.int (g i j),H,I.tok _,⟨_,rfl⟩,q⟩
def er5{f:Value->Value->Sem Value}{g:Int->Int->Int}
 (rule:∀(i j:Int)(t u:Tok)(s:B8)(Q:af)(E:af),Q (.int (g i j) s.toks) {s with toks:=s.toks+1}->wpAny (model X.prog X.w) X.A (f (.int i t) (.int j u)) Q E s):
 OpR X f (xX λi j=>.int (g i j)):=by
 intro ζ s O H x y v u Q I rx ry h;refine z22 h λi j zz zy q=>?_;clear h;subst zz zy;obtain⟨t,rfl⟩:=rx;obtain⟨t',rfl⟩:=ry;exact rule i j t t' s _ _ ⟨.int (g i j),H,I.tok _,⟨_,rfl⟩,q⟩
def cm6{f:Value->Value->Sem Value}{g:Int->Int->Bool}
 (rule:∀(i j:Int)(t u:Tok)(s:B8)(Q:af)(E:af),Q (.bool (g i j)) s->wpAny (model X.prog X.w) X.A (f (.int i t) (.int j u)) Q E s):
 OpR X f (xX λi j=>.bl (g i j)):=by
 intro ζ s O H x y v u Q I rx ry h;refine z22 h λi j zz zy q=>?_;clear h;subst zz zy;obtain⟨t,rfl⟩:=rx;obtain⟨t',rfl⟩:=ry;exact rule i j t t' s _ _ ⟨.bl (g i j),H,I,rfl,q⟩
def ag0(i j:Int):Prop:=0<j/\j<1073741824
def ak2(i j:Int):Prop:=0<=j/\j<=1000000/\i.natAbs<2^64
def op_add:OpR X (binaryOp .Add) (xX λi j=>.int (i+j)):=er5 λ_ _ _ _ _ _ _ q=>add_int q
def cJ:OpR X (binaryOp .Sub) (xX λi j=>.int (i-j)):=er5 λ_ _ _ _ _ _ _ q=>sub_int q
def gT:OpR X (binaryOp .FloorDiv) (rI ag0 λi j=>.int (i/j)):=opI λi j _ _ _ _ _ hc q=>by have h1:(0:Int)<j:=hc.1;have h2:j<1073741824:=hc.2;exact floordiv_int W9 (by rw[Int.fdiv_eq_ediv_of_nonneg i W9];exact q) (.inl (PyProof.noPylong_small W9))
def bV:OpR X (binaryOp .Mod) (rI (λ_ j=>0<j) λi j=>.int (i%j)):=opI λi j _ _ _ _ _ hc q=>by have h1:(0:Int)<j:=hc;exact mod_int' W9 (by rw[Int.fmod_eq_emod_of_nonneg i W9];exact q)
def au8:OpR X (binaryOp .Pow) (rI ak2 λi j=>.int (i^j.toNat)):=opI λ_ _ _ _ _ _ _ hc q=>pow_int_small hc.1 hc.2.1 hc.2.2 q
def unI{f:Value->Sem Value}{g:Int->Int}
 (rule:∀(i:Int)(t:Tok)(s:B8)(Q:af)(E:af),Q (.int (g i) s.toks) {s with toks:=s.toks+1}->wpAny (model X.prog X.w) X.A (f (.int i t)) Q E s):
 UnR X f (rU λi=>.int (g i)):=by
 intro ζ s O H x v Q I rx h;obtain⟨i,rfl,q⟩:=h;obtain⟨t,rfl⟩:=rx;exact rule i t s _ _ ⟨.int (g i),H,I.tok _,⟨_,rfl⟩,q⟩
def wD:UnR X (unaryOp .USub) (rU λi=>.int (-i)):=unI λ_ _ _ _ _ q=>neg_int q
end
def dx2:V->V->Bool
 |.non,.non=>true|.non,.int _=>true|.int _,.non=>true|.non,.bl _=>true|.bl _,.non=>true|.non,.str _=>true|.str _,.non=>true
 |.int _,.int _=>true|.bl _,.bl _=>true|.str _,.str _=>true|.byt _,.byt _=>true
 |.int _,.str _=>true|.str _,.int _=>true|.bl _,.str _=>true|.str _,.bl _=>true
 |_,_=>false
def rEq:R2:=λx y H Q=>dx2 x y=true/\Q (.bl (decide (x=y))) H
def rNe:R2:=λx y H Q=>dx2 x y=true/\Q (.bl (!decide (x=y))) H
def dec_int:decide (V.int i=V.int j)=(i==j):=by rw[Q4];simp
def dec_bl:decide (V.bl i=V.bl j)=(i==j):=by rw[Q4];simp
def dec_str:decide (V.str i=V.str j)=(i==j):=by rw[Q4];simp
def cn4:decide (V.byt i=V.byt j)=(i.toList==j.toList):=by rw[Q4];cases i;cases j;simp
section
variable{X:Cx}{a b c:Expr}{ta tb tc:TE}{pos:Pos}
def dX(I:Inv X ζ O H s)(q:Q (.bl k) H)(e:k=k'):EP X ζ O Q (.bool k') s:=by subst e;exact⟨.bl k,H,I,rfl,q⟩
theorem fp1:OpR X (compareOp .Eq) rEq:=by
 intro ζ s O H x y v u Q I rx ry h;obtain⟨hs,q⟩:=h;cases x with
 |non=>
  cases rx;cases y with
  |non=>cases ry;exact PySem.EqNone.eq_none_none (dX I q X4)
  |bl j=>cases ry;exact PySem.EqNone.eq_none_bool (dX I q X4)
  |int j=>obtain⟨t',rfl⟩:=ry;exact PySem.EqNone.eq_none_int (dX I q X4)
  |str j=>obtain⟨t',rfl⟩:=ry;exact PySem.EqNone.eq_none_str (dX I q X4)
  |_=>exact E8 (show false=true from hs) E9
 |bl i=>
  cases rx;cases y with
  |non=>cases ry;exact PySem.EqNone.eq_bool_none (dX I q X4)
  |bl j=>cases ry;exact eq_bool (dX I q dec_bl)
  |str j=>obtain⟨t',rfl⟩:=ry;exact PySem.EqMixed.eq_bool_str (dX I q X4)
  |_=>exact E8 (show false=true from hs) E9
 |int i=>
  obtain⟨t,rfl⟩:=rx;cases y with
  |non=>cases ry;exact PySem.EqNone.eq_int_none (dX I q X4)
  |int j=>obtain⟨t',rfl⟩:=ry;exact eq_int (dX I q dec_int)
  |str j=>obtain⟨t',rfl⟩:=ry;exact PySem.EqMixed.eq_int_str (dX I q X4)
  |_=>exact E8 (show false=true from hs) E9
 |str i=>
  obtain⟨t,rfl⟩:=rx;cases y with
  |non=>cases ry;exact PySem.EqNone.eq_str_none (dX I q X4)
  |bl j=>cases ry;exact PySem.EqMixed.eq_str_bool (dX I q X4)
  |int j=>obtain⟨t',rfl⟩:=ry;exact PySem.EqMixed.eq_str_int (dX I q X4)
  |str j=>obtain⟨t',rfl⟩:=ry;exact eq_str (dX I q dec_str)
  |_=>exact E8 (show false=true from hs) E9
 |byt i=>
  obtain⟨t,rfl⟩:=rx;cases y with
  |byt j=>obtain⟨t',rfl⟩:=ry;exact PySem.W.eq_bytes (dX I q cn4)
  |_=>exact E8 (show false=true from hs) E9
 |_=>cases y<;>exact E8 (show false=true from hs) E9
theorem fc1:OpR X (compareOp .NotEq) rNe:=by
 intro ζ s O H x y v u Q I rx ry h;obtain⟨hs,q⟩:=h;cases x with
 |non=>
  cases rx;cases y with
  |non=>cases ry;exact PySem.EqNone.ne_none_none (dX I q X4)
  |bl j=>cases ry;exact PySem.EqNone.ne_none_bool (dX I q X4)
  |int j=>obtain⟨t',rfl⟩:=ry;exact PySem.EqNone.ne_none_int (dX I q X4)
  |str j=>obtain⟨t',rfl⟩:=ry;exact PySem.EqNone.ne_none_str (dX I q X4)
  |_=>exact E8 (show false=true from hs) E9
 |bl i=>
  cases rx;cases y with
  |non=>cases ry;exact PySem.EqNone.ne_bool_none (dX I q X4)
  |bl j=>cases ry;exact ne_bool (dX I q (N1 not dec_bl))
  |str j=>obtain⟨t',rfl⟩:=ry;exact PySem.EqMixed.ne_bool_str (dX I q X4)
  |_=>exact E8 (show false=true from hs) E9
 |int i=>
  obtain⟨t,rfl⟩:=rx;cases y with
  |non=>cases ry;exact PySem.EqNone.ne_int_none (dX I q X4)
  |int j=>obtain⟨t',rfl⟩:=ry;exact ne_int (dX I q (N1 not dec_int))
  |str j=>obtain⟨t',rfl⟩:=ry;exact PySem.EqMixed.ne_int_str (dX I q X4)
  |_=>exact E8 (show false=true from hs) E9
 |str i=>
  obtain⟨t,rfl⟩:=rx;cases y with
  |non=>cases ry;exact PySem.EqNone.ne_str_none (dX I q X4)
  |bl j=>cases ry;exact PySem.EqMixed.ne_str_bool (dX I q X4)
  |int j=>obtain⟨t',rfl⟩:=ry;exact PySem.EqMixed.ne_str_int (dX I q X4)
  |str j=>obtain⟨t',rfl⟩:=ry;exact ne_str (dX I q (N1 not dec_str))
  |_=>exact E8 (show false=true from hs) E9
 |byt i=>
  obtain⟨t,rfl⟩:=rx;cases y with
  |byt j=>obtain⟨t',rfl⟩:=ry;exact PySem.W.ne_bytes (dX I q (N1 not cn4))
  |_=>exact E8 (show false=true from hs) E9
 |_=>cases y<;>exact E8 (show false=true from hs) E9
def af6:OpR X (compareOp .Lt) (xX λi j=>.bl (decide (i<j))):=cm6 λ_ _ _ _ _ _ _ q=>lt_int q
def jE:OpR X (compareOp .LtE) (xX λi j=>.bl (decide (i<=j))):=cm6 λ_ _ _ _ _ _ _ q=>le_int q
def bs7:OpR X (compareOp .Gt) (xX λi j=>.bl (decide (j<i))):=cm6 λ_ _ _ _ _ _ _ q=>gt_int q
def dv7:OpR X (compareOp .GtE) (xX λi j=>.bl (decide (j<=i))):=cm6 λ_ _ _ _ _ _ _ q=>ge_int q
def dp1:OpR X (compareOp .In) (λx y H Q=>∃i j,x=.str i/\y=.str j/\Q (.bl (!(Builtin.Str.occurrences j i 0 j.length 1).isEmpty)) H):=by intro ζ s O H x y v u Q I rx ry h;refine z22 h λi j zz zy q=>?_;clear h;subst zz zy;obtain⟨t,rfl⟩:=rx;obtain⟨t',rfl⟩:=ry;exact in_str (dX I q rfl)
def ed5:OpR X (compareOp .Is) (λx y H Q=>y=.non/\Q (.bl (decide (x=.non))) H):=by
 intro ζ s O H x y v u Q I rx ry h;obtain⟨rfl,q⟩:=h;cases ry;refine is_none_gen (dX I q ?_);cases x<;>first
  |(cases rx;rfl)
  |(obtain⟨t,rfl⟩:=rx;rfl)
def sK:OpR X (compareOp .IsNot) (λx y H Q=>y=.non/\Q (.bl (!decide (x=.non))) H):=by
 intro ζ s O H x y v u Q I rx ry h;obtain⟨rfl,q⟩:=h;cases ry;refine isnot_none_gen (dX I q ?_);cases x<;>first
  |(cases rx;rfl)
  |(obtain⟨t,rfl⟩:=rx;rfl)
def OpR.or(h:OpR X f r)(h':OpR X f r'):OpR X f (λx y H Q=>r x y H Q\/r' x y H Q):=by
 intro ζ s O H x y v u Q I rx ry q;rcases q with q|q
 . exact h s O H x y v u Q I rx ry q
 . exact h' s O H x y v u Q I rx ry q
def qJ(b:Expr)(h:op≠ .In:=by decide)(h2:op≠ .NotIn:=by decide):behindInMarks op b=false:=by
 have e1:(op==CmpOp.In)=false:=by cases op<;>first|rfl|exact E8 rfl h
 have e2:(op==CmpOp.NotIn)=false:=by cases op<;>first|rfl|exact E8 rfl h2
 cases b<;>simp[behindInMarks,e1,e2]
def iS{op:CmpOp}{r:R2}(ho:OpR X (compareOp op) r)(ha:PE X a ta)(hb:PE X b tb)(hm:behindInMarks op b=false):PE X (.Compare a [op] [b] pos) (tOp r ta tb):=by intro ζ s O H Q I h;exact wpAny_Compare1 (dy2 ha hb I h λv u s2 x y H2 I2 rx ry q=>ho s2 O H2 x y v u Q I2 rx ry q) hm
def bl7(t:TE):TT:=λO H Q=>t O H λx H'=>∃k,x=.bl k/\Q k H'
def ds9(ho:OpR X (compareOp op) r)(ha:PE X a ta)(hb:PE X b tb)(hm:behindInMarks op b=false):PT X (.Compare a [op] [b] pos) (bl7 (tOp r ta tb)):=by
 intro ζ s O H Q I h;refine wpAny_isTrue_Compare1 (jI (ha s O H _ I h) λv s1 x H1 I1 r1 q1=>jI (hb s1 O H1 _ I1 q1) λu s2 y H2 I2 r2 q2=>
  jI (ho s2 O H2 x y v u _ I2 r1 r2 q2) λc s3 z H3 I3 r3 qq=>?_) hm
 obtain⟨k,e,q3⟩:=qq;subst e;cases r3;exact M4 ⟨H3,I3,q3⟩
def bl9(r r':R2)(ta tb tc:TE):TE:=λO H Q=>ta O H λx H1=>tb O H1 λy H2=>r x y H2 λz H3=>∃k,z=.bl k/\
 (if k=true then tc O H3 λw' H4=>r' y w' H4 Q else Q (.bl false) H3)
theorem am8(ho:OpR X (compareOp op) r)(ho':OpR X (compareOp op') r')(ha:PE X a ta)(hb:PE X b tb)(hc:PE X c tc)
 (hm:lastMarks [op,op'] [b,c]=false:=by with_unfolding_all rfl):PE X (.Compare a [op,op'] [b,c] pos) (bl9 r r' ta tb tc):=by
 intro ζ s O H Q I h;refine Compare_chain (jI (ha s O H _ I h) λv s1 x H1 I1 r1 q1=>chain_link (jI (hb s1 O H1 _ I1 q1) λu s2 y H2 I2 r2 q2=>
  jI (ho s2 O H2 x y v u _ I2 r1 r2 q2) λd s3 z H3 I3 r3 qq=>?_)) hm
 obtain⟨k,e,q3⟩:=qq;subst e;cases r3;refine M4 ?_;cases k with
 |false=>exact ite_ff ⟨.bl false,H3,I3,rfl,q3⟩
 |true=>exact ite_tt (chain_last (kO (hc s3 O H3 _ I3 q3) λw' s4 ⟨z',H4,I4,r4,q4⟩=>ho' s4 O H4 y z' u w' Q I4 r2 r4 q4))
theorem yB(ho:OpR X (compareOp op) r)(ho':OpR X (compareOp op') r')(ha:PE X a ta)(hb:PE X b tb)(hc:PE X c tc)
 (hm:lastMarks [op,op'] [b,c]=false:=by with_unfolding_all rfl):PT X (.Compare a [op,op'] [b,c] pos) (bl7 (bl9 r r' ta tb tc)):=by
 intro ζ s O H Q I h;refine isTrue_chain (jI (ha s O H _ I h) λv s1 x H1 I1 r1 q1=>test_link (jI (hb s1 O H1 _ I1 q1) λu s2 y H2 I2 r2 q2=>
  jI (ho s2 O H2 x y v u _ I2 r1 r2 q2) λd s3 z H3 I3 r3 qq=>?_)) hm
 obtain⟨k,e,q3⟩:=qq;subst e;cases r3;refine M4 ?_;cases k with
 |false=>obtain⟨k',e',q'⟩:=q3;cases e';exact ite_ff ⟨H3,I3,q'⟩
 |true=>refine ite_tt (test_last (kO (hc s3 O H3 _ I3 q3) λw' s4 ⟨z',H4,I4,r4,q4⟩=>kO (ho' s4 O H4 y z' u w' _ I4 r2 r4 q4) λd' s5 ⟨z2,H5,I5,r5,k2,e2,q5⟩=>?_));subst e2;cases r5;exact M4 ⟨H5,I5,q5⟩
def bh9(K:A5)(x:V)(H:Hp)(k:Bool):Prop:=
 match x with
 |.non=>k=false
 |.bl b=>k=b
 |.int i=>k=(i !=0)
 |.str y=>y.length<=sizeLine/\k=((y.length:Int) !=0)
 |.byt y=>y.size<=sizeLine/\k=((y.size:Int) !=0)
 |.ref p=>(∃xs,SqL K H p xs/\k=!xs.isEmpty)\/(∃xs,SqT K H p xs/\k=!xs.isEmpty)\/∃kvs,H p=some (.dK kvs)/\k=!kvs.isEmpty
 |_=>False
def cw6(r:KV kvs vs):(!vs.isEmpty)=!kvs.isEmpty:=by cases r<;>rfl
def bn0(r:Vals xs its):(!its.toArray.isEmpty)=!xs.isEmpty:=by cases r<;>simp
def ao1:(sizeLine:Nat)<2^63:=by rw[F8];decide
theorem ea5:fo3 X (λx H Q=>∃k,bh9 X.K x H k/\Q k H):=by
 intro ζ s O H x v Q I rx h;obtain⟨k,e,q⟩:=h;have hl:=ao1;have hs:sizeLine=16777216:=F8;cases x with
 |non=>cases rx;have e':k=false:=e;subst e';exact truthy_none ⟨H,I,q⟩
 |bl b=>cases rx;have e':k=b:=e;subst e';exact M4 ⟨H,I,q⟩
 |int i=>obtain⟨t,rfl⟩:=rx;have e':k=(i !=0):=e;subst e';exact PySem.P.truthy_int ⟨H,I,q⟩
 |str y=>obtain⟨t,rfl⟩:=rx;obtain⟨hy,e'⟩:y.length<=sizeLine/\k=((y.length:Int) !=0):=e;subst e';exact PySem.P.truthy_str W9 ⟨H,I.tok _,q⟩
 |byt y=>obtain⟨t,rfl⟩:=rx;obtain⟨hy,e'⟩:y.size<=sizeLine/\k=((y.size:Int) !=0):=e;subst e';exact PySem.W.truthy_bytes W9 ⟨H,I.tok _,q⟩
 |ref p=>
  cases rx;have e':(∃xs,SqL X.K H p xs/\k=!xs.isEmpty)\/(∃xs,SqT X.K H p xs/\k=!xs.isEmpty)\/∃kvs,H p=some (.dK kvs)/\k=!kvs.isEmpty:=e;rcases e' with⟨xs,hx,e'⟩|⟨xs,hx,e'⟩|⟨kvs,hx,e'⟩
  . subst e';refine z12 (I.list hx) λits r pl hz=>?_;have hlen:=r.length;exact wpAny_truthy_list pl.isList (by simp only[B6];omega) ⟨H,I.tok _,by rw[bn0 r];exact q⟩
  . subst e';refine z12 (I.tuple hx) λits r pl hz=>?_;have hlen:=r.length;exact truthy_tuple pl (by simp only[B6];omega) ⟨H,I.tok _,by rw[bn0 r];exact q⟩
  . subst e';obtain⟨hz,hS,vs,r,m⟩:kvs.length<=sizeLine/\(p==sysModules)=false/\∃vs,KV kvs vs/\s.heap.DictOf (bz2 X.prog X.w) p vs:=I.hok p _ hx;have hlen:kvs.length=vs.length:=Paired.length r;exact wpAny_truthy_dict hS m W9 ⟨H,I.tok _,by rw[cw6 r];exact q⟩
 |_=>exact(show False from e).elim
def da3(ha:PE X a ta)(he:∀whole,isTrue a X.env whole=(do let v<-whole;standAt a.pos;holding [v] (truthy v))):
 PT X a (λO H Q=>ta O H λx H'=>∃k,bh9 X.K x H' k/\Q k H'):=by
 intro ζ s O H Q I h;exact isTrue_plain (jI (ha s O H _ I h) λv s1 x H1 I1 r1 q1=>ea5 s1 O H1 x v Q I1 r1 q1) (he _)
def op_add_str:OpR X (binaryOp .Add) (λx y H Q=>∃i j,x=.str i/\y=.str j/\i.length+j.length<=sizeLine/\Q (.str (i++j)) H):=by intro ζ s O H x y v u Q I rx ry h;refine z23 h λi j zz zy hz q=>?_;clear h;subst zz zy;obtain⟨t,rfl⟩:=rx;obtain⟨t',rfl⟩:=ry;exact add_str (λt' tk=>⟨.str (i++j),H,I.tok _,⟨_,rfl⟩,q⟩) hz
theorem ah9(r:Vals [x] us):∃u,us=[u]/\RelV x u:=by
 cases r with
 |cons r1 r2=>cases r2;exact⟨_,rfl,r1⟩
theorem cn6(r:Vals [x,y] us):∃u w',us=[u,w']/\RelV x u/\RelV y w':=by
 cases r with
 |cons r1 r2=>
  cases r2 with
  |cons r3 r4=>cases r4;exact⟨_,_,rfl,r1,r3⟩
def de4:CallR X (.builtin "abs") (λxs H Q=>∃i,xs=[.int i]/\Q (.int (if i<0 then -i else i)) H):=by intro ζ s O H xs us Q I r h;obtain⟨i,rfl,q⟩:=h;obtain⟨u,rfl,t,rfl⟩:=ah9 r;exact call_abs_int λu tk=>⟨.int (if i<0 then -i else i),H,I.tok _,⟨_,rfl⟩,q⟩
def cq9(hc:X.calm=true):CallR X (.builtin "max") (λxs H Q=>∃i j,xs=[.int i,.int j]/\Q (.int (if j>i then j else i)) H):=by
 intro ζ s O H xs us Q I r h;refine z21 h λi j zz q=>?_;clear h;subst zz;obtain⟨u,w',rfl,⟨t,rfl⟩,⟨t',rfl⟩⟩:=cn6 r;refine max_two_ints (I.ok.hd hc) λh' tk k=>⟨_,H,I.kept k,?_,q⟩;by_cases hj:j>i
 . rw[E3 hj,E3 hj];exact⟨_,rfl⟩
 . rw[D7 hj,D7 hj];exact⟨_,rfl⟩
def df1(hc:X.calm=true):CallR X (.builtin "min") (λxs H Q=>∃i j,xs=[.int i,.int j]/\Q (.int (if j<i then j else i)) H):=by
 intro ζ s O H xs us Q I r h;refine z21 h λi j zz q=>?_;clear h;subst zz;obtain⟨u,w',rfl,⟨t,rfl⟩,⟨t',rfl⟩⟩:=cn6 r;refine min_two_ints (I.ok.hd hc) λh' tk k=>⟨_,H,I.kept k,?_,q⟩;by_cases hj:j<i
 . rw[E3 hj,E3 hj];exact⟨_,rfl⟩
 . rw[D7 hj,D7 hj];exact⟨_,rfl⟩
def bn8:CallR X (.type "str") (λxs H Q=>∃i,xs=[.int i]/\i.natAbs.log2<1920/\Q (.str (toString i)) H):=by intro ζ s O H xs us Q I r h;refine z12 h λi zz hz q=>?_;clear h;subst zz;obtain⟨u,rfl,t,rfl⟩:=ah9 r;exact PySem.P.str_of_int hz ⟨.str _,H,I.tok _,⟨_,rfl⟩,q⟩
def ea4(K:A5)(x:V)(H:Hp)(n:Nat):Prop:=
 match x with
 |.str y=>y.length<=sizeLine/\n=y.length
 |.byt y=>y.size<=sizeLine/\n=y.size
 |.ref p=>(∃xs,SqL K H p xs/\n=xs.length)\/∃xs,SqT K H p xs/\n=xs.length
 |_=>False
theorem dt3:CallR X (.builtin "len") (λxs H Q=>∃x n,xs=[x]/\ea4 X.K x H n/\Q (.int n) H):=by
 intro ζ s O H xs us Q I r h;refine z22 h λx n zz e q=>?_;clear h;subst zz;obtain⟨u,rfl,rx⟩:=ah9 r;have hl:=ao1;have hs:sizeLine=16777216:=F8;cases x with
 |str y=>obtain⟨t,rfl⟩:=rx;obtain⟨hy,e'⟩:y.length<=sizeLine/\n=y.length:=e;subst e';exact len_str W9 ⟨.int _,H,I.tok _,⟨_,rfl⟩,q⟩
 |byt y=>obtain⟨t,rfl⟩:=rx;obtain⟨hy,e'⟩:y.size<=sizeLine/\n=y.size:=e;subst e';exact PySem.W.len_bytes W9 ⟨.int _,H,I.tok _,⟨_,rfl⟩,q⟩
 |ref p=>
  cases rx;have e':(∃xs,SqL X.K H p xs/\n=xs.length)\/∃xs,SqT X.K H p xs/\n=xs.length:=e;rcases e' with⟨xs,hx,e'⟩|⟨xs,hx,e'⟩
  . subst e';refine z12 (I.list hx) λits r' pl hz=>?_;have hlen:=r'.length;exact Calls.call_len_list pl.isList (by simp only[B6];omega) ⟨.int xs.length,H,I.tok _,⟨_,by simp only[B6];rw[hlen]⟩,q⟩
  . subst e';refine z12 (I.tuple hx) λits r' pl hz=>?_;have hlen:=r'.length;exact len_tuple pl (by simp only[B6];omega) ⟨.int xs.length,H,I.tok _,⟨_,by simp only[B6];rw[hlen]⟩,q⟩
 |_=>exact(show False from e).elim
def cz2:CallR X (.builtin "divmod") (λxs H Q=>∃i j,xs=[.int i,.int j]/\ag0 i j/\∀p,H p=none->Q (.ref p) (upd H p (.tup [.int (i/j),.int (i%j)]))):=by intro ζ s O H xs us Q I r h;obtain⟨i,j,rfl,⟨h1,h2⟩,q⟩:=h;obtain⟨u,w',rfl,⟨t,rfl⟩,⟨t',rfl⟩⟩:=cn6 r;refine divmod_int W9 ?_ (.inl (PyProof.noPylong_small W9));rw[Int.fdiv_eq_ediv_of_nonneg i W9,Int.fmod_eq_emod_of_nonneg i W9];have hn:H s.heap.objs.size=none:=I.hok.fresh (C9 _);refine⟨.ref s.heap.objs.size,_,?_,rfl,q _ hn⟩;refine I.laid (λb o e=>B0 _ e) (C9 _) ⟨by simp only[List.length_cons,List.length_nil];rw[F8];decide,[.int (i/j) s.toks,.int (i%j) (s.toks+1)],.cons ⟨_,rfl⟩ (.cons ⟨_,rfl⟩ .nil),?_⟩;exact⟨_,D6 s.heap rfl,rfl,0,rfl⟩
end
structure ObjM (h:Heap) (x dx C:Addr) (mA:ac):Prop where
 obj:h.get? x=some (PySem.W.instObj C dx)
 ns:h.Ns1 dx mA
 ne:dx≠x
def dm1{h:Heap}{dx:Addr}{mA:ac}(n:h.Ns1 dx mA):∃od,h.get? dx=some od/\∀name,PySem.W.lookIn name od=some (mA name):=by
 refine z34 n λo es ep ho hd hk _ hm=>?_;refine⟨o,ho,λname=>?_⟩;have e:=hm name;unfold nsFind findBy at e;rw[<-Array.find?_toList]at e;unfold PySem.W.lookIn;rw[hd];dsimp only;split
 . rename_i y q;rw[q]at e;exact N1 some e
 . rename_i q;rw[q]at e;have a:es.toList.any (·.refKey)=false:=by rw[List.any_eq_false];intro y hy;obtain⟨z,t,hkey⟩:=hk y (Array.mem_toList_iff.mp hy);simp[DictEntry.refKey,hkey]
   have a':¬es.toList.any (·.refKey)=true:=by rw[a];exact E9
   rw[D7 a'];exact N1 some e
def ObjM.look(I:ObjM h x dx C mA):∃od,PySem.W.InstAt h x (PySem.W.instObj C dx) C (some od)/\∀name,PySem.W.lookIn name od=some (mA name):=
 let⟨od,ho,hl⟩:=dm1 I.ns
 ⟨od,⟨I.obj,rfl,rfl,ho⟩,hl⟩
section
variable{prog:G1}{w:World}{A:J0}{E:af}{s:B8}{K:A5}{x dx C f:Addr}{mA:ac}{name:Str}{v:Value}
def ew2(X:K.In s.heap)(I:ObjM s.heap x dx C mA)(hg:PySem.W.plainGet K C name=true)(hh:PySem.W.hasDictIn K C=true)
 (ha:PySem.W.findIn K (.ref C) name=some none)(hv:mA name=some v)(hv':PySem.W.handedIn v=true)(h:Q v {s with toks:=s.toks+1}):
 wpAny (model prog w) A (getAttr (.ref x) name expr) Q E s:=by
 obtain⟨od,J,hl⟩:=I.look;exact PySem.W.get_value X J (PySem.W.plainGet_of hg).1 (PySem.W.findObj_own hh ha rfl (by rw[hl,hv])) hv' h
def do2(X:K.In s.heap)(I:ObjM s.heap x dx C mA)(hg:PySem.W.plainGet K C name=true)
 (hf:PySem.W.findIn K (.ref C) name=some (some (.ref f)))(ht:PySem.W.isFn K (.ref f)=true)(hv:mA name=none)(h:Q (.ref f,[.ref x]) s):
 wpAny (model prog w) A (getMethod (.ref x) name pl) Q E s:=by
 obtain⟨od,J,hl⟩:=I.look;exact PySem.W.method_fn X J (PySem.W.plainGet_of hg).1 (PySem.W.plainGet_of hg).2 hf (S5.mp ht) (by show(PySem.W.lookIn name od).map (·.isSome)=some false;rw[hl,hv];rfl) h
def dx9(X:K.In s.heap)(I:ObjM s.heap x dx C mA)
 (hs:PySem.W.findIn K (.ref C) "__setattr__"=some (some (.builtin "object.__setattr__")))(hp:PySem.W.plainOver K C=true)(ht:PySem.W.takerIn K C name=some none)(hh:PySem.W.hasDictIn K C=true)
 (hw:PySem.Within mA ns)(hsz:ns.length<=sizeLine)
 (h:∀h',ObjM h' x dx C (λy=>if y=name then some v else mA y)->Heap.SameBut dx s.heap h'->Q () {s with heap:=h',toks:=s.toks+2}):
 wpAny (model prog w) A (setAttr (.ref x) name v) Q E s:=by
 obtain⟨od,J,hl⟩:=I.look;refine PySem.W.set_plain X J hs (PySem.W.osa_open (s:={s with toks:=s.toks+1}) (r:=none) X J hp ht λb=>?_);obtain⟨cd,hc,hd'⟩:=PySem.W.any_some hh;have hx:s.heap.get? x=some ⟨.ref C,some dx,.plain,#[]⟩:=I.obj;refine A7 (B9 (A7 (A7 (wpAny_loadPart hx (A7 (PySem.W.Looks.here (s:={s with toks:=s.toks+1}) (PySem.W.looks_clsIn X hc) ?_))))));rw[hd'];refine B9 (a:=some dx) (A7 (B9 (A7 ?_)));refine wpAny_nsSet1 (s:={s with toks:=s.toks+1}) I.ns λh' hn2 hs2=>?_;refine z32 (hn2.count (PySem.Within.cons name v hw)) λoD esD epD hoD hdD hcD=>?_;refine A7 (wpAny_lookBehind hoD (by rw[hdD];exact pastItsLine_dict (K1 hcD (by rw[G5];omega))) ?_);exact B9 (h _ ⟨(hs2.2 _ (N6 I.ne)).trans I.obj,hn2,I.ne⟩ hs2)
def dl5(X:K.In s.heap)(hm:PySem.W.makesIn K C=true)
 (hi:PySem.W.findIn K (.ref C) "__init__"=some (some (.ref f)))(hf:PySem.W.typeIn K (.ref f)=some (.type "function"))
 (h:codeAny (model prog w) (A.under (.builtin "type.__call__" ⟨.ref C::vs,kw⟩)) (.call (.ref f) ⟨.ref (s.heap.objs.size+1)::vs,kw⟩) (PySem.W.InitBack (s.heap.objs.size+1) R)
  {s with heap:=(s.heap.push PySem.W.emptyDict).push (PySem.W.instObj C s.heap.objs.size)}):
 codeAny (model prog w) A (.call (.ref C) ⟨vs,kw⟩) R s:=by
 obtain⟨hh,g,d,t,os⟩:=s;exact PySem.W.make_core (PySem.W.makes_of X hm) (PySem.W.looks_findIn X hi) (λself=>PySem.W.bind_fn X self hf) (.inl rfl) h
end
def mK(f:Str)(v:V):List (Str×V)->List (Str×V)
 |[]=>[(f,v)]
 |(g,x)::r=>if g=f then(g,v)::r else(g,x)::mK f v r
theorem ax6(f g:Str)(v:V):∀fs:List (Str×V),(mK f v fs).lookup g=if g=f then some v else fs.lookup g
 |[]=>by
  show List.lookup g [(f,v)]=_;by_cases h:g=f
  . have hb:(g==f)=true:=S5.mpr h;simp only[List.lookup,hb,E3 h]
  . have hb:(g==f)=false:=K2.mpr h;simp only[List.lookup,hb,D7 h]
 |(k,x)::r=>by
  have ih:=ax6 f g v r;rw[show mK f v ((k,x)::r)=(if k=f then(k,v)::r else(k,x)::mK f v r) from rfl];by_cases hk:k=f
  . rw[E3 hk];by_cases h:g=k
    . have hb:(g==k)=true:=S5.mpr h;simp only[List.lookup,hb,E3 (h.trans hk)]
    . have hb:(g==k)=false:=K2.mpr h;simp only[List.lookup,hb,D7 (λe:g=f=>h (e.trans hk.symm))]
  . rw[D7 hk];by_cases h:g=k
    . have hb:(g==k)=true:=S5.mpr h;simp only[List.lookup,hb,D7 (λe:g=f=>hk (h.symm.trans e))]
    . have hb:(g==k)=false:=K2.mpr h;simp only[List.lookup,hb];exact ih
theorem an4(f:Str)(v:V):∀fs:List (Str×V),f∈(mK f v fs).map (·.1)/\∀g,g∈fs.map (·.1)->g∈(mK f v fs).map (·.1)
 |[]=>⟨by simp[mK],λg h=>by simp at h⟩
 |(k,x)::r=>by
  obtain⟨i1,i2⟩:=an4 f v r;rw[show mK f v ((k,x)::r)=(if k=f then(k,v)::r else(k,x)::mK f v r) from rfl];by_cases hk:k=f
  . rw[E3 hk];subst hk;exact⟨X4,λg h=>by simpa using h⟩
  . rw[D7 hk];refine⟨?_,λg h=>?_⟩
    . rw[C7];exact B5 _ i1
    . rw[C7]at h⊢;rcases C4.mp h with e|e
      . exact C4.mpr (.inl e)
      . exact B5 _ (i2 g e)
theorem ai7(f:Str)(v:V):∀fs:List (Str×V),(mK f v fs).length<=fs.length+1
 |[]=>by simp[mK]
 |(k,x)::r=>by
  have ih:=ai7 f v r;rw[show mK f v ((k,x)::r)=(if k=f then(k,v)::r else(k,x)::mK f v r) from rfl];by_cases hk:k=f
  . rw[E3 hk,G5,G5];omega
  . rw[D7 hk,G5,G5];omega
theorem RelO.some_of(r:RelO (some v) o):∃u,o=some u/\RelV v u:=by
 cases o with
 |none=>exact(show False from r).elim
 |some u=>exact⟨u,rfl,r⟩
theorem RelO.none_of(r:RelO none o):o=none:=by
 cases o with
 |none=>rfl
 |some u=>exact(show False from r).elim
theorem de1(r:RelV v u):PySem.W.handedIn u=true:=by
 cases v with
 |non=>cases(show u=Value.none from r);rfl
 |bl b=>cases(show u=Value.bool b from r);rfl
 |int i=>obtain⟨t,e⟩:=(show∃t,u=Value.int i t from r);cases e;rfl
 |str x=>obtain⟨t,e⟩:=(show∃t,u=Value.str x t from r);cases e;rfl
 |byt b=>obtain⟨t,e⟩:=(show∃t,u=Value.bytes b t from r);cases e;rfl
 |flt b=>obtain⟨t,e⟩:=(show∃t,u=Value.float b t from r);cases e;rfl
 |ref a=>cases(show u=Value.ref a from r);rfl
 |ty n=>cases(show u=Value.type n from r);rfl
section
variable{P:G1}{w:World}{H H':Hp}{h h':Heap}{a C dx:Addr}{fs fs':List (Str × V)}
def bl3(hok:HOk P w H h)(e:H a=some (.ins C dx fs)):∃mA,ObjM h a dx C mA/\(∀f,RelO (fs.lookup f) (mA f))/\PySem.Within mA (fs.map (·.1))/\fs.length<=1000/\H dx=some (.own a):=by obtain⟨d,z,ne,ob,mA,n,r,q⟩:=(show ObjOk P w H h a (.ins C dx fs) from hok a _ e);exact⟨mA,⟨ob,n,ne⟩,r,q,z,d⟩
end
structure Cls (K:A5) (C:Addr):Prop where
 pg:PySem.W.plainGet K C Str.empty=true
 hd:PySem.W.hasDictIn K C=true
 po:PySem.W.plainOver K C=true
 sa:PySem.W.findIn K (.ref C) "__setattr__"=some (some (.builtin "object.__setattr__"))
def Cls.get{K:A5}{C:Addr}(c:Cls K C)(f:Str):PySem.W.plainGet K C f=true:=c.pg
def NoAttr(K:A5)(C:Addr)(f:Str):Prop:=PySem.W.findIn K (.ref C) f=some none
def NoAttr.taker{K:A5}{C:Addr}{f:Str}(n:NoAttr K C f):PySem.W.takerIn K C f=some none:=by unfold PySem.W.takerIn;rw[show PySem.W.findIn K (.ref C) f=some none from n];rfl
structure dd3 (K:A5) (C:Addr) (m:Str) (f:Addr):Prop where
 at_:PySem.W.findIn K (.ref C) m=some (some (.ref f))
 fn:PySem.W.isFn K (.ref f)=true
 kp:PySem.W.keepIn K (.ref f)=true
section
variable{X:Cx}{ζ:ad}{O:St}{H:Hp}{s:B8}{a C dx:Addr}{fs:List (Str × V)}{f:Str}{v:V}{A:J0}{E:af}
def ce6(I:Inv X ζ O H s)(e:H a=some (.ins C dx fs))(c:Cls X.K C)(n:NoAttr X.K C f)(l:fs.lookup f=some v)
 (h:∀u s',Inv X ζ O H s'->RelV v u->Q u s'):wpAny (model X.prog X.w) A (getAttr (.ref a) f b) Q E s:=by
 refine z14 (bl3 I.hok e) λmA am7q r _ _ _=>?_;obtain⟨u,hu,ru⟩:=RelO.some_of (v:=v) (o:=mA f) (by rw[<-l];exact r f);exact ew2 I.kIn am7q (c.get f) c.hd n hu (de1 ru) (h u _ (I.tok _) ru)
def au9(I:Inv X ζ O H s)(e:H a=some (.ins C dx fs))(c:Cls X.K C)(k:dd3 X.K C m g)(l:fs.lookup m=none)
 (h:Q (.ref g,[.ref a]) s):wpAny (model X.prog X.w) A (getMethod (.ref a) m pl) Q E s:=by
 refine z14 (bl3 I.hok e) λmA am7q r _ _ _=>?_;have hn:mA m=none:=RelO.none_of (by rw[<-l];exact r m);exact do2 I.kIn am7q (c.get m) k.at_ k.fn hn h
def cp5(I:Inv X ζ O H s)(e:H a=some (.ins C dx fs))(c:Cls X.K C)(n:NoAttr X.K C f)(hl:fs.length<1000)(ry:RelV y u)
 (h:∀s',Inv X ζ O (upd H a (.ins C dx (mK f y fs))) s'->Q () s'):wpAny (model X.prog X.w) A (setAttr (.ref a) f u) Q E s:=by
 refine z14 (bl3 I.hok e) λmA am7q r wi _ ho=>?_;have hz:(fs.map (·.1)).length<=sizeLine:=by rw[C3,F8];omega
 refine dx9 I.kIn am7q c.sa c.po n.taker c.hd wi hz λh' O' sb=>h _ ?_;have hd:∃o,h'.get? dx=some o:=let⟨o,_,_,e',_⟩:=O'.ns;⟨o,e'⟩
 refine I.write (x:=a) (e:=dx) (by rw[e];exact True.intro) (.inr ho) (λb q hb z=>(sb.2 b hb).trans z) hd ?_;refine⟨by rw[dJ am7q.ne];exact ho,?_,am7q.ne,O'.obj,_,O'.ns,λg=>?_,λg hg=>?_⟩
 . have:=ai7 f y fs;omega
 . show RelO ((mK f y fs).lookup g) (if g=f then some u else mA g);rw[ax6];by_cases q:g=f
   . rw[E3 q,E3 q];exact ry
   . rw[D7 q,D7 q];exact r g
 . by_cases q:g=f
   . rw[q];exact(an4 f y fs).1
   . refine(an4 f y fs).2 g (wi g λz=>hg ?_);show(if g=f then some u else mA g)=none;rw[D7 q];exact z
def Inv.made(I:Inv X ζ O H s):Inv X ζ O (upd (upd H s.heap.objs.size (.own (s.heap.objs.size+1))) (s.heap.objs.size+1) (.ins C s.heap.objs.size []))
 {s with heap:=(s.heap.push PySem.W.emptyDict).push (PySem.W.instObj C s.heap.objs.size)}:=by
 have e1:(s.heap.push PySem.W.emptyDict).get? s.heap.objs.size=some PySem.W.emptyDict:=D6 s.heap rfl;have e2:((s.heap.push PySem.W.emptyDict).push (PySem.W.instObj C s.heap.objs.size)).get? (s.heap.objs.size+1)=some (PySem.W.instObj C s.heap.objs.size):=by have:=D6 (s.heap.push PySem.W.emptyDict) (o:=PySem.W.instObj C s.heap.objs.size) rfl;rwa[L4]at this
 have e3:(s.heap.push PySem.W.emptyDict).Ns s.heap.objs.size (λ_=>none):=⟨PySem.W.emptyDict,#[],_,e1,rfl,(λe he=>E8 he X4),λ_=>rfl⟩;have I1:=I.laid (a:=s.heap.objs.size) (o:=.own (s.heap.objs.size+1)) (h':=s.heap.push PySem.W.emptyDict) (t':=s.toks) (λb u q=>B0 _ q) (C9 _) ⟨_,e1⟩;refine I1.laid (a:=s.heap.objs.size+1) (o:=.ins C s.heap.objs.size []) (t':=s.toks) (λb u q=>B0 _ q) (Nat.le_of_eq (L4 _ _)) ?_;have ne:s.heap.objs.size≠s.heap.objs.size+1:=G2 (Q7 _);refine⟨by rw[dJ ne,gC],R7 _,ne,e2,λ_=>none,(Heap.Ns1.of_empty e3).at λo q=>B0 _ q,λ_=>True.intro,λy hy=>E8 rfl hy⟩
def dv8(hb:attributeBase e f env (eval e env)=eval e env)
 (h:wpAny (model prog w) A (eval e env) (λo s₁=>wpAny (model prog w) A (getAttr o f true) Q E s₁) E s):wpAny (model prog w) A (eval (.Attribute e f pos) env) Q E s:=
 Attribute_any_ h (by rw[arm_eval_Attribute,hb])
end
def dg6(K:A5)(ta:TE)(f:Str):TE:=λO H Q=>ta O H λx H1=>∃a C dx fs v,x=.ref a/\H1 a=some (.ins C dx fs)/\Cls K C/\NoAttr K C f/\fs.lookup f=some v/\Q v H1
def dc2(K:A5)(ta tv:TE)(f:Str):TS:=λD O H=>tv O H λy H1=>ta O H1 λx H2=>∃a C dx fs,x=.ref a/\H2 a=some (.ins C dx fs)/\Cls K C/\NoAttr K C f/\fs.length<1000/\
 D.nx O (upd H2 a (.ins C dx (mK f y fs)))
section
variable{X:Cx}{o e value:Expr}{f:Str}{pos pos' tpos:Pos}{ta tv:TE}
def ed6(he:PE X e ta)(hb:attributeBase e f X.env (eval e X.env)=eval e X.env):PE X (.Attribute e f pos) (dg6 X.K ta f):=by intro ζ s O H Q I h;refine dv8 hb (jI (he s O H _ I h) λu s1 x H1 I1 rx qq=>?_);refine z55 qq λa C dx fs v ex ea c n l q=>?_;subst ex;obtain rfl:u=Value.ref a:=rx;exact ce6 I1 ea c n l λu' s2 I2 ru=>⟨v,H1,I2,ru,q⟩
def eq7(ha:PE X o ta)(hv:PE X value tv)(hs:swapsWith value (some (.Attribute o f pos')) pos.line X.env=pure false):PS X (.Assign [.Attribute o f pos'] value pos) (dc2 X.K ta tv f):=by intro ζ s O H D I h;refine plainObj_wpAny_Assign_Attribute (jI (hv s O H _ I h) λu s1 y H1 I1 ry q=>jI (ha s1 O H1 _ I1 q) λov s2 x H2 I2 rx qq=>?_) hs;refine z45 qq λa C dx fs ex ea c n l q2=>?_;subst ex;obtain rfl:ov=Value.ref a:=rx;exact cp5 I2 ea c n l ry λs3 I3=>⟨O,_,I3,q2⟩
end
section
variable{X:Cx}{ζ:ad}{O:St}{H:Hp}{s:B8}{A:J0}{E:af}{Q:af}{c:Value}{b:Bool}
end
structure Room (k:Nat) (A:J0):Prop where
 hd:A.handled=none
 dp:A.depth+3*k+5<recursionLimit
 un:A.units+16*k+200<cLine
def Room.mono(r:Room k A)(h:j<=k):Room j A:=⟨r.hd,by have:=r.dp;omega,by have:=r.un;omega⟩
theorem Room.deeper(r:Room (k+1) A)(env:Env):Room k (A.deeper env):=
 ⟨r.hd,by have:=r.dp;show A.depth+1+3*k+5<_;omega,by have:=r.un;show A.units+3+16*k+200<_;omega⟩
def cv6{A:J0}{C:Addr}{us:ao}{kw:ay}:(A.under (.builtin "type.__call__" ⟨.ref C::us,kw⟩)).depth=A.depth+1:=by first|rfl|simp[Around.under,Code.weight,Code.isCreation,Code.isGuard,Code.isCaller,Code.frames,Code.isFrame,guardIds]
def cj6{A:J0}{C:Addr}{us:ao}{kw:ay}:(A.under (.builtin "type.__call__" ⟨.ref C::us,kw⟩)).units=A.units+1:=by first|rfl|simp[Around.under,Code.cUnits,Code.frames,Code.isFrame]
def Room.make(r:Room (k+1) A)(C:Addr)(us:ao)(kw:ay):Room k (A.under (.builtin "type.__call__" ⟨.ref C::us,kw⟩)):=
 ⟨r.hd,by have:=r.dp;rw[cv6];omega,by have:=r.un;rw[cj6];omega⟩
theorem Room.depth(r:Room k A):A.depth<recursionLimit:=by have:=r.dp;omega
theorem Room.units(r:Room k A):A.units+64<cLine:=by have:=r.un;omega
def al8:TA:=λ_ H Q=>Q [] H
def xJ(ta:TE)(tr:TA):TA:=λO H Q=>ta O H λx H1=>tr O H1 λxs H2=>Q (x::xs) H2
section
variable{X:Cx}{e:Expr}{es:bj}{te:TE}{t:TA}{pos:Pos}
def oP:PA X [] al8:=λ_ _ _ _ H Q I h=>Calls.spliced_nil ⟨[],H,I,.nil,h⟩
def aF(ha:PE X e te)(hr:PA X es t)(hs:starEach (e::es) X.env=(false,eval e X.env)::starEach es X.env:=by rfl):PA X (e::es) (xJ te t):=by intro pos ζ s O H Q I h;rw[hs];show wpAny _ _ (spliced ((false,eval e X.env)::backTo pos (starEach es X.env))) _ _ s;refine Calls.spliced_cons (jI (ha s O H _ I h) λu s1 x H1 I1 r1 q1=>?_);exact wM (hr ζ s1 O H1 _ I1 q1) λus s2 xs H2 I2 r2 q2=>⟨x::xs,H2,I2,.cons r1 r2,q2⟩
def ei3(t:TA):TE:=λO H Q=>t O H λxs H1=>xs.length<=sizeLine/\∀p,H1 p=none->Q (.ref p) (upd H1 p (.tup xs))
def ex4(t:TA):TE:=λO H Q=>t O H λxs H1=>xs.length<=sizeLine/\∀p,H1 p=none->Q (.ref p) (upd H1 p (.lst xs))
def cH{x1}(h:PA X es t):PE X (.Tuple es x1 pos) (ei3 t):=by intro ζ s O H Q I hq;refine wpAny_Tuple_spliced (wM (h ζ s O H _ I hq) λus s1 xs H1 I1 r ⟨z,q⟩=>⟨by rw[<-r.length];exact z,?_⟩);have hf:H1 s1.heap.objs.size=none:=I1.hok.fresh (C9 _);refine⟨.ref s1.heap.objs.size,upd H1 s1.heap.objs.size (.tup xs),I1.laid (t':=s1.toks) (λb u e=>B0 _ e) (C9 _) ?_,rfl,q _ hf⟩;exact⟨z,us,r,⟨_,D6 _ rfl,rfl,_,rfl⟩⟩
def cW(h:PA X es t):PE X (.List es pos) (ex4 t):=by intro ζ s O H Q I hq;refine wpAny_List_spliced (wM (h ζ s O H _ I hq) λus s1 xs H1 I1 r ⟨z,q⟩=>⟨by rw[<-r.length];exact z,?_⟩);have hf:H1 s1.heap.objs.size=none:=I1.hok.fresh (C9 _);refine⟨.ref s1.heap.objs.size,upd H1 s1.heap.objs.size (.lst xs),I1.laid (t':=s1.toks) (λb u e=>B0 _ e) (C9 _) ?_,rfl,q _ hf⟩;exact⟨z,us,0,r,D6 _ rfl⟩
end
abbrev Sp:=List V->Hp->VK->XK->Prop
abbrev CXT:=List Env->Hp->B8->XK->Value->B8->Prop
structure Env0 (P:G1) (w:World) (K:A5) (mg:ac) (base:Heap) (A:J0) (outer:bm) (s:B8) (H:Hp):Prop where
 frames:A.frames=some outer
 mod:Mod K mg base
 bs:∀b o,base.get? b=some o->s.heap.get? b=some o/\H b=none
 bsz:base.objs.size<=s.heap.objs.size
 funs:s.heap.FunFrames base outer
 frf:∀b∈frs outer,H b=none
 hok:HOk P w H s.heap
 bare:AllBare s.gens
def CE(outer:bm)(P:G1)(w:World)(H:Hp)(s:B8)(Q:VK)(u:Value)(s':B8):Prop:=
 ∃v H',s'.os=s.os/\AllBare s'.gens/\Un (frs outer) [] H H' s.heap s'.heap/\HOk P w H' s'.heap/\RelV v u/\Q v H'
def CR(CX:CXT)(outer:bm)(P:G1)(w:World)(H:Hp)(s:B8)(Q:VK)(E:XK)(r:Result)(s':B8):Prop:=
 match r with
 |.ok (.ret u)=>CE outer P w H s Q u s'
 |.ok _=>False
 |.error e=>CX outer H s E e s'
structure FnOk (P:G1) (w:World) (K:A5) (mg:ac) (base:Heap) (CX:CXT) (k:Nat) (f:Addr) (fd:FuncData) (ps:ax) (sp:Sp):Prop where
 len:∀vs H Q E,sp vs H Q E->vs.length=ps.length
 run:∀(A:J0)(outer:bm)(s:B8)(H:Hp)(args:Args)(us:ao)(vs:a_)(Q:VK)(E:XK),Room k A->Env0 P w K mg base A outer s H->BindsTo s fd args (ps.zip us)->Vals vs us->sp vs H Q E->
  codeAny (model P w) A (.call (.ref f) args) (CR CX outer P w H s Q E) s
theorem FnOk.mono{P:G1}{w:World}{K:A5}{mg:ac}{base:Heap}{CX:CXT}{j k:Nat}{f:Addr}{fd:FuncData}{ps:ax}{sp:Sp}(F:FnOk P w K mg base CX j f fd ps sp)(h:j<=k):
 FnOk P w K mg base CX k f fd ps sp:=⟨F.len,λA outer s H args us vs Q E hr=>F.run A outer s H args us vs Q E (hr.mono h)⟩
def FnOk.imp{P:G1}{w:World}{K:A5}{mg:ac}{base:Heap}{CX:CXT}{k:Nat}{f:Addr}{fd:FuncData}{ps:ax}{sp sp':Sp}(F:FnOk P w K mg base CX k f fd ps sp)
 (h:∀vs H Q E,sp' vs H Q E->sp vs H Q E):FnOk P w K mg base CX k f fd ps sp':=
 ⟨λvs H Q E q=>F.len vs H Q E (h _ _ _ _ q),λA outer s H args us vs Q E hr he hb hv hs=>F.run A outer s H args us vs Q E hr he hb hv (h _ _ _ _ hs)⟩
def Env0.make{P:G1}{w:World}{K:A5}{mg:ac}{base:Heap}{A:J0}{outer:bm}{s:B8}{H:Hp}(e:Env0 P w K mg base A outer s H)(C:Addr)(us:ao)(kw:ay):
 Env0 P w K mg base (A.under (.builtin "type.__call__" ⟨.ref C::us,kw⟩)) outer s H:=⟨by first|exact e.frames|(simpa[Around.under,Code.envs,Code.isFrame,pushEnvs]using e.frames),e.mod,e.bs,e.bsz,e.funs,e.frf,e.hok,e.bare⟩
section
variable{X:Cx}{ζ:ad}{O:St}{H:Hp}{s s':B8}
def Inv.env0(I:Inv X ζ O H s):Env0 X.prog X.w X.K X.mg X.base X.A X.stack s H:=
 ⟨I.ok.frames,I.ok.mod,I.bs,K1 I.ok.bsz I.sz,I.stack,I.stkFree,I.hok,I.bare⟩
def Inv.after(I:Inv X ζ O H s)(h:CE X.stack X.prog X.w H s Q u s'):EP X ζ O Q u s':=by refine z25 h λv H' os bare un hok r q=>?_;obtain⟨hh,g,d,t,os'⟩:=s';obtain rfl:os'=s.os:=os;exact⟨v,H',I.call (h':=hh) (g':=g) (d':=d) (t':=t) (ch:=[]) un hok bare (λb z=>E8 z X4),r,q⟩
end
def fs1(sp:Sp)(dvs:a_)(E:XK)(t:TA):TE:=λO H Q=>t O H λvs H1=>sp (vs++dvs) H1 Q E
def cp6(C:Addr)(sp:Sp)(dvs:a_)(E:XK)(t:TA):TE:=λO H Q=>t O H λvs H1=>∀x dx,H1 x=none->H1 dx=none->dx≠x->
 sp (.ref x::(vs++dvs)) (upd (upd H1 dx (.own x)) x (.ins C dx [])) (λv H2=>v=.non/\Q (.ref x) H2) E
def Binds(K:A5)(fd:FuncData)(ps:ax)(ds:ao):Prop:=
 ∀(s:B8)(us:ao),K.In s.heap->(us++ds).length=ps.length->BindsTo s fd ⟨us,[]⟩ (ps.zip (us++ds))
def Binds.all{K:A5}{fd:FuncData}{ps:ax}(h:∀us:List Value,us.length=ps.length->bindArgs fd ⟨us,[]⟩=pure (ps.zip us)):Binds K fd ps []:=λs us _ hl=>by rw[K8]at hl⊢;exact .of_eq (h us hl)
def ae5(CX:CXT)(X:Cx)(E:XK):Prop:=∀(ζ:ad)(O:St)(H:Hp)(s:B8)(e:Value)(s':B8),Inv X ζ O H s->CX X.stack H s E e s'->X.xe e s'
section
variable{X:Cx}{CX:CXT}{k:Nat}{f C:Addr}{fd:FuncData}{ps:ax}{sp:Sp}{dvs:a_}{ds:ao}{E:XK}{x m:Str}{p pos apos:Pos}{e o:Expr}{es:bj}{ta:TE}{t:TA}
theorem bo0(F:FnOk X.prog X.w X.K X.mg X.base CX k f fd ps sp)(hr:Room k X.A)(hb:Binds X.K fd ps ds)(hd:Vals dvs ds)(hx:ae5 CX X E)
 (I:Inv X ζ O H s)(r:Vals vs us)(h:sp (vs++dvs) H Q E):wpAny (model X.prog X.w) X.A (call (.ref f) us) (EP X ζ O Q) X.xe s:=by
 have r2:Vals (vs++dvs) (us++ds):=r.append hd;have hl:(us++ds).length=ps.length:=by rw[<-r2.length];exact F.len _ _ _ _ h
 refine wpAny_call (S8 (F.run X.A X.stack s H ⟨us,[]⟩ (us++ds) (vs++dvs) Q E hr I.env0 (hb s us I.kIn hl) r2 h) λr s' hq=>?_);cases r with
 |error e=>exact hx ζ O H s e s' I hq
 |ok fl=>
  cases fl with
  |ret u=>exact I.after hq
  |_=>exact False.elim hq
def ec0(F:FnOk X.prog X.w X.K X.mg X.base CX k f fd ps sp)(hr:Room k X.A)(hg:Gl X x)(hm:X.mg x=some (.ref f))(hk:PySem.W.keepIn X.K (.ref f)=true)(hb:Binds X.K fd ps ds)(hd:Vals dvs ds)(hx:ae5 CX X E)
 (ha:PA X (e::es) t)(hdb:(x==("__debug__":Str))=false:=by decide)(he:starEach (e::es) X.env=(false,eval e X.env)::starEach es X.env:=by rfl)(hpl:(backTo pos (starEach es X.env)).any (·.1)=false:=by rfl):
 PE X (.Call (.Name x p) (e::es) [] pos) (fs1 sp dvs E t):=by
 intro ζ s O H Q I h;refine N5 (aw1 I hg hm ?_ hdb);refine U3 (h₀:=X.base) I.ok.mod.kin hk (wM (ha ζ s O H _ I h) λus s1 vs H1 I1 r q=>⟨I1.kIn,?_⟩) he hpl;exact bo0 F hr hb hd hx I1 r q
structure Mk (K:A5) (C f:Addr):Prop where
 makes:PySem.W.makesIn K C=true
 init:PySem.W.findIn K (.ref C) "__init__"=some (some (.ref f))
 fn:PySem.W.isFn K (.ref f)=true
 kp:PySem.W.keepIn K (.ref C)=true
theorem db4(M:Mk X.K C f)(F:FnOk X.prog X.w X.K X.mg X.base CX k f fd ps sp)(hr:Room (k+1) X.A)(hb:Binds X.K fd ps ds)(hd:Vals dvs ds)
 (hx:ae5 CX X E)(I:Inv X ζ O H s)(r:Vals vs us)
 (h:∀x dx,H x=none->H dx=none->dx≠x->sp (.ref x::(vs++dvs)) (upd (upd H dx (.own x)) x (.ins C dx [])) (λv H2=>v=.non/\Q (.ref x) H2) E):
 wpAny (model X.prog X.w) X.A (call (.ref C) us) (EP X ζ O Q) X.xe s:=by
 have hq:=h (s.heap.objs.size+1) s.heap.objs.size (I.hok.fresh (Nat.le_succ _)) (I.hok.fresh (C9 _)) (G2 (Q7 _));have I2:=Inv.made (C:=C) I;have r2:Vals (V.ref (s.heap.objs.size+1)::(vs++dvs)) (Value.ref (s.heap.objs.size+1)::(us++ds)):=.cons rfl (r.append hd);have hl:(Value.ref (s.heap.objs.size+1)::us++ds).length=ps.length:=by have e:=r2.length;rw[F.len _ _ _ _ hq]at e;exact e.symm
 refine wpAny_call (dl5 (f:=f) I.kIn M.makes M.init (S5.mp M.fn) (S8 (F.run _ X.stack _ _ ⟨Value.ref (s.heap.objs.size+1)::us,[]⟩ (Value.ref (s.heap.objs.size+1)::(us++ds)) _ _ E (hr.make C us [])
  (I2.env0.make C us []) (hb _ (Value.ref (s.heap.objs.size+1)::us) I2.kIn hl) r2 hq) λr s' hq'=>?_))
 cases r with
 |error e=>exact hx ζ O _ _ e s' I2 hq'
 |ok fl=>
  cases fl with
  |ret u=>refine z23 (I2.after hq') λv H' I3 rv ev q3=>?_;subst ev;exact⟨rv,⟨V.ref (s.heap.objs.size+1),H',I3,rfl,q3⟩⟩
  |_=>exact False.elim hq'
def dt8(M:Mk X.K C f)(F:FnOk X.prog X.w X.K X.mg X.base CX k f fd ps sp)(hr:Room (k+1) X.A)(hg:Gl X x)(hm:X.mg x=some (.ref C))(hb:Binds X.K fd ps ds)(hd:Vals dvs ds)(hx:ae5 CX X E)
 (ha:PA X (e::es) t)(hdb:(x==("__debug__":Str))=false:=by decide)(he:starEach (e::es) X.env=(false,eval e X.env)::starEach es X.env:=by rfl)(hpl:(backTo pos (starEach es X.env)).any (·.1)=false:=by rfl):
 PE X (.Call (.Name x p) (e::es) [] pos) (cp6 C sp dvs E t):=by
 intro ζ s O H Q I h;refine N5 (aw1 I hg hm ?_ hdb);refine U3 (h₀:=X.base) I.ok.mod.kin M.kp (wM (ha ζ s O H _ I h) λus s1 vs H1 I1 r q=>⟨I1.kIn,?_⟩) he hpl;exact db4 M F hr hb hd hx I1 r q
end
section
variable{X:Cx}{CX:CXT}{k:Nat}{f C:Addr}{fd:FuncData}{ps ks:ax}{sp:Sp}{E:XK}{x m:Str}{p pos apos kpos:Pos}{e o:Expr}{es:bj}{kws:List Keyword}{te ta:TE}{t tk:TA}{nm:Option Str}
variable{g:List Value->List Value->List Value}{gV:List V->List V->List V}
end
structure aV (N P:ax) (sc:Scope):Prop where
 kind:sc.kind=.function
 co:sc.isCoroutine=false
 gen:sc.isGenerator=false
 nd:N.Nodup
 pre:N.take P.length=P
 par:∀x∈P,sc.names.lookup x=some .local\/sc.names.lookup x=some .cell
 nofree:∀y∈sc.names,y.2≠ .free
theorem bo4{kindOf:c5}{x:Str}:∀{binds:ay}{m:ac},(∀v,(x,v)∉binds)->bindL kindOf binds m x=m x
 |[],_,_=>rfl
 |(n,v)::r,m,h=>by
  unfold bindL;rw[bo4 λw hw=>h w (B5 _ hw)];split
  . have:x≠n:=by rintro rfl;exact h v B7
    simp[this]
  . rfl
theorem bi5{kindOf:c5}{x:Str}:∀{binds:ay}{m:ac},(∀v,(x,v)∉binds)->bindC kindOf binds m x=m x
 |[],_,_=>rfl
 |(n,v)::r,m,h=>by
  unfold bindC;rw[bi5 λw hw=>h w (B5 _ hw)];split
  . rfl
  . have:x≠n:=by rintro rfl;exact h v B7
    simp[this]
theorem bi4{kindOf:c5}{x:Str}{v:Value}:∀{P:ax}{vs:ao}{i:Nat}{m:ac},P.Nodup->P[i]?=some x->vs[i]?=some v->kindOf x=some .local->
 bindL kindOf (P.zip vs) m x=some v
 |[],_,_,_,_,h,_,_=>by simp at h
 |_::_,[],_,_,_,_,h,_=>by simp at h
 |p::P,w::vs,0,m,nd,h1,h2,hk=>by simp at h1 h2;subst h1;subst h2;show bindL kindOf ((p,w)::P.zip vs) m p=_;unfold bindL;rw[bo4 λv hv=>(G6.mp nd).1 (W1 hv).1,E3 hk];simp
 |p::P,w::vs,i+1,m,nd,h1,h2,hk=>by show bindL kindOf ((p,w)::P.zip vs) m x=_;unfold bindL;exact bi4 (i:=i) (G6.mp nd).2 (by simpa using h1) (by simpa using h2) hk
theorem bj5{kindOf:c5}{x:Str}{v:Value}:∀{P:ax}{vs:ao}{i:Nat}{m:ac},P.Nodup->P[i]?=some x->vs[i]?=some v->kindOf x≠some .local->
 bindC kindOf (P.zip vs) m x=some v
 |[],_,_,_,_,h,_,_=>by simp at h
 |_::_,[],_,_,_,_,h,_=>by simp at h
 |p::P,w::vs,0,m,nd,h1,h2,hk=>by simp at h1 h2;subst h1;subst h2;show bindC kindOf ((p,w)::P.zip vs) m p=_;unfold bindC;rw[bi5 λv hv=>(G6.mp nd).1 (W1 hv).1,D7 hk];simp
 |p::P,w::vs,i+1,m,nd,h1,h2,hk=>by show bindC kindOf ((p,w)::P.zip vs) m x=_;unfold bindC;exact bj5 (i:=i) (G6.mp nd).2 (by simpa using h1) (by simpa using h2) hk
def start(N:ax)(vs:a_):St:=vs.map some++List.replicate (N.length-vs.length) none
def nW(CX:CXT)(P:G1)(w:World)(K:A5)(mg:ac)(base:Heap)(N:ax)(qual:Str)(scope:Scope)(f:Addr)(cd:Value)(A:J0)(outer:bm)(s:B8)(H:Hp)(E:XK):Cx where
 prog:=P
 w:=w
 K:=K
 mg:=mg
 base:=base
 A:=A.deeper (envOfC qual scope s.heap.objs.size f cd)
 N:=N
 s₀:=s
 H₀:=H
 env:=envOfC qual scope s.heap.objs.size f cd
 outer:=outer
 stack:=envOfC qual scope s.heap.objs.size f cd::outer
 ex:=[]
 calm:=true
 fn:=λ_=>true
 pn:=[]
 xe:=λe s'=>wpAny (model P w) (A.deeper (envOfC qual scope s.heap.objs.size f cd)) (leaving (envOfC qual scope s.heap.objs.size f cd) e) (λ_ s''=>CX outer H s E e s'') (λe' s''=>CX outer H s E e' s'') s'
def ci1{sc:Scope}{n:Nat}{x:Str}(h:sc.names.lookup x=some .cell):∃c,(cellsFrom n sc.names []).lookup x=some c:=by have q:=PySem.W.cellsFrom_some sc.names n [] (.inl h);exact Option.isSome_iff_exists.mp q
def dr1{CX:CXT}{P:G1}{w:World}{K:A5}{mg:ac}{base:Heap}{N ps:ax}{qual:Str}{scope:Scope}{f:Addr}{cd:Value}{A:J0}{outer:bm}{s s1:B8}{H:Hp}{E:XK}{us:ao}{vs:a_}
 (S:aV N ps scope)(hd:A.handled=none)(e0:Env0 P w K mg base A outer s H)(hl:vs.length=ps.length)(r:Vals vs us)
 (x:InCallC s s.heap.objs.size (bindL (envOfC qual scope s.heap.objs.size f cd).kindOf (ps.zip us) λ_=>none) (cellsFrom (s.heap.objs.size+1) scope.names []) (bindC (envOfC qual scope s.heap.objs.size f cd).kindOf (ps.zip us) λ_=>none) s1):
 Inv (nW CX P w K mg base N qual scope f cd A outer s H E) [] (start N vs) H s1:=by
 have hpl:ps.length<=N.length:=by have:=N1 List.length S.pre;rw[S6]at this;omega
 refine z21 x.done λh1 tk zz hk=>?_;subst zz;have noA:∀b:Addr,b∉(nW CX P w K mg base N qual scope f cd A outer s H E).ex:=λb z=>E8 (show b∈([]:List Addr) from z) X4;refine⟨⟨e0.mod,S.kind,rfl,rfl,C9 _,λy z c h1 h2=>?_,λy hy=>?_,λy c _ h=>?_,λ_=>hd,Around.frames_deeper e0.frames,.inr ⟨rfl,rfl⟩,λb z=>E8 z (noA b),e0.bs,e0.bsz,λb _ _=>noA b,λb z=>E8 z (noA b),e0.funs,e0.frf⟩,
  rfl,e0.bare,Un.kept hk,⟨_,x.toInCall.ns,λi y v h1 h2 h3=>?_⟩,λy c h=>⟨_,x.cell y c h⟩,e0.hok.fresh (C9 _),λy c h=>?_,λp hp=>E8 (show p∈([]:List (Addr×Obj)) from hp) X4,e0.hok.kept hk,?_⟩
 . exact name_of_addr x.apart (Q9 h1) (Q9 h2)
 . have hy:scope.names.lookup y=some .cell\/scope.names.lookup y=some .free:=hy;rcases hy with hy|hy
   . exact ci1 hy
   . exact E8 rfl (S.nofree _ (Q9 hy))
 . exact Nat.le_of_lt (x.above y c (Q9 h))
 . have hi:i<vs.length:=by
    unfold start at h2;by_cases hi:i<vs.length
    . exact hi
    . rw[K5 (by simpa using hi)]at h2;rw[O9]at h2;split at h2<;>cases h2
   have ha:vs[i]?=some v:=by
    unfold start at h2;rw[N0 (by simpa using hi),C8]at h2;cases e:vs[i]? with
    |none=>rw[e]at h2;cases h2
    |some a=>rw[e]at h2;cases h2;rfl
   obtain⟨u,hu,rv⟩:=r.get ha;have hp:ps[i]?=some y:=by rw[<-S.pre,U7 W9];exact h1
   have ndP:ps.Nodup:=by rw[<-S.pre];exact S.nd.sublist (List.take_sublist _ _)
   refine⟨u,rv,?_⟩;rcases S.par y (D4 hp)with k|k
   . exact .inl ⟨k,bi4 ndP hp hu k⟩
   . obtain⟨c,e⟩:=ci1 (n:=s.heap.objs.size+1) k;refine .inr ⟨.inl k,c,e,?_⟩;have q:=x.cell y c e;rw[bj5 ndP hp hu (by show scope.names.lookup y≠_;rw[k];decide)]at q;exact q
 . exact e0.hok.fresh (Nat.le_of_lt (x.above y c (Q9 h)))
 . unfold start;show _=N.length;rw[E7,C3,List.length_replicate];omega
theorem ff0{CX:CXT}{P:G1}{w:World}{K:A5}{mg:ac}{base:Heap}{k:Nat}{f:Addr}{name qual:Str}{params:Arguments}{body:List Stmt}{scope:Scope}{dV kV doc pm cdv ct oc:Value}{an od:br}
 {osl:bv}{N ps:ax}{sp:Sp}(lk:K.lookup f=some ⟨oc,od,.func (PySem.W.fnOf name qual params body scope dV kV doc pm an cdv ct),osl⟩)(hcd:PySem.W.codeIn K cdv qual=true)(S:aV N ps scope)
 (len:∀vs H Q E,sp vs H Q E->vs.length=ps.length)
 (hbody:∀(A:J0)(outer:bm)(s:B8)(H:Hp)(vs:a_)(Q:VK)(E:XK),Room k (A.deeper (envOfC qual scope s.heap.objs.size f cdv))->sp vs H Q E->
  ∃t,PSs (nW CX P w K mg base N qual scope f cdv A outer s H E) body t/\t {nx:=λ_ H'=>Q .non H',rt:=Q} (start N vs) H):
 FnOk P w K mg base CX (k+1) f (PySem.W.fnOf name qual params body scope dV kV doc pm an cdv ct) ps sp:=by
 refine⟨len,λA outer s H args us vs Q E hr e0 hb r hsp=>?_⟩;have hl:=len _ _ _ _ hsp;have KX:K.In s.heap:=e0.mod.kin.keeps λb o e=>(e0.bs b o e).1;have lim:s.heap.NoLimit:=e0.mod.nolimit.keeps λb o e=>(e0.bs b o e).1;have hkind:∀y∈ps.zip us,scope.names.lookup y.1=some .local\/(scope.names.lookup y.1=some .cell/\((cellsFrom (s.heap.objs.size+1) scope.names []).lookup y.1).isSome=true):=λ⟨n,v⟩ hy=>by
  rcases S.par n (W1 hy).1 with q|q
  . exact .inl q
  . exact .inr ⟨q,PySem.W.cellsFrom_some _ _ _ (.inl q)⟩
 refine codeAny_call_function hr.depth (KX _ _ lk) rfl S.co S.gen rfl (PySem.W.codeRec_of KX hcd) (hb _ _ _ _ ?_);refine wpAny_newFunctionEnv_cells S.kind hkind λenv he s1 x=>?_;subst he;refine⟨lim.keeps x.toInCall.keep,codeAny_func ?_⟩;obtain⟨t,ht,hq⟩:=hbody A outer s H vs Q E (hr.deeper _) hsp;have I:Inv (nW CX P w K mg base N qual scope f cdv A outer s H E) [] (start N vs) H s1:=dr1 S hr.hd e0 hl r x;refine N9 (ht s1 (start N vs) H _ I hq) (λfl s' hs=>?_) λe s' hs=>hs;have bN:∀{σ':St}{H':Hp}{v:V}{u:Value},Inv (nW CX P w K mg base N qual scope f cdv A outer s H E) [] σ' H' s'->RelV v u->Q v H'->CE outer P w H s Q u s':=
  λ{σ' H' v u} J rv q=>⟨v,H',J.os,J.bare,J.base,J.hok,rv,q⟩
 cases fl with
 |ret u=>refine z32 hs λv σ' H' J rv q=>?_;exact bN J rv q
 |next=>refine z21 hs λσ' H' J q=>?_;exact bN (v:=V.non) (u:=Value.none) J rfl q
 |brk=>refine z21 hs λ_ _ _ q=>?_;exact False.elim q
 |cont=>refine z21 hs λ_ _ _ q=>?_;exact False.elim q
section
variable{X:Cx}{x:Str}{p pos:Pos}{e:Expr}{es:bj}{t:TA}{id T:String}{r:cq}
def tCB(r:cq)(t:TA):TE:=λO H Q=>t O H λvs H1=>r vs H1 Q
def aQ(hc:CallR X (.builtin id) r)(hg:Gl X x)(hm:X.mg x=none)(hv:bootBuiltins x=some (.builtin id))(ha:PA X (e::es) t)(hn:x≠"__name__":=by decide)(hdb:(x==("__debug__":Str))=false:=by decide)
 (he:starEach (e::es) X.env=(false,eval e X.env)::starEach es X.env:=by rfl)(hpl:(backTo pos (starEach es X.env)).any (·.1)=false:=by rfl):PE X (.Call (.Name x p) (e::es) [] pos) (tCB r t):=by
 intro ζ s O H Q I h;refine N5 (oR I hg hm hv ?_ hn hdb);exact PyProof.Rows.callWith_builtin1 (wM (ha ζ s O H _ I h) λus s1 vs H1 I1 r1 q1=>hc s1 O H1 vs us Q I1 r1 q1) he hpl
def jL(hc:CallR X (.type T) r)(hg:Gl X x)(hm:X.mg x=none)(hv:bootBuiltins x=some (.type T))(ha:PA X (e::es) t)(hn:x≠"__name__":=by decide)(hdb:(x==("__debug__":Str))=false:=by decide)
 (he:starEach (e::es) X.env=(false,eval e X.env)::starEach es X.env:=by rfl)(hpl:(backTo pos (starEach es X.env)).any (·.1)=false:=by rfl):PE X (.Call (.Name x p) (e::es) [] pos) (tCB r t):=by
 intro ζ s O H Q I h;refine N5 (oR I hg hm hv ?_ hn hdb);exact L0 (wM (ha ζ s O H _ I h) λus s1 vs H1 I1 r1 q1=>hc s1 O H1 vs us Q I1 r1 q1) he hpl
end
end L2
namespace HT
open PySem PyProof.Rows
section
open PySem.SeqAt
open PySem.AutoSeq1 (wpAny_loadPart')
open PySem.MeetsSeq PySem.MeetsSeq2 PySem.MeetsSeq3
end
section
variable{prog:G1}{w:World}{A:J0}{E:af}{s:B8}
def cat_tup(ht:IsTup s.heap t vs.toArray)(hb:IsTup s.heap b ws.toArray)(hv:vs≠[])
 (h1:ws=[]->Q (.ref t) s)(h2:ws≠[]->Q (.ref s.heap.objs.size) {s with heap:=s.heap.push {cls:=.type "tuple",data:=.seq (vs++ws).toArray}})
 (hsz:vs.length+ws.length<=sizeLine):wpAny (model prog w) A (binaryOp .Add (.ref t) (.ref b)) Q E s:=by
 obtain⟨⟨cls,dd,data,sl⟩,ho,hc,n,hd⟩:=id ht;obtain⟨⟨cls2,dd2,data2,sl2⟩,ho2,hc2,n2,hd2⟩:=id hb;simp only at hc hd hc2 hd2;subst hc hd hc2 hd2;have e:vs.toArray++ws.toArray=(vs++ws).toArray:=X4
 by_cases hw:ws=[]
 . exact concat_meets ⟨_,ho,rfl⟩ ⟨_,ho2,rfl⟩ noFill_tuple_add seq_tuple_add PySem.F.slot_tuple_add PySem.F.entry_tuple_add (PySem.F.args_tuple_add_2 _ _)
    (tuple_addW1 t b vs.toArray ws.toArray n n2 dd dd2 sl sl2 (by simpa using hv) (by simp[hw])) ⟨ho,ho2,h1 hw⟩
 . refine concat_meets ⟨_,ho,rfl⟩ ⟨_,ho2,rfl⟩ noFill_tuple_add seq_tuple_add PySem.F.slot_tuple_add PySem.F.entry_tuple_add (PySem.F.args_tuple_add_2 _ _)
    (tuple_addW2 t b vs.toArray ws.toArray n n2 dd dd2 sl sl2 (by simpa using hv) (by simpa using hw) (by rw[B6,B6];exact hsz)) ⟨ho,ho2,?_⟩
   rw[e];exact h2 hw
def sIx(n d:Nat):Option Int->Nat
 |none=>d
 |some v=>if v<0 then(v+(n:Int)).toNat else min v.toNat n
theorem sIx_le(n d:Nat)(hd:d<=n)(o:a9):sIx n d o<=n:=by
 cases o with
 |none=>exact hd
 |some v=>
  show(if v<0 then(v+(n:Int)).toNat else min v.toNat n)<=n;by_cases hv:v<0
  . rw[E3 hv];omega
  . rw[D7 hv];exact Nat.min_le_right _ _
def clip_eq(v:Int)(n d:Nat):(if v<0 then max (v+(n:Int)) 0 else min v (n:Int))=((sIx n d (some v):Nat):Int):=by
 show(if v<0 then max (v+(n:Int)) 0 else min v (n:Int))=(((if v<0 then(v+(n:Int)).toNat else min v.toNat n):Nat):Int);by_cases hv:v<0
 . simp only[E3 hv];omega
 . simp only[D7 hv];omega
def adjust_gen(lo hi:a9)(n:Nat):Builtin.Slice.sliceAdjust lo hi 1 (n:Int)=(((sIx n 0 lo:Nat):Int),((sIx n n hi:Nat):Int)):=by
 have h1:¬((1:Int)<0):=W9
 unfold Builtin.Slice.sliceAdjust;simp only[h1,Q2];refine Prod.ext ?_ ?_
 . cases lo with
   |none=>rfl
   |some v=>exact clip_eq v n 0
 . cases hi with
   |none=>rfl
   |some v=>exact clip_eq v n n
def places_gen(i j:Nat):Builtin.Slice.slicePlaces (i:Int) (j:Int) 1=j-i:=by
 unfold Builtin.Slice.slicePlaces;have h1:(1:Int)>0:=W9
 simp only[h1,N4,Int.ediv_one];split<;>omega
theorem slicePart_(p:IsPart v o)(h:Q o s):wpAny (model prog w) A (Builtin.Slice.slicePartIndex v) Q E s:=by
 cases p with
 |none=>exact slicePart_none h
 |int i t=>exact slicePart_int h
def sliceApplied_gen{sl:Addr}{vl vu:Value}{lo hi:a9}{n:Nat}{Q:Int×Int×Nat->B8->Prop}(hs:s.heap.IsSliceOf sl vl vu .none)(pl:IsPart vl lo)(pu:IsPart vu hi)
 (h:Q (((sIx n 0 lo:Nat):Int),1,sIx n n hi-sIx n 0 lo) s):wpAny (model prog w) A (Builtin.Slice.sliceApplied (.ref sl) (pure (n:Int))) Q E s:=by
 refine z12 (id hs) λos hos hcs hds=>?_;unfold Builtin.Slice.sliceApplied Builtin.Slice.sliceFields;refine A7 (A7 (O5 hos hds (x:=vl) rfl (A7 (O5 hos hds (x:=vu) rfl (A7 (O5 hos hds (x:=.none) rfl (B9 ?_)))))));refine A7 (slicePart_none ?_);show wpAny _ _ (if((1:Int)==0)=true then _ else _) _ _ s;rw[D7 X5];refine A7 (slicePart_ pl (A7 (slicePart_ pu (A7 (B9 ?_)))));show wpAny _ _ (match Builtin.Slice.sliceAdjust lo hi 1 (n:Int)with|(lo,hi)=>pure (lo,(1:Int),Builtin.Slice.slicePlaces lo hi 1)) _ _ s;rw[adjust_gen lo hi n];show wpAny _ _ (pure (((sIx n 0 lo:Nat):Int),(1:Int),Builtin.Slice.slicePlaces ((sIx n 0 lo:Nat):Int) ((sIx n n hi:Nat):Int) 1)) _ _ s;rw[places_gen];exact B9 h
def pick_gen(xs:bg)(i k:Nat):((List.range k).filterMap λ(m:Nat)=>xs[((i:Int)+(m:Int)*1).toNat]?).toArray=((xs.toList.drop i).take k).toArray:=by
 have e:(λ(m:Nat)=>xs[((i:Int)+(m:Int)*1).toNat]?)=λm=>xs[i+m]?:=by
  funext m;have:((i:Int)+(m:Int)*1).toNat=i+m:=W9
  rw[this]
 rw[e];have:=pick_run xs i k;rw[List.filterMap_map]at this;have e2:((λx=>xs[x]?)∘λx=>i+x)=λm=>xs[i+m]?:=rfl;rw[e2]at this;rw[this]
def getItem_tuple_cut{t sl:Addr}{items:bg}{vl vu:Value}{lo hi:a9}{Q:af}(ht:IsTup s.heap t items)(hs:s.heap.IsSliceOf sl vl vu .none)(pl:IsPart vl lo)(pu:IsPart vu hi)
 (hw:¬(sIx items.size 0 lo=0/\sIx items.size items.size hi=items.size))
 (h:Q (.ref s.heap.objs.size) {s with heap:=s.heap.push {cls:=.type "tuple",data:=.seq ((items.toList.drop (sIx items.size 0 lo)).take (sIx items.size items.size hi-sIx items.size 0 lo)).toArray}})
 (hsz:items.size<=sizeLine):wpAny (model prog w) A (getItem (.ref t) (.ref sl)) Q E s:=by
 have htake:sizeOk (.seq ((items.toList.drop (sIx items.size 0 lo)).take (sIx items.size items.size hi-sIx items.size 0 lo)).toArray):=by show((items.toList.drop (sIx items.size 0 lo)).take (sIx items.size items.size hi-sIx items.size 0 lo)).toArray.size<=sizeLine;rw[B6,S6,W0,E6];omega
 have hj:sIx items.size items.size hi<=items.size:=sIx_le _ _ (C9 _) hi;refine z12 (id hs) λos hos hcs hds=>?_;have hTs:s.TypeIs (.ref sl) "slice":=⟨os,hos,hcs⟩;unfold getItem;try with_reducible refine P8 ?_
 first|refine A7 (B9 ?_)|skip
 refine A7 (wpAny_sequenceKey ht.typeIs X5 ?_);refine A7 (L6 (name:=Str.ofString "__getitem__") ht.typeIs S4
  (L9 S4 ht.typeIs entry_tuple_getitem ?_ (args_tuple_getitem _ _)))
 show wpAny _ _ (Builtin.Tuple.tupleItemsOf (.ref t)>>=_) _ _ s;refine A7 (tupleItemsOf_ ht ?_);refine A7 (wpAny_typeOf hTs ?_);rw[E3 X5];refine A7 (sliceApplied_gen hs pl pu ?_);have hno:¬((((sIx items.size 0 lo:Nat):Int)==0&&(1:Int)==1&&(sIx items.size items.size hi-sIx items.size 0 lo)==items.size)=true):=by intro q;rw[G8,G8]at q;have q1:((sIx items.size 0 lo:Nat):Int)=0:=eq_of_beq q.1.1;have q2:sIx items.size items.size hi-sIx items.size 0 lo=items.size:=eq_of_beq q.2;exact hw ⟨W9,W9⟩
 show wpAny _ _ (if(((sIx items.size 0 lo:Nat):Int)==0&&(1:Int)==1&&(sIx items.size items.size hi-sIx items.size 0 lo)==items.size)=true then _ else _) _ _ s;rw[D7 hno,pick_gen];first
  |exact A7 (m:=Builtin.Tuple.tupleExact _) (K7 (B9 ⟨_,rfl,B9 h⟩) htake)
  |exact A7 (m:=Builtin.Tuple.tupleExact _) (K7 (A7 (B9 (B9 ⟨_,rfl,B9 h⟩))) htake)
  |exact A7 (A7 (m:=Builtin.Tuple.tupleExact _) (K7 (B9 (B9 ⟨_,rfl,B9 h⟩)) htake))
  |exact A7 (A7 (m:=Builtin.Tuple.tupleExact _) (K7 (B9 ⟨_,rfl,B9 h⟩) htake))
end
end HT
namespace L2
abbrev TO:=St->Hp->(Option Int->Hp->Prop)->Prop
def PO(X:Cx)(e:Option Expr)(t:TO):Prop:=
 ∀⦃ζ:ad⦄ (s:B8)(O:St)(H:Hp)(Q:Option Int->Hp->Prop),Inv X ζ O H s->t O H Q->
  wpAny (model X.prog X.w) X.A (evalPart e X.env) (λu s'=>∃o H',Inv X ζ O H' s'/\IsPart u o/\Q o H') X.xe s
def cs4:TO:=λ_ H Q=>Q none H
def dy7(t:TE):TO:=λO H Q=>t O H λx H1=>∃i,x=.int i/\Q (some i) H1
theorem wQ:∀{us:ao},Vals (ns.map V.int) us->IntsAre us ns:=by
 induction ns with
 |nil=>intro us r;rw[L3]at r;cases r;exact .nil
 |cons n ns ih=>
  intro us r;rw[C7]at r;cases r with
  |cons r1 r2=>obtain⟨t,e⟩:=r1;subst e;exact .cons n t (ih r2)
section
variable{X:Cx}{e:Expr}{te:TE}{lo hi:Option Expr}{tl th:TO}{pos p2:Pos}
def pJ:PO X none cs4:=by intro ζ s O H Q I h;rw[evalPart_none];exact B9 ⟨none,H,I,.none,h⟩
def kF(h:PE X e te):PO X (some e) (dy7 te):=by intro ζ s O H Q I hw;rw[evalPart_some];refine jI (h s O H _ I hw) λu s1 x H1 I1 r1 q1=>?_;obtain⟨i,rfl,q⟩:=q1;obtain⟨t,rfl⟩:=r1;exact⟨some i,H1,I1,.int i t,q⟩
def SlR(X:Cx)(r:b8):Prop:=
 ∀⦃ζ:ad⦄ (s:B8)(O:St)(H:Hp)(x:V)(v vl vu:Value)(lo hi:a9)(sl:Addr)(Q:VK),Inv X ζ O H s->RelV x v->s.heap.IsSliceOf sl vl vu .none->IsPart vl lo->IsPart vu hi->r x lo hi H Q->
  ∃T id,typeLookup (.type T) "__getitem__"=pure (some (.builtin id))/\s.TypeIs v T/\wpAny (model X.prog X.w) X.A (getItem v (.ref sl)) (EP X ζ O Q) X.xe s
def SlR.or(h:SlR X r)(h':SlR X r'):SlR X (λx lo hi H Q=>r x lo hi H Q\/r' x lo hi H Q):=by
 intro ζ s O H x v vl vu lo hi sl Q I rx hs pl pu q;rcases q with q|q
 . exact h s O H x v vl vu lo hi sl Q I rx hs pl pu q
 . exact h' s O H x v vl vu lo hi sl Q I rx hs pl pu q
def tSl(r:b8)(te:TE)(tl th:TO):TE:=λO H Q=>te O H λx H1=>tl O H1 λl H2=>th O H2 λu H3=>r x l u H3 Q
def kL(hr:SlR X r)(he:PE X e te)(hl:PO X lo tl)(hu:PO X hi th):PE X (.Subscript e (.Slice lo hi none p2) pos) (tSl r te tl th):=by intro ζ s O H Q I h;refine Subscript_ (jI (he s O H _ I h) λv s1 x H1 I1 r1 q1=>?_);refine wpAny_Slice (kO (hl s1 O H1 _ I1 q1) λvl s2 ⟨l,H2,I2,pl,q2⟩=>kO (hu s2 O H2 _ I2 q2) λvu s3 ⟨u,H3,I3,pu,q3⟩=>?_);rw[evalPart_none];refine B9 ?_;have I4:Inv X ζ O H3 {s3 with heap:=s3.heap.push {cls:=.type "slice",data:=.fields #[vl,vu,.none]}}:=I3.kept (t':=s3.toks) λb ob q=>B0 _ q;refine z22 (hr {s3 with heap:=s3.heap.push {cls:=.type "slice",data:=.fields #[vl,vu,.none]}} O H3 x v vl vu l u s3.heap.objs.size Q I4 r1 (Heap.IsSliceOf.new ..) pl pu q3) λT id hT ht hg=>?_;show wpAny (model X.prog X.w) X.A (subscriptTail e (.Slice lo hi none p2) v (.ref s3.heap.objs.size)) (EP X ζ O Q) X.xe {s3 with heap:=s3.heap.push {cls:=.type "slice",data:=.fields #[vl,vu,.none]}};exact tail_any (ops:=[.ref s3.heap.objs.size,v]) ht hT hg X7
def aa4(xs:a_)(lo hi:a9):List V:=(xs.drop (HT.sIx xs.length 0 lo)).take (HT.sIx xs.length xs.length hi-HT.sIx xs.length 0 lo)
def au6(xs:a_)(lo hi:a9):(aa4 xs lo hi).length<=xs.length:=by unfold aa4;rw[S6,W0];omega
def ey3(K:A5):V->Option Int->Option Int->Hp->VK->Prop:=λx lo hi H Q=>∃a xs,x=.ref a/\SqT K H a xs/\
 ¬(HT.sIx xs.length 0 lo=0/\HT.sIx xs.length xs.length hi=xs.length)/\∀p,H p=none->Q (.ref p) (upd H p (.tup (aa4 xs lo hi)))
def ea7:SlR X (ey3 X.K):=by
 intro ζ s O H x v vl vu lo hi sl Q I rx hs pl pu h;refine z23 h λa xs zz hx hw q=>?_;clear h;subst zz;cases rx;refine z12 (I.tuple hx) λits r ht hz=>?_;have hlen:its.toArray.size=xs.length:=by rw[B6];exact r.length.symm
 refine⟨"tuple",_,S4.lookup,ht.typeIs,?_⟩;refine HT.getItem_tuple_cut ht hs pl pu (by rw[hlen];exact hw) ?_ (by rw[hlen];exact hz);rw[hlen];refine⟨.ref s.heap.objs.size,_,I.laid (t':=s.toks) (o:=.tup (aa4 xs lo hi)) (λb ob q=>B0 _ q) (C9 _) ?_,rfl,q _ (I.hok.fresh (C9 _))⟩;exact⟨K1 (au6 xs lo hi) hz,_,(r.drop (HT.sIx xs.length 0 lo)).take (HT.sIx xs.length xs.length hi-HT.sIx xs.length 0 lo),IsTup.new _ _⟩
def dj8(K:A5):R2:=λx y H Q=>∃a b xs ys,x=.ref a/\y=.ref b/\SqT K H a xs/\SqT K H b ys/\xs≠[]/\xs.length+ys.length<=sizeLine/\
 (ys=[]->Q (.ref a) H)/\(ys≠[]->∀p,H p=none->Q (.ref p) (upd H p (.tup (xs++ys))))
theorem Vals.nil_iff(r:Vals xs us):us=[]↔xs=[]:=by
 cases r with
 |_=>simp
def eq2:OpR X (binaryOp .Add) (dj8 X.K):=by intro ζ s O H x y v u Q I rx ry h;obtain⟨a,b,xs,ys,rfl,rfl,ha,hb,hx,hz,q1,q2⟩:=h;cases rx;cases ry;obtain⟨its,r1,p1,_⟩:=I.tuple ha;obtain⟨its2,r2,p2,_⟩:=I.tuple hb;refine HT.cat_tup p1 p2 (λz=>hx (r1.nil_iff.mp z)) (λz=>⟨.ref a,H,I,rfl,q1 (r2.nil_iff.mp z)⟩) (λz=>?_) (by rw[<-r1.length,<-r2.length];exact hz);refine⟨.ref s.heap.objs.size,_,I.laid (t':=s.toks) (o:=.tup (xs++ys)) (λb ob q=>B0 _ q) (C9 _) ?_,rfl,q2 (λw=>z (r2.nil_iff.mpr w)) _ (I.hok.fresh (C9 _))⟩;exact⟨by rw[E7];exact hz,_,r1.append r2,IsTup.new _ _⟩
end
def qG(n:Nat)(i:Int):Option Nat:=if 0<=i then(if i<n then some i.toNat else none)else if -(n:Int)<=i then some (i+n).toNat else none
def atI{α:Type}(xs:List α)(i:Int):Option α:=(qG xs.length i).bind λj=>xs[j]?
def bi2(h:qG n i=some j):seqIndex? i n=some j/\j<n/\-(n:Int)<=i/\i<n:=by
 unfold qG at h;by_cases h0:0<=i
 . rw[E3 h0]at h;by_cases h1:i<n
   . rw[E3 h1]at h;have e:i.toNat=j:=G0 h;exact⟨by rw[seqIndex_of h0 h1,e],W9,W9,h1⟩
   . rw[D7 h1]at h;cases h
 . rw[D7 h0]at h;by_cases h1:-(n:Int)<=i
   . rw[E3 h1]at h;have e:(i+n).toNat=j:=G0 h;exact⟨by rw[seqIndex_neg W9 h1,e],W9,h1,W9⟩
   . rw[D7 h1]at h;cases h
theorem bf3(h:atI xs i=some v):∃j,seqIndex? i xs.length=some j/\xs[j]?=some v/\j<xs.length/\-(xs.length:Int)<=i/\i<xs.length:=by
 unfold atI at h;cases e:qG xs.length i with
 |none=>rw[e]at h;cases h
 |some j=>rw[e]at h;refine z03 (bi2 e) λh1 h2 h3 h4=>?_;exact⟨j,h1,h,h2,h3,h4⟩
def gG{α:Type}{xs:List α}{j:Nat}{v:α}(h:xs[j]?=some v):atI xs (j:Int)=some v:=by
 have hj:j<xs.length:=(D3.mp h).1;have e:qG xs.length (j:Int)=some j:=by unfold qG;rw[E3 W9,E3 W9];simp
 unfold atI;rw[e];exact h
def cb5(b:Expr):Prop:=∀o i,subscripted b false o i=operate [o,i] (getItem o i)
def IxR(X:Cx)(r:R2):Prop:=
 ∀(value slice:Expr)(ζ:ad)(s:B8)(O:St)(H:Hp)(x y:V)(v u:Value)(Q:VK),Inv X ζ O H s->RelV x v->RelV y u->r x y H Q->
  subscripted slice false v u=operate [v,u] (getItem v u)->wpAny (model X.prog X.w) X.A (subscriptTail value slice v u) (EP X ζ O Q) X.xe s
def MtR(X:Cx)(id:String)(r:bh):Prop:=
 ∀⦃ζ:ad⦄ (s:B8)(O:St)(H:Hp)(x:V)(xs:a_)(v:Value)(us:ao)(Q:VK),Inv X ζ O H s->RelV x v->Vals xs us->r x xs H Q->
  wpAny (model X.prog X.w) X.A (call (.builtin id) (v::us)) (EP X ζ O Q) X.xe s
section
variable{X:Cx}{a b:Expr}{ta tb:TE}{pos:Pos}
def IxR.or(h:IxR X r)(h':IxR X r'):IxR X (λx y H Q=>r x y H Q\/r' x y H Q):=by
 intro value slice ζ s O H x y v u Q I rx ry q hs;rcases q with q|q
 . exact h value slice ζ s O H x y v u Q I rx ry q hs
 . exact h' value slice ζ s O H x y v u Q I rx ry q hs
def ff1(hr:IxR X r)(ha:PE X a ta)(hb:PE X b tb)(hs:cb5 b):PE X (.Subscript a b pos) (tOp r ta tb):=by intro ζ s O H Q I h;exact Subscript_ (dy2 ha hb I h λv u s2 x y H2 I2 rx ry q=>hr a b ζ s2 O H2 x y v u Q I2 rx ry q (hs _ _))
def ep3(K:A5):R2:=λx y H Q=>∃p xs i v,x=.ref p/\y=.int i/\SqL K H p xs/\atI xs i=some v/\Q v H
def ek5(K:A5):R2:=λx y H Q=>∃p xs i v,x=.ref p/\y=.int i/\SqT K H p xs/\atI xs i=some v/\Q v H
def ew4:R2:=λx y H Q=>∃z i c,x=.str z/\y=.int i/\z.length<=sizeLine/\atI z.cps.toList i=some c/\Q (.str ⟨#[c]⟩) H
def ix_list:IxR X (ep3 X.K):=by
 intro value slice ζ s O H x y v u Q I rx ry h hs;refine z44 h λp xs i z zz zy hq he q=>?_;clear h;subst zz zy;cases rx;obtain⟨t,rfl⟩:=ry;refine z12 (I.list hq) λits r pl hz=>?_;refine z14 (bf3 he) λj h1 h2 h3 h4 h5=>?_;obtain⟨w,ew,rw'⟩:=r.get h2;have hl:=r.length;have hn:=ao1;have bN:EP X ζ O Q w s:=⟨z,H,I,rw',q⟩;by_cases h0:0<=i
 . have hj:i.toNat=j:=by rw[seqIndex_of h0 h5]at h1;exact G0 h1
   exact item_listR pl.isList h0 W9 (by rw[hj];simpa using ew) bN hs
 . have hj:(i+(its.toArray.size:Int)).toNat=j:=by rw[seqIndex_neg W9 h4]at h1;rw[B6,<-hl];exact G0 h1
   exact subscriptTail_builtinR (x:=w) pl.isList.typeIs slot_list_getitem.lookup
    (wpAny_getItem_list_neg (Q:=λr s'=>r=w/\EP X ζ O Q r s') pl.isList W9 (by rw[B6]<;>omega) W9 (by rw[hj];simpa using ew) ⟨rfl,bN⟩) hs
def ix_tup:IxR X (ek5 X.K):=by
 intro value slice ζ s O H x y v u Q I rx ry h hs;refine z44 h λp xs i z zz zy hq he q=>?_;clear h;subst zz zy;cases rx;obtain⟨t,rfl⟩:=ry;refine z12 (I.tuple hq) λits r pl hz=>?_;refine z14 (bf3 he) λj h1 h2 h3 h4 h5=>?_;obtain⟨w,ew,rw'⟩:=r.get h2;have hl:=r.length;have hn:=ao1;have bN:EP X ζ O Q w s:=⟨z,H,I,rw',q⟩;exact subscriptTail_builtinR (x:=w) pl.typeIs slot_tuple_getitem.lookup
  (getItem_tuple (j:=j) (Q:=λr s'=>r=w/\EP X ζ O Q r s') pl W9 W9 (by rw[B6,<-hl];exact h1) (by simpa using ew) ⟨rfl,bN⟩) hs
def er6:IxR X ew4:=by
 intro value slice ζ s O H x y v u Q I rx ry h hs;refine z34 h λz i c zz zy hz he q=>?_;clear h;subst zz zy;obtain⟨t,rfl⟩:=rx;obtain⟨t',rfl⟩:=ry;refine z14 (bf3 he) λj h1 h2 h3 h4 h5=>?_;have hl:z.cps.toList.length=z.length:=by simp[Str.length]
 rw[hl]at h1 h4 h5;have hn:=ao1;exact tail_any (typeIs_str s z t) slot_str_getitem.lookup (getItem_str (c:=c) (by have e1:decide (i< -(2^63:Int))=false:=F6 W9;have e2:decide (i>=2^63)=false:=F6 W9;rw[e1,e2,Bool.or_false]) (by rw[h1];simpa using h2) ⟨.str ⟨#[c]⟩,H,I.tok _,⟨_,rfl⟩,q⟩) hs
def rIx(K:A5):R2:=λx y H Q=>ep3 K x y H Q\/ek5 K x y H Q\/ew4 x y H Q
def em8:IxR X (rIx X.K):=ix_list.or (ix_tup.or er6)
def ch5(its:ao)(n j:Nat)(u:Value):Obj.mapSeq (·.setIfInBounds j u) {cls:=.type "list",data:=.seq its.toArray n}={cls:=.type "list",data:=.seq (its.set j u).toArray n}:=by simp[Obj.mapSeq]
theorem Inv.lst{ζ:ad}{O:St}{H:Hp}{s:B8}{p:Addr}{xs:a_}(I:Inv X ζ O H s)(h:H p=some (.lst xs)):
 ∃(its:ao)(n:Nat),Vals xs its/\s.heap.get? p=some {cls:=.type "list",data:=.seq its.toArray n}/\xs.length<=sizeLine:=by
 obtain⟨z,its,n,r,e⟩:=I.hok p _ h;exact⟨its,n,r,e,z⟩
def Inv.lstUpd{ζ:ad}{O:St}{H:Hp}{s:B8}{p:Addr}{xs ys:a_}{its its':ao}{n n':Nat}{f:Obj->Obj}(I:Inv X ζ O H s)(h:H p=some (.lst xs))
 (ho:s.heap.get? p=some {cls:=.type "list",data:=.seq its.toArray n})(hf:f {cls:=.type "list",data:=.seq its.toArray n}={cls:=.type "list",data:=.seq its'.toArray n'})(r:Vals ys its')(hz:ys.length<=sizeLine)(t:Nat):
 Inv X ζ O (upd H p (.lst ys)) {s with heap:=s.heap.update p f,toks:=t}:=by
 have e:(s.heap.update p f).get? p=some {cls:=.type "list",data:=.seq its'.toArray n'}:=by rw[Heap.get?_update_self f ho (by rw[hf]<;>rfl),hf]
 refine I.write (x:=p) (e:=p) (by rw[h];trivial) (.inl rfl) (λb u hb q=>(K9 _ _ (N6 hb)).trans q) ⟨_,e⟩ ?_;exact⟨hz,its',n',r,e⟩
def df8:V->V->V->Hp->(Hp->Prop)->Prop:=λo i v H Q=>∃p xs k j,o=.ref p/\i=.int k/\H p=some (.lst xs)/\qG xs.length k=some j/\Q (upd H p (.lst (xs.set j v)))
def yO:el8 X df8:=by
 intro ζ s O H o i v ov iv u Q I ro ri rv h;refine z44 h λp xs k j zz zy hp hj q=>?_;clear h;subst zz zy;cases ro;obtain⟨t,rfl⟩:=ri;refine z22 (I.lst hp) λits n r ho hz=>?_;refine z03 (bi2 hj) λh1 h2 h3 h4=>?_;have hl:=r.length;have hn:=ao1;have I':Inv X ζ O (upd H p (.lst (xs.set j v))) {s with heap:=s.heap.update p (Obj.mapSeq (·.setIfInBounds j u))}:=
  I.lstUpd hp ho (ch5 its n j u) (r.set rv j) (by rw[N7];exact hz) s.toks
 by_cases h0:0<=k
 . have hk:k.toNat=j:=by rw[seqIndex_of h0 h4]at h1;exact G0 h1
   exact PySem.W.ki_setAt ho h0 W9 (by rw[B6,<-hl];exact h4) (by rw[hk];exact⟨_,I',q⟩)
 . have hk:(k+(its.toArray.size:Int)).toNat=j:=by rw[seqIndex_neg W9 h3]at h1;rw[B6,<-hl];exact G0 h1
   exact PySem.W.ki_setBack ho W9 (by rw[B6,<-hl];exact h3) W9 (by rw[hk];exact⟨_,I',q⟩)
def bb8(lo hi:a9)(n:Nat):(sliceBounds lo hi none n).1=((HT.sIx n 0 lo:Nat):Int)/\(sliceBounds lo hi none n).2.1=((HT.sIx n n hi:Nat):Int)/\(sliceBounds lo hi none n).2.2=1:=by
 refine⟨?_,?_,rfl⟩
 . cases lo with
   |none=>simp[sliceBounds,HT.sIx]
   |some i=>
    simp only[sliceBounds,HT.sIx,Option.getD_none,show(1:Int)>0 by decide,N4];by_cases h:i<0
    . simp only[h,N4]<;>omega
    . simp only[h,Q2]<;>omega
 . cases hi with
   |none=>simp[sliceBounds,HT.sIx]
   |some i=>
    simp only[sliceBounds,HT.sIx,Option.getD_none,show(1:Int)>0 by decide,N4];by_cases h:i<0
    . simp only[h,N4]<;>omega
    . simp only[h,Q2]<;>omega
def bd6(its:ao)(lo hi:a9):slicePick its.toArray lo hi none=((its.drop (HT.sIx its.length 0 lo)).take (HT.sIx its.length its.length hi-HT.sIx its.length 0 lo)).toArray:=by obtain⟨h1,h2,h3⟩:=bb8 lo hi its.toArray.size;unfold slicePick;rw[h1,h2,h3];simp only[sliceRange_one,pick_run,B6]<;>rfl
def eo7(K:A5):V->Option Int->Option Int->Hp->VK->Prop:=λx lo hi H Q=>∃a xs,x=.ref a/\SqL K H a xs/\∀p,H p=none->Q (.ref p) (upd H p (.lst (aa4 xs lo hi)))
def dp9:SlR X (eo7 X.K):=by intro ζ s O H x v vl vu lo hi sl Q I rx hs pl pu h;refine z22 h λa xs zz hx q=>?_;clear h;subst zz;cases rx;refine z12 (I.list hx) λits r ht hz=>?_;have hlen:=r.length;refine⟨"list",_,slot_list_getitem.lookup,ht.isList.typeIs,?_⟩;refine wpAny_getItem_list_slice ht.isList hs pl pu .none X4 ?_ (by rw[B6]<;>omega);rw[bd6,<-hlen];refine⟨.ref s.heap.objs.size,_,I.laid (t':=s.toks) (o:=.lst (aa4 xs lo hi)) (λb ob q=>B0 _ q) (C9 _) ?_,rfl,q _ (I.hok.fresh (C9 _))⟩;exact⟨K1 (au6 xs lo hi) hz,_,0,(r.drop (HT.sIx xs.length 0 lo)).take (HT.sIx xs.length xs.length hi-HT.sIx xs.length 0 lo),D6 _ rfl⟩
def uH:V->Bool
 |.non=>true
 |.bl _=>true
 |.int _=>true
 |.str _=>true
 |_=>false
def eqV:V->V->Bool
 |.non,.non=>true
 |.bl a,.bl b=>a==b
 |.bl a,.int b=>(if a then 1 else 0)==b
 |.int a,.bl b=>a==(if b then 1 else 0)
 |.int a,.int b=>a==b
 |.str a,.str b=>a==b
 |_,_=>false
theorem ci8(ry:RelV y u)(rx:RelV x v)(fy:uH y=true)(fx:uH x=true):SeqAt.EqAt A s u v (eqV y x):=by
 cases y with
 |non=>
  cases ry;cases x with
  |non=>cases rx;exact SeqAt.EqAt.same _
  |bl b=>cases rx;exact SeqAt.EqAt.none_bool b
  |int b=>obtain⟨t,rfl⟩:=rx;exact SeqAt.EqAt.none_int b t
  |str b=>obtain⟨t,rfl⟩:=rx;exact SeqAt.EqAt.none_str b t
  |_=>exact E8 (show false=true from fx) E9
 |bl a=>
  cases ry;cases x with
  |non=>cases rx;exact SeqAt.EqAt.bool_none a
  |bl b=>cases rx;exact SeqAt.EqAt.bool_bool a b
  |int b=>obtain⟨t,rfl⟩:=rx;exact SeqAt.EqAt.bool_int a b t
  |str b=>obtain⟨t,rfl⟩:=rx;exact SeqAt.EqAt.bool_str a b t
  |_=>exact E8 (show false=true from fx) E9
 |int a=>
  obtain⟨t',rfl⟩:=ry;cases x with
  |non=>cases rx;exact SeqAt.EqAt.int_none a t'
  |bl b=>cases rx;exact SeqAt.EqAt.int_bool a t' b
  |int b=>obtain⟨t,rfl⟩:=rx;exact SeqAt.EqAt.int_int a t' b t
  |str b=>obtain⟨t,rfl⟩:=rx;exact SeqAt.EqAt.int_str a t' b t
  |_=>exact E8 (show false=true from fx) E9
 |str a=>
  obtain⟨t',rfl⟩:=ry;cases x with
  |non=>cases rx;exact SeqAt.EqAt.str_none a t'
  |bl b=>cases rx;exact SeqAt.EqAt.str_bool a t' b
  |int b=>obtain⟨t,rfl⟩:=rx;exact SeqAt.EqAt.str_int a t' b t
  |str b=>obtain⟨t,rfl⟩:=rx;exact SeqAt.EqAt.str_str a t' b t
  |_=>exact E8 (show false=true from fx) E9
 |_=>exact E8 (show false=true from fy) E9
def CallR.or(h:CallR X f r)(h':CallR X f r'):CallR X f (λxs H Q=>r xs H Q\/r' xs H Q):=by
 intro ζ s O H xs us Q I rs q;rcases q with q|q
 . exact h s O H xs us Q I rs q
 . exact h' s O H xs us Q I rs q
def bh8:CallR X (.type "list") (λxs H Q=>∃p ys,xs=[.ref p]/\(SqL X.K H p ys\/SqT X.K H p ys)/\∀l,H l=none->Q (.ref l) (upd H l (.lst ys))):=by
 intro ζ s O H xs us Q I r h;refine z22 h λp ys zz hq q=>?_;clear h;subst zz;obtain⟨u,rfl,rx⟩:=ah9 r;cases rx;have bN:∀(its:ao),Vals ys its->ys.length<=sizeLine->∀(h':Heap)(c':Nat),(∀b o',s.heap.get? b=some o'->h'.get? b=some o')->
  h'.get? s.heap.objs.size=some {cls:=.type "list",dict:=none,data:=.seq its.toArray c',slots:=#[]}->EP X ζ O Q (.ref s.heap.objs.size) {s with heap:=h'}:=λits r' hz h' c' kp e=>
  ⟨.ref s.heap.objs.size,_,I.laid (t':=s.toks) kp (C9 _) (show ObjOk X.prog X.w _ h' _ (.lst ys) from⟨hz,its,c',r',e⟩),rfl,q _ (I.hok.fresh (C9 _))⟩
 rcases hq with hq|hq
 . refine z12 (I.list hq) λits r' pl hz=>?_;have hlen:=r'.length;obtain⟨o,ho,hc,n,hd⟩:=pl.isList;exact call_list_seq p (.inl rfl) ho hc hd (λh' c' kp e=>bN its r' hz h' c' kp e) (by simp only[B6]<;>omega)
 . refine z12 (I.tuple hq) λits r' pl hz=>?_;have hlen:=r'.length;obtain⟨o,ho,hc,n,hd⟩:=pl;exact call_list_seq p (.inr rfl) ho hc hd (λh' c' kp e=>bN its r' hz h' c' kp e) (by simp only[B6]<;>omega)
def tyV(K:A5)(T:String)(x:V)(H:Hp):Prop:=match x with
 |.str _=>T="str"
 |.int _=>T="int"
 |.ref p=>(T="list"/\∃xs,SqL K H p xs)\/(T="tuple"/\∃o,K.lookup p=some o/\o.cls=.type "tuple"/\o.dict=none)\/
  (T="dict"/\((∃kvs,H p=some (.dK kvs))\/∃kvs,H p=some (.dT kvs)))\/(T="set"/\∃S n,H p=some (.set S n))
 |_=>False
theorem ep5(I:Inv X ζ O H s)(r:RelV x v)(ty:tyV X.K T x H):
 s.TypeIs v T/\∀a,v=.ref a->∃ob,s.heap.get? a=some ob/\ob.dict=none:=by
 cases x with
 |str z=>obtain⟨t,rfl⟩:=r;cases(show T="str" from ty);exact⟨typeIs_str s z t,λ_ e=>nomatch e⟩
 |int i=>obtain⟨t,rfl⟩:=r;cases(show T="int" from ty);exact⟨typeIs_int s i t,λ_ e=>nomatch e⟩
 |ref p=>
  cases r;rcases ty with⟨rfl,xs,hq⟩|⟨rfl,o,hk,hc,hd⟩|⟨rfl,hk⟩|⟨rfl,S,n,hk⟩
  . refine z12 (I.list hq) λits _ pl _=>?_;refine⟨pl.isList.typeIs,λa e=>?_⟩;cases e;refine z23 pl λo n e c hd _=>?_;exact⟨o,e,hd⟩
  . refine⟨⟨o,I.kIn p o hk,hc⟩,λa e=>?_⟩;cases e;exact⟨o,I.kIn _ o hk,hd⟩
  . have z:∃o,s.heap.get? p=some o/\o.ExactDict:=by
     rcases hk with⟨kvs,hk⟩|⟨kvs,hk⟩
     . obtain⟨_,_,_,_,o,_,_,e,ex,_⟩:=I.hok p _ hk;exact⟨o,e,ex⟩
     . obtain⟨_,_,_,_,o,_,_,e,ex,_⟩:=I.hok p _ hk;exact⟨o,e,ex⟩
    obtain⟨o,e,ex⟩:=z;refine⟨⟨o,e,ex.1⟩,λa e2=>?_⟩;cases e2;exact⟨o,e,ex.2.1⟩
  . refine z42 (I.hok p _ hk) λo _ _ _ e ex _=>?_;refine⟨⟨o,e,ex.1⟩,λa e2=>?_⟩;cases e2;exact⟨o,e,ex.2.1⟩
 |_=>exact False.elim ty
def tBM(K:A5)(T:String)(r:bh)(to:TE)(t:TA):TE:=λO H Q=>to O H λx H1=>tyV K T x H1/\t O H1 λxs H2=>r x xs H2 Q
variable{o e:Expr}{es:bj}{to:TE}{t:TA}{name:Str}{apos cpos:Pos}{T id:String}{r:bh}
def fg0(pa:PlainAttrs T)(slot:Slot T name id)(hty:typeOf (.builtin id)=pure (.type "method_descriptor"))(hm:MtR X id r)(ho:PE X o to)(ha:PA X (e::es) t)
 (hbase:attributeBase o name X.env (eval o X.env)=eval o X.env:=by rfl)
 (hfew:((backTo cpos (starEach (e::es) X.env)).all (λx=>!x.1)&&(backToKw cpos (keywordEach [] X.env)).all (λx=>x.1.isSome)
  &&decide ((e::es).length+([]:List Keyword).length+(if([]:List Keyword).isEmpty then 0 else 1)<30))=true:=by rfl)
 (hline:(apos.endLine==cpos.line)=true:=by rfl)(hs:starEach (e::es) X.env=(false,eval e X.env)::starEach es X.env:=by rfl)(hplain:(backTo cpos (starEach es X.env)).any (·.1)=false:=by rfl):
 PE X (.Call (.Attribute o name apos) (e::es) [] cpos) (tBM X.K T r to t):=by
 intro ζ s O H Q I h;refine wpAny_Call_method_late hbase hfew hline rfl (jI (ho s O H _ I h) λv s1 x H1 I1 r1 qq=>?_);obtain⟨ty,q1⟩:=qq;obtain⟨h1,h2⟩:=ep5 I1 r1 ty;refine⟨T,id,pa,slot,hty,h1,h2,?_⟩;have hA:=@ha cpos ζ s1 O H1 _ I1 q1;rw[hs]at hA⊢;refine Calls.callWith_builtin (by show(false||(backTo cpos (starEach es X.env)).any (·.1))=false;rw[hplain]<;>rfl) (Calls.evalArgs_plain ?_);exact wM hA λus s2 vs H2 I2 r2 q2=>hm s2 O H2 x vs v us Q I2 r1 r2 q2
/- xs.append(e), list.index on a module's tuple .. are MtR facts of 06m -/
end
def MtM(X:Cx)(id:String)(r:bh):Prop:=
 ∀(ζ:ad)(s:B8)(O:St)(H:Hp)(x:V)(xs:a_)(v:Value)(us:ao)(Q:VK),Inv X ζ O H s->RelV x v->Vals xs us->r x xs H Q->
  wpAny (model X.prog X.w) X.A (call (.builtin id) (v::us)) (EP X ζ O Q) X.xe s
theorem Vals.cns{x:V}{xs:a_}{us:ao}(h:Vals (x::xs) us):∃u r,us=u::r/\RelV x u/\Vals xs r:=by
 cases h with
 |cons r t=>exact⟨_,_,rfl,r,t⟩
def Vals.one{x:V}{us:ao}(h:Vals [x] us):∃u,us=[u]/\RelV x u:=by refine z22 h.cns λu r zz a t=>?_;subst zz;cases t;exact⟨u,rfl,a⟩
def Vals.two{x y:V}{us:ao}(h:Vals [x,y] us):∃u v,us=[u,v]/\RelV x u/\RelV y v:=by refine z22 h.cns λu r zz a t=>?_;subst zz;obtain⟨v,rfl,b⟩:=t.one;exact⟨u,v,rfl,a,b⟩
section
variable{X:Cx}{ζ:ad}{O:St}{H:Hp}{s:B8}{l b:Addr}{xs ys zs:a_}
def Inv.lset{its its':ao}{n:Nat}{f:Array Value->Array Value}{t':Nat}(I:Inv X ζ O H s)(hH:H l=some (.lst xs))
 (e:s.heap.get? l=some {cls:=.type "list",data:=.seq its.toArray n})(hf:f its.toArray=its'.toArray)(hv:Vals ys its')(hz:ys.length<=sizeLine):
 Inv X ζ O (upd H l (.lst ys)) {s with heap:=s.heap.update l (Obj.mapSeq f),toks:=t'}:=by
 have q:=PySem.IsL.update e f;rw[hf]at q;refine I.write (x:=l) (e:=l) (by rw[hH];exact trivial) (.inl rfl) (λb' u hb hu=>(K9 s.heap (Obj.mapSeq f) (N6 hb)).trans hu) ⟨_,q⟩ ?_;exact⟨hz,its',_,hv,q⟩
def Inv.lnew(I:Inv X ζ O H s)(hv:Vals ys its)(hz:ys.length<=sizeLine):
 Inv X ζ O (upd H s.heap.objs.size (.lst ys)) {s with heap:=s.heap.push {cls:=.type "list",data:=.seq its.toArray},toks:=t'}:=
 I.laid (λ_ _ q=>B0 _ q) (C9 _) ⟨hz,its,0,hv,D6 _ rfl⟩
theorem Inv.fresh(I:Inv X ζ O H s):H s.heap.objs.size=none:=I.hok.fresh (C9 _)
def Inv.lstM(I:Inv X ζ O H s)(hH:H l=some (.lst xs)):xs.length<=sizeLine/\∃(its:ao)(n:Nat),Vals xs its/\xs.length=its.length/\s.heap.get? l=some {cls:=.type "list",data:=.seq its.toArray n}:=by obtain⟨z,its,n,r,e⟩:=I.hok l _ hH;exact⟨z,its,n,r,r.length,e⟩
def dc3(h:n<=sizeLine):Builtin.List.listTooLong n=false:=by unfold Builtin.List.listTooLong;exact F6 W9
end
section
variable{X:Cx}
def bx2:V->List V->Hp->VK->Prop:=λx vs H Q=>∃l xs y,x=.ref l/\vs=[y]/\H l=some (.lst xs)/\xs.length<sizeLine/\Q .non (upd H l (.lst (xs++[y])))
def co8:MtM X "list.append" bx2:=by intro ζ s O H x vs v us Q I rx rv h;refine z34 h λl xs y zz zy hH hz q=>?_;clear h;subst zz zy;cases rx;obtain⟨u,rfl,ru⟩:=rv.one;obtain⟨z,its,n,r,hl,e⟩:=I.lstM hH;refine V0 F.slot_list_append ⟨_,e,rfl⟩ F.entry_list_append (F.args_list_append_2 _ _) (PySem.list_append l its.toArray n u (by rw[B6];omega)) ⟨e,?_⟩;refine⟨.non,_,I.lset (its':=its++[u]) hH e X4 (r.append (.cons ru .nil)) ?_,rfl,q⟩;rw[E7,List.length_singleton];omega
def cl4:V->List V->Hp->VK->Prop:=λx vs H Q=>∃l b xs zs,x=.ref l/\vs=[.ref b]/\H l=some (.lst xs)/\H b=some (.lst zs)/\xs.length+zs.length<=sizeLine/\Q .non (upd H l (.lst (xs++zs)))
def bh5:MtM X "list.extend" cl4:=by
 intro ζ s O H x vs v us Q I rx rv h;refine z45 h λl b xs zs zz zy hH hB hz q=>?_;clear h;subst zz zy;cases rx;obtain⟨u,rfl,ru⟩:=rv.one;cases ru;obtain⟨z,its,n,r,hl,e⟩:=I.lstM hH;obtain⟨z2,its2,n2,r2,hl2,e2⟩:=I.lstM hB;have hsz:its.toArray.size+its2.toArray.size<=sizeLine:=by rw[B6,B6];omega
 have hlong:¬(!its.toArray.isEmpty&&Builtin.List.listTooLong (its.toArray.size+its2.toArray.size))=true:=by rw[dc3 hsz,Bool.and_false];exact E9
 refine V0 F.slot_list_extend ⟨_,e,rfl⟩ F.entry_list_extend (F.args_list_extend_2 _ _)
  (AutoSeq1.list_extend_list_list_0 l its.toArray n b its2.toArray n2 hlong (by rw[B6];omega) W9) ⟨e,e2,?_⟩
 refine⟨.non,_,I.lset (its':=its++its2) hH e X4 (r.append r2) ?_,rfl,q⟩;rw[E7];omega
theorem dd9(xs:List α)(k:Nat):(List.replicate k xs).flatten.length=k*xs.length:=by
 induction k with
 |zero=>simp
 |succ k ih=>rw[J8,D0,E7,ih,Nat.succ_mul,Nat.add_comm]
end
section
variable{prog:G1}{w:World}{A:J0}{E:af}{s:B8}
set_option maxRecDepth 100000 in
end
section
variable{X:Cx}
end
end L2
namespace Att
open PySem PySem.W PySem.Calls PyProof.Rows
theorem ints_of_wellAll:∀(ns:ah)(vs:ao),WellAll P h vs (ns.map WData.int)->IntsAre vs ns:=by
 intro ns;induction ns with
 |nil=>intro vs w;rw[L3]at w;cases w;exact .nil
 |cons n ns ih=>
  intro vs w;rw[C7]at w;cases w with
  |cons a b=>cases a;exact .cons _ _ (ih _ b)
theorem script_of{l:OpenLaw}{n:Nat}(hn:l.most=some n){P:Params}{h:Heap}{args:List WData}{vals:ao}
 (hpre:l.row.toRowW.claim.pre args=true)(hwl:WellAll P h vals args):
 ∃a vs ns,vals=[Value.ref a]/\args=[WData.list (ns.map WData.int)]/\h.get? a=some {cls:=.type "list",data:=.seq vs.toArray}/\IntsAre vs ns/\ns.length<=n:=by
 have hsh:WShape.hasAll [] args [.list .int]=true:=(pre_splitW hpre).1;have hc:l.pre.holds [] {args:=args}=true:=(pre_splitW hpre).2;refine z22 (hasAllW_cons hsh) λd r zz h1 h2=>?_;subst zz;obtain rfl:=hasAllW_nil h2;obtain⟨xs,rfl,h3⟩:=hasW_list h1;obtain⟨ns,rfl⟩:=items_int h3;have hlen:ns.length<=n:=by
  unfold OpenLaw.pre at hc;have h4:(WTm.not (.lt (.lit (.int (n:Int))) (.len (.arg 0)))).holds [] {args:=[.list (ns.map .int)]}=true:=by have h4:=(holds_andW hc).1;rw[hn]at h4;exact h4
  have h5:=condW_of h4 (w_not (w_lt w_lit (w_len_list (w_arg rfl))));rw[C3]at h5;refine Nat.le_of_not_lt λq=>?_;have q':(n:Int)<((ns.length:Nat):Int):=W9
  first
   |(rw[F7 q']at h5;exact E8 h5 X5)
   |(simp at h5;omega)
 cases hwl with
 |cons w1 w2=>
  cases w2;cases w1 with
  |list ho hall=>exact⟨_,_,ns,rfl,rfl,ho,ints_of_wellAll ns _ hall,hlen⟩
def post_true(l:OpenLaw)(args:List WData):l.row.toRowW.claim.post args (.bool true) args=true:=
 postW_of (r:=l.row.toRowW) (X:=(true==true))
  (show WShape.has [] (.bool true) .bool=true by first|rfl|decide|simp[WShape.has,WShape.arms,WShape.armsAll])
  (show(WTm.eq .res (.lit (.bool true))).value [] {args:=args,res:=some (.bool true),after:=args}=some (.bool (true==true)) from w_eq_bool (w_res rfl) w_lit) rfl
section
variable{prog:G1}{w:World}{A:J0}{E:af}{s:B8}{K:Frag}
end
end Att
namespace L2
theorem ap5:∀{vs:ao}{ns:ah},IntsAre vs ns->Vals (ns.map V.int) vs
 |_,_,.nil=>.nil
 |_,_,.cons n t h=>.cons ⟨t,rfl⟩ (ap5 h)
def es4(H:Hp):Prop:=∀b,H b=none\/∃o xs,H b=some (.frz o (.lst xs))
theorem dk5{P:G1}{w:World}{K:A5}{mg mb:ac}{CX:CXT}{k:Nat}{fa a:Addr}{fd:FuncData}{x:Str}{sp:Sp}{s₁:B8}{vs:ao}{ns:ah}
 (KX:K.In s₁.heap)(hns:s₁.heap.Ns mainGlobals mg)(hb:s₁.heap.Ns builtinsNs mb)(hbb:∀x:Str,x≠"__name__"->mb x=bootBuiltins x)(hlim:s₁.heap.NoLimit)(hg:s₁.gens=#[])
 (ha:s₁.heap.get? a=some {cls:=.type "list",data:=.seq vs.toArray})(hi:IntsAre vs ns)(hl:ns.length<=sizeLine)(hr:Room k callerA)
 (F:∀base:Heap,K.In base->base.Ns mainGlobals mg->FnOk P w K mg base CX k fa fd [x] sp)(hbind:∀(s:B8)(u:Value),BindsTo s fd ⟨[u],[]⟩ [(x,u)])
 (hsp:∀H:Hp,es4 H->SqL K H a (ns.map V.int)->sp [.ref a] H (λv _=>v=.bl true) λ_ _ _=>False)
 (hCX:∀H e s',CX [] H s₁ (λ_ _ _=>False) e s'->False):
 codeAny (model P w) callerA (.call (.ref fa) ⟨[.ref a],[]⟩) (λr s'=>r=.ok (.ret (.bool true))/\OldK s₁.heap s'.heap/\s'.os=s₁.os/\AllBare s'.gens) s₁:=by
 have rv:=ap5 hi;have lenV:=hi.length;have core:∀H:Hp,es4 H->SqL K H a (ns.map V.int)->HOk P w H s₁.heap->(∀b,H b≠none->b=a)->(H a≠none->K.lookup a=none)->
  codeAny (model P w) callerA (.call (.ref fa) ⟨[.ref a],[]⟩) (λr s'=>r=.ok (.ret (.bool true))/\OldK s₁.heap s'.heap/\s'.os=s₁.os/\AllBare s'.gens) s₁:=by
  intro H hO hS hok hA hK;have base_of:∀{b:Addr}{o:Obj},s₁.heap.get? b=some o->H b=none->(ag3 s₁.heap H).get? b=some o:=λe n=>dn4 e n;have noA:∀{b:Addr}{o:Obj}{es:Array DictEntry}{ep:Nat},s₁.heap.get? b=some o->o.data=.dict es ep->H b=none:=λ{b o es ep} e d=>by
   cases q:H b with
   |none=>rfl
   |some u=>have e':b=a:=hA b (by rw[q];simp);subst e';rw[ha]at e;cases e;have d':Data.seq vs.toArray _=Data.dict es ep:=d;cases d'
  have nsK:∀{b:Addr}{m:ac},s₁.heap.Ns b m->(ag3 s₁.heap H).Ns b m:=λ{b m} ⟨o,es,ep,e,d,r⟩=>⟨o,es,ep,base_of e (noA e d),d,r⟩;have hKb:K.In (ag3 s₁.heap H):=λb o e=>base_of (KX b o e) (by
   cases q:H b with
   |none=>rfl
   |some u=>have e':b=a:=hA b (by rw[q];simp);subst e';rw[hK (by rw[q];simp)]at e;cases e)
  have hM:Mod K mg (ag3 s₁.heap H):=⟨hKb,nsK hns,⟨mb,nsK hb,hbb⟩,let⟨mc,h1,h2⟩:=hlim;⟨mc,nsK h1,h2⟩⟩;have e0:Env0 P w K mg (ag3 s₁.heap H) callerA [] s₁ H:=⟨rfl,hM,λb o e=>em1 e,Nat.le_of_eq (cv9 _ _),trivial,λb hb=>E8 (show b∈([]:List Addr) from hb) X4,hok,.of_eq hg⟩;refine S8 ((F _ hKb (nsK hns)).run callerA [] s₁ H ⟨[.ref a],[]⟩ [.ref a] [.ref a] _ _ hr e0 (hbind s₁ (.ref a)) (.cons rfl .nil) (hsp H hO hS)) λr s' h=>?_;cases r with
  |error e=>exact(hCX H e s' h).elim
  |ok fl=>
   cases fl with
   |ret u=>
    refine z25 h λv H' os bare un hok' r' q=>?_;have q':v=.bl true:=q;subst q';obtain rfl:u=Value.bool true:=r';refine⟨rfl,OldK.of_keep λb o e=>?_,os,bare⟩;cases q:H b with
    |none=>exact un.keep b o e q (by intro z;exact E8 (show b∈([]:List Addr) from z) X4) X4
    |some u=>
     rcases hO b with z|⟨ob,xs,z⟩
     . rw[q]at z;cases z
     . have z2:=un.frzs b ob _ z;obtain⟨e1,_⟩:=hok b _ z;obtain⟨e2,_⟩:=hok' b _ z2;rw[e]at e1;cases e1;exact e2
   |_=>exact False.elim h
 cases hk:K.lookup a with
 |some o=>have e:=KX a o hk;rw[ha]at e;cases e;refine core (λ_=>none) (λ_=>.inl rfl) (.inr ⟨_,vs.toArray,_,hk,rfl,rfl,rfl,by rw[B6,lenV];exact hl,by simpa using rv⟩) (λb u z=>by have z':(none:Option HO)=some u:=z;cases z') (λb z=>E8 rfl z) λz=>E8 rfl z
 |none=>
  refine core (λb=>if b=a then some (.frz {cls:=.type "list",data:=.seq vs.toArray} (.lst (ns.map V.int)))else none) (λb=>?_) (.inl (.inr ⟨{cls:=.type "list",data:=.seq vs.toArray},E3 rfl⟩)) (λb u z=>?_) (λb z=>?_) λ_=>hk
  . by_cases hb:b=a
    . exact .inr ⟨_,_,E3 hb⟩
    . exact .inl (D7 hb)
  . by_cases hb:b=a
    . have z':=(E3 hb).symm.trans z;cases z';subst hb;exact⟨ha,by rw[C3];exact hl,vs,_,rv,ha⟩
    . have z':=(D7 hb).symm.trans z;cases z'
  . by_cases hb:b=a
    . exact hb
    . exact E8 (D7 hb) z
def au1(s:Stmt)(j:Nat):Stmt:=match s with
 |.ClassDef _ _ _ body _ _ _ _ _ _ _=>body.getD j (.Pass ⟨0,0,0,0⟩)
 |_=>.Pass ⟨0,0,0,0⟩
def kK(s:Stmt):Arguments:=match s with
 |.FunctionDef _ a _ _ _ _ _ _ _ _=>a
 |_=>{posonlyargs:=[],args:=[],vararg:=none,kwonlyargs:=[],kw_defaults:=[],kwarg:=none,defaults:=[]}
def eJ(s:Stmt):List Stmt:=match s with
 |.FunctionDef _ _ b _ _ _ _ _ _ _=>b
 |_=>[]
def aN(s:Stmt):Scope:=match s with
 |.FunctionDef _ _ _ _ _ _ sc _ _ _=>sc
 |_=>{kind:=.function,names:=[],isGenerator:=false,isCoroutine:=false}
abbrev lI:CXT:=λ_ _ _ _ _ _=>False
abbrev E0:XK:=λ_ _ _=>False
def ab9:ae5 lI X E0:=λ_ _ _ _ _ _ _ h=>h.elim
structure Fun (K:A5) (x qual:Str) (st:Stmt) (f:Addr) (fd:FuncData):Prop where
 ex:∃(oc:Value)(od:br)(kV doc pm:Value)(an:br)(cdv ct:Value)(osl:bv),
  fd=PySem.W.fnOf x qual (kK st) (eJ st) (aN st) .none kV doc pm an cdv ct/\K.lookup f=some ⟨oc,od,.func fd,osl⟩/\PySem.W.codeIn K cdv qual=true
 kp:PySem.W.keepIn K (.ref f)=true
section
variable{P:G1}{w:World}{K:A5}{mg:ac}{base:Heap}
def Fun.ok{x qual:Str}{st:Stmt}{f:Addr}{fd:FuncData}{N ps:ax}{k:Nat}{sp:Sp}(F:Fun K x qual st f fd)(S:aV N ps (aN st))(len:∀vs H Q E,sp vs H Q E->vs.length=ps.length)
 (hbody:∀(cdv:Value)(A:J0)(outer:bm)(s:B8)(H:Hp)(vs:a_)(Q:VK)(E:XK),Room k (A.deeper (envOfC qual (aN st) s.heap.objs.size f cdv))->sp vs H Q E->
  ∃t,PSs (nW lI P w K mg base N qual (aN st) f cdv A outer s H E).nox (eJ st) t/\t {nx:=λ_ H'=>Q .non H',rt:=Q} (start N vs) H):FnOk P w K mg base lI (k+1) f fd ps sp:=by
 obtain⟨oc,od,kV,doc,pm,an,cdv,ct,osl,rfl,lk,hcd⟩:=F.ex;refine ff0 lk hcd S len λA outer s H vs Q E hr hsp=>?_;obtain⟨t,h,q⟩:=hbody cdv A outer s H vs Q E hr hsp;exact⟨t,h.nox,q⟩
def Fun.binds{x qual:Str}{st:Stmt}{f:Addr}{fd:FuncData}{ps:ax}(F:Fun K x qual st f fd)
 (h:∀(kV doc pm:Value)(an:br)(cdv ct:Value)(us:ao),us.length=ps.length->bindArgs (PySem.W.fnOf x qual (kK st) (eJ st) (aN st) .none kV doc pm an cdv ct) ⟨us,[]⟩=pure (ps.zip us)):Binds K fd ps []:=by
 obtain⟨oc,od,kV,doc,pm,an,cdv,ct,osl,rfl,lk,hcd⟩:=F.ex;exact .all (h kV doc pm an cdv ct)
def ad9{x qual:Str}{st:Stmt}{f:Addr}{oc:Value}{od an:br}{osl:bv}{kV doc pm cdv ct:Value}(l:K.lookup f=some ⟨oc,od,.func (PySem.W.fnOf x qual (kK st) (eJ st) (aN st) .none kV doc pm an cdv ct),osl⟩)
 (c:PySem.W.codeIn K cdv qual=true)(k:PySem.W.keepIn K (.ref f)=true):Fun K x qual st f (PySem.W.fnOf x qual (kK st) (eJ st) (aN st) .none kV doc pm an cdv ct):=⟨⟨oc,od,kV,doc,pm,an,cdv,ct,osl,rfl,l,c⟩,k⟩
end
section
variable{X:Cx}
def pv(i:Nat)(hN:X.N[i]?=some x:=by rfl)(hv:Vis X.env.scope x:=by first|exact Or.inl rfl|exact Or.inr (Or.inl rfl)|exact Or.inr (Or.inr rfl))(hd:(x==("__debug__":Str))=false:=by decide)
 (hcd:(x==("__classdict__":Str))=false:=by decide):PE X (.Name x pos) (am4 i):=ep8 hN hv hd hcd
end
def Same(H H':Hp):Prop:=∀b o,H b=some o->H' b=some o
def Same.refl(H:Hp):Same H H:=λ_ _ h=>h
def Same.trans(a:Same H H1)(b:Same H1 H2):Same H H2:=λc o h=>b c o (a c o h)
theorem Same.free(e:Same H H')(h:H' l=Option.none):H l=Option.none:=by
 cases q:H l with
 |none=>rfl
 |some o=>rw[e l o q]at h;cases h
def Same.seq{K:A5}{H H':Hp}{a:Addr}{xs:a_}(e:Same H H')(h:SqL K H a xs):SqL K H' a xs:=by
 rcases h with(h|⟨o,h⟩)|h
 . exact .inl (.inl (e _ _ h))
 . exact .inl (.inr ⟨o,e _ _ h⟩)
 . exact .inr h
def ex6:R2:=λx y H Q=>∃i j,x=.int i/\y=.int j/\IntMulOk i j/\Q (.int (i*j)) H
section
variable{X:Cx}
def op_mulB:OpR X (binaryOp .Mult) ex6:=by intro ζ s O H x y v u Q I rx ry h;refine z23 h λi j zz zy hc q=>?_;clear h;subst zz zy;obtain⟨t,rfl⟩:=rx;obtain⟨t',rfl⟩:=ry;exact mul_int ⟨.int (i*j),H,I.tok _,⟨_,rfl⟩,q⟩ hc
def TyN(K:A5)(H:Hp)(x:V)(tx:String):Prop:=match x with
 |.int _=>tx="int"
 |.bl _=>tx="bool"
 |.str _=>tx="str"
 |.ref p=>(tx="list"/\∃xs,SqL K H p xs)\/(tx="tuple"/\∃xs,SqT K H p xs)
 |_=>False
inductive iG:String->String->Bool->Prop where
 |int_int:iG "int" "int" true
 |int_bool:iG "int" "bool" false
 |int_str:iG "int" "str" false
 |int_list:iG "int" "list" false
 |int_tuple:iG "int" "tuple" false
 |bool_int:iG "bool" "int" true
 |bool_bool:iG "bool" "bool" true
 |bool_str:iG "bool" "str" false
 |bool_list:iG "bool" "list" false
 |bool_tuple:iG "bool" "tuple" false
 |str_int:iG "str" "int" false
 |str_bool:iG "str" "bool" false
 |str_str:iG "str" "str" true
 |str_list:iG "str" "list" false
 |str_tuple:iG "str" "tuple" false
 |list_int:iG "list" "int" false
 |list_bool:iG "list" "bool" false
 |list_str:iG "list" "str" false
 |list_list:iG "list" "list" true
 |list_tuple:iG "list" "tuple" false
 |tuple_int:iG "tuple" "int" false
 |tuple_bool:iG "tuple" "bool" false
 |tuple_str:iG "tuple" "str" false
 |tuple_list:iG "tuple" "list" false
 |tuple_tuple:iG "tuple" "tuple" true
theorem dh4:CallR X (.builtin "isinstance") (λxs H Q=>∃x T tx b,xs=[x,.ty T]/\TyN X.K H x tx/\iG tx T b/\Q (.bl b) H):=by
 intro ζ s O H xs us Q I r h;refine z43 h λx T tx b zz ht ho q=>?_;clear h;subst zz;refine z22 r.two λu v zz rx rT=>?_;subst zz;obtain rfl:v=Value.type T:=rT;have fin1:EP X ζ O Q (.bool b) s:=⟨.bl b,H,I,rfl,q⟩;have fin2:EP X ζ O Q (.bool b) {s with toks:=s.toks+1}:=⟨.bl b,H,I.tok _,rfl,q⟩;cases x with
 |int i=>obtain⟨t,rfl⟩:=rx;have ht:tx="int":=ht;cases ho<;>first|exact E8 ht X0|exact IsiPair.int_int fin1|exact IsiPair.int_bool fin2|exact IsiPair.int_str fin2|exact IsiPair.int_list fin2|exact IsiPair.int_tuple fin2
 |bl i=>cases rx;have ht:tx="bool":=ht;cases ho<;>first|exact E8 ht X0|exact IsiPair.bool_int fin1|exact IsiPair.bool_bool fin1|exact IsiPair.bool_str fin2|exact IsiPair.bool_list fin2|exact IsiPair.bool_tuple fin2
 |str i=>obtain⟨t,rfl⟩:=rx;have ht:tx="str":=ht;cases ho<;>first|exact E8 ht X0|exact IsiPair.str_int fin2|exact IsiPair.str_bool fin2|exact IsiPair.str_str fin1|exact IsiPair.str_list fin2|exact IsiPair.str_tuple fin2
 |ref p=>
  cases rx;have ht:(tx="list"/\∃xs,SqL X.K H p xs)\/(tx="tuple"/\∃xs,SqT X.K H p xs):=ht;rcases ht with⟨ht,ys,hq⟩|⟨ht,ys,hq⟩
  . obtain⟨its,rv,⟨o,n,e,c,d,dt⟩,hz⟩:=I.list hq;cases ho<;>first|exact E8 ht X0|exact IsiPair.list_int e c fin2|exact IsiPair.list_bool e c fin2|exact IsiPair.list_str e c fin2|exact IsiPair.list_list e c fin1|exact IsiPair.list_tuple e c fin2
  . obtain⟨its,rv,⟨o,e,c,n,d⟩,hz⟩:=I.tuple hq;cases ho<;>first|exact E8 ht X0|exact IsiPair.tuple_int e c fin2|exact IsiPair.tuple_bool e c fin2|exact IsiPair.tuple_str e c fin2|exact IsiPair.tuple_list e c fin2|exact IsiPair.tuple_tuple e c fin1
 |_=>exact(show False from ht).elim
theorem aj0:∀{bs:bw}{us:ao}{i:Nat}{u:Value},Vals (bs.map V.bl) us->us[i]?=some u->∃b,bs[i]?=some b/\u=.bool b
 |[],_,_,_,.nil,e=>by simp at e
 |b::bs,_,0,_,.cons r _,e=>by simp at e;subst e;exact⟨b,rfl,r⟩
 |b::bs,_,i+1,_,.cons _ t,e=>by obtain⟨c,h1,h2⟩:=aj0 (i:=i) t (by simpa using e);exact⟨c,by simpa using h1,h2⟩
def cd8(bs:bw):((List.range bs.length).all λi=>(bs[i]?).getD true)=bs.all id:=by
 rw[Q4,K4,K4];constructor
 . intro h b hb;obtain⟨i,hi,e⟩:=S9.mp hb;have q:=h i (F9.mpr hi);rw[A6 hi,e]at q;exact q
 . intro h i hi;have hi':=F9.mp hi;rw[A6 hi'];exact h _ (K3 hi')
def cm9(bs:bw):((List.range bs.length).any λi=>(bs[i]?).getD true)=bs.any id:=by
 rw[Q4,Q8,Q8];constructor
 . rintro⟨i,hi,q⟩;have hi':=F9.mp hi;rw[A6 hi']at q;exact⟨_,K3 hi',q⟩
 . rintro⟨b,hb,q⟩;obtain⟨i,hi,e⟩:=S9.mp hb;refine⟨i,F9.mpr hi,?_⟩;rw[A6 hi,e];exact q
def ao4{s:B8}{h':Heap}{o:Obj}(hk:∀b x,b∉[s.heap.objs.size]->(s.heap.push o).get? b=some x->h'.get? b=some x):∀b x,s.heap.get? b=some x->h'.get? b=some x:=
 λb x e=>hk b x (λhm=>by rw[C5.mp hm]at e;exact O4 _ (D5 e)) (B0 _ e)
def de2(hc:X.calm=true):CallR X (.builtin "all") (λxs H Q=>∃(p:Addr)(bs:bw),xs=[.ref p]/\SqL X.K H p (bs.map V.bl)/\Q (.bl (bs.all id)) H):=by
 intro ζ s O H xs us Q I r h;refine z22 h λp bs zz hq q=>?_;clear h;subst zz;obtain⟨u,rfl,r1⟩:=r.one;obtain rfl:u=Value.ref p:=r1;refine z12 (I.list hq) λits rv pl hz=>?_;have hl:=pl.isList;have hlen:bs.length=its.length:=by have:=rv.length;rwa[C3]at this
 have hlt:p<s.heap.objs.size:=by refine z21 pl λ_ _ e _=>?_;exact D5 e
 refine call_all_walk (S7 hl ?_);refine⟨s.heap.objs.size,[s.heap.objs.size,p],[s.heap.objs.size],its.toArray.size,_,_,λi=>(bs[i]?).getD true,rfl,Walks.list (A:=X.A.in1) (I.ok.hd hc) _ p (G2 hlt) its.toArray,
  ⟨⟨_,D6 _ rfl,rfl,rfl⟩,hl.push _⟩,λi v s' Q' E' hP hQ=>?_,λh' tk hk=>?_⟩
 . obtain⟨b,e,rfl⟩:=aj0 rv (i:=i) (u:=v) (by simpa using hP);simp only[e,Option.getD_some]at hQ;exact M4 hQ
 . have e:((List.range its.toArray.size).all λi=>(bs[i]?).getD true)=bs.all id:=by rw[B6,<-hlen];exact cd8 bs
   rw[e];exact⟨.bl _,H,I.kept (ao4 hk),rfl,q⟩
def dp3(hc:X.calm=true):CallR X (.builtin "any") (λxs H Q=>∃(p:Addr)(bs:bw),xs=[.ref p]/\SqL X.K H p (bs.map V.bl)/\Q (.bl (bs.any id)) H):=by
 intro ζ s O H xs us Q I r h;refine z22 h λp bs zz hq q=>?_;clear h;subst zz;obtain⟨u,rfl,r1⟩:=r.one;obtain rfl:u=Value.ref p:=r1;refine z12 (I.list hq) λits rv pl hz=>?_;have hl:=pl.isList;have hlen:bs.length=its.length:=by have:=rv.length;rwa[C3]at this
 have hlt:p<s.heap.objs.size:=by refine z21 pl λ_ _ e _=>?_;exact D5 e
 refine call_any_walk (S7 hl ?_);refine⟨s.heap.objs.size,[s.heap.objs.size,p],[s.heap.objs.size],its.toArray.size,_,_,λi=>(bs[i]?).getD true,rfl,Walks.list (A:=X.A.in1) (I.ok.hd hc) _ p (G2 hlt) its.toArray,
  ⟨⟨_,D6 _ rfl,rfl,rfl⟩,hl.push _⟩,λi v s' Q' E' hP hQ=>?_,λh' tk hk=>?_⟩
 . obtain⟨b,e,rfl⟩:=aj0 rv (i:=i) (u:=v) (by simpa using hP);simp only[e,Option.getD_some]at hQ;exact M4 hQ
 . have e:((List.range its.toArray.size).any λi=>(bs[i]?).getD true)=bs.any id:=by rw[B6,<-hlen];exact cm9 bs
   rw[e];exact⟨.bl _,H,I.kept (ao4 hk),rfl,q⟩
end
structure dR (P:G1) (w:World) (K:A5) (mg:ac) (base:Heap) (k:Nat) (x:Str) (ps:ax) (sp:Sp):Prop where
 ex:∃f fd,FnOk P w K mg base lI k f fd ps sp/\mg x=some (.ref f)/\PySem.W.keepIn K (.ref f)=true/\Binds K fd ps []
def cl6(sp:Sp)(t:TA):TE:=λO H Q=>t O H λvs H1=>sp vs H1 Q E0
section
variable{X:Cx}
def ef3(d:dR X.prog X.w X.K X.mg X.base k x ps sp)(hr:Room k X.A)(ha:PA X (e::es) t)(hg:Gl X x:=by rfl)
 (hdb:(x==("__debug__":Str))=false:=by decide)(he:starEach (e::es) X.env=(false,eval e X.env)::starEach es X.env:=by rfl)(hpl:(backTo pos (starEach es X.env)).any (·.1)=false:=by rfl):
 PE X (.Call (.Name x p) (e::es) [] pos) (cl6 sp t):=by
 refine z23 d.ex λf fd F hm hk hb=>?_;intro ζ s O H Q I h;have e1:(λvs H1=>sp (vs++[]) H1 Q E0)=λvs H1=>sp vs H1 Q E0:=by funext vs H1;rw[K8]
 refine ec0 F hr hg hm hk hb .nil ab9 ha hdb he hpl s O H Q I ?_;show t O H λvs H1=>sp (vs++[]) H1 Q E0;rw[e1];exact h
end
end L2
namespace Att
open PySem PySem.W PySem.Calls PyProof.Rows
theorem weight_mem:∀(ns:ah)(n:Int),n∈ns->WData.weight (.int n)<=WData.weightAll (ns.map WData.int)
 |m::ns,n,h=>by
  rw[C7];simp only[WData.weightAll];rcases C4.mp h with rfl|h
  . omega
  . have:=weight_mem ns n h;omega
def bits_of{ns:ah}(h:WData.layableAll [.list (ns.map WData.int)]=true):∀n∈ns,Builtin.Int.intBits n<=1048576:=by
 intro n hn;have h1:WData.layable (.list (ns.map WData.int))=true:=by have h2:([WData.list (ns.map WData.int)].all WData.layable)=true:=h;rw[U8,G8]at h2;exact h2.1
 unfold WData.layable at h1;rw[G8]at h1;have h3:=of_decide_eq_true h1.2;have h4:=weight_mem ns n hn;have h5:WData.weight (.int n)=Builtin.Int.intBits n:=by unfold WData.weight Builtin.Int.intBits;rfl
 have h6:WData.weight (.list (ns.map WData.int))=WData.weightAll (ns.map WData.int):=by
  conv=>lhs;unfold WData.weight
 rw[h6]at h3;rw[h5]at h4;have h7:(2:Nat)^20=1048576:=X5
 omega
def attach_callB{l:OpenLaw}{n:Nat}{q:G1}{loose:ax}{XP:(Str->Option Value)->Heap->Prop}{YP:World->Heap->Prop}{d:DefRec}
 (hn:l.most=some n)(hdf:d.params.defaults=[])
 (call:∀(w:World)(s₀ s₁:B8)(mg mb:ac)(fa:Addr)(o:Obj)(pm cd doc:Value)(a:Addr)(vs:ao)(ns:ah),
  Ground q loose [] XP w s₀ mg mb s₁.heap->YP w s₁.heap->
  s₁.heap.get? fa=some o->o.data=.func (docDef d.name d.params d.body d.scope pm cd doc)->s₁.heap.CodeRec cd d.name->mg d.name=some (.ref fa)->
  s₁.heap.get? a=some {cls:=.type "list",data:=.seq vs.toArray}->IntsAre vs ns->ns.length<=n->s₁.gens=#[]->(∀n∈ns,Builtin.Int.intBits n<=1048576)->
  codeAny (model l.prog w) callerA (.call (.ref fa) ⟨[.ref a],[]⟩) (λr s'=>r=.ok (.ret (.bool true))/\OldK s₁.heap s'.heap/\s'.os=s₁.os/\AllBare s'.gens) s₁):
 WalkO q loose XP YP l.row.toRowW d [] (λf vs=>PySem.call f vs):=by
 intro w s₀ s₁ mg mb G Y fa o pm cd doc dV kV ho hd hcd hD hmg hg args vals as hpre hlay hrd hwl hlo;obtain rfl:dV=.none:=Dflts.none hD hdf;obtain rfl:kV=.none:=Dflts.noKw hD;refine z34 (script_of hn hpre hwl) λa vs ns zz zy hobj hints hlen=>?_;subst zz zy;refine enter_call (S8 (call w s₀ s₁ mg mb fa o pm cd doc a vs ns G Y ho (fd_plain hd) hcd hmg hobj hints hlen hg (bits_of hlay)) λr s' hq=>?_);refine z03 hq λzz h2 h3 h4=>?_;clear hq;subst zz;exact⟨.inl ⟨.bool true,.bool true,[],rfl,λ_=>rfl,.bool true,post_true l _,λ_=>⟨List.Pairwise.nil,λ_ hm=>(nomatch hm)⟩⟩,h2,h3,h4⟩
end Att
namespace L2
def SqS(K:A5)(H:Hp)(a:Addr)(xs:a_):Prop:=
 Rd H a (.lst xs)\/
  ∃(o:Obj)(its:bg)(n:Nat),K.lookup a=some o/\o.cls=.type "list"/\o.dict=none/\o.slots=#[]/\o.data=.seq its n/\its.size<=sizeLine/\Vals xs its.toList
def SqS.sq{K:A5}{H:Hp}{a:Addr}{xs:a_}(h:SqS K H a xs):SqL K H a xs:=by
 rcases h with h|⟨o,its,n,h1,h2,h3,_,h5,h6,h7⟩
 . exact .inl h
 . exact .inr ⟨o,its,n,h1,h2,h3,h5,h6,h7⟩
def Inv.listS(I:Inv X ζ O H s)(h:SqS X.K H a xs):∃(its:ao)(n:Nat),Vals xs its/\s.heap.get? a=some {cls:=.type "list",data:=.seq its.toArray n}/\xs.length<=sizeLine:=by
 rcases h with h|⟨o,its,n,hk,hc,hd,hsl,hs,hz,r⟩
 . obtain⟨z,its,n,r,e⟩:=h.ok I.hok;exact⟨its,n,r,e,z⟩
 . have e:=I.kIn a o hk;obtain⟨cls,dict,data,slots⟩:=o;simp only at hc hd hsl hs;subst hc hd hsl hs;refine⟨its.toList,n,r,by simpa using e,?_⟩;have:=r.length;simp only[Array.length_toList]at this;omega
def bv7(K:A5):Sp:=λvs H Q _=>∃(a:Addr)(ns:ah),vs=[.ref a]/\SqS K H a (ns.map V.int)/\ns.length<=63/\(∀n∈ns,Builtin.Int.intBits n<=1048576)/\∀H',Q (.bl true) H'
def dw3{l:PySem.W.OpenLaw}{k:Nat}{q:G1}{loose:ax}{XP:(Str->Option Value)->Heap->Prop}{YP:World->Heap->Prop}{d:DefRec}{K:Params->A5}{x:Str}
 (hn:l.most=some 63)(hdf:d.params.defaults=[])(hr:Room k callerA)
 (hY:∀(w:World)(h:Heap),YP w h->(K w.params).In h)
 (F:∀(w:World)(mg:ac)(fa:Addr)(h:Heap),(K w.params).In h->h.Ns mainGlobals mg->mg d.name=some (.ref fa)->
  ∃fd:FuncData,(∀(s:B8)(u:Value),BindsTo s fd ⟨[u],[]⟩ [(x,u)])/\
   ∀base:Heap,(K w.params).In base->base.Ns mainGlobals mg->FnOk l.prog w (K w.params) mg base lI k fa fd [x] (bv7 (K w.params))):
 PySem.W.WalkO q loose XP YP l.row.toRowW d [] (λf vs=>PySem.call f vs):=by
 refine Att.attach_callB hn hdf λw s₀ s₁ mg mb fa o pm cd doc a vs ns G Y ho hd hcd hmg hobj hints hlen hg hbits=>?_;have KX:=hY w _ Y;obtain⟨fd,hb,hF⟩:=F w mg fa _ KX G.T.g hmg;have hS':∀{H:Hp},SqL (K w.params) H a (ns.map V.int)->SqS (K w.params) H a (ns.map V.int):=λ{H} h=>by
  rcases h with h|⟨o,its,n,h1,h2,h3,h5,h6,h7⟩
  . exact .inl h
  . have e:=KX a o h1;rw[hobj]at e;cases e;exact .inr ⟨_,its,n,h1,h2,h3,rfl,h5,h6,h7⟩
 exact dk5 KX G.T.g G.T.b G.T.builtins G.T.nolimit hg hobj hints (K1 hlen X5) hr hF hb (λH hO hS=>⟨a,ns,rfl,hS' hS,hlen,hbits,λ_=>rfl⟩) λH e s' h=>h
abbrev oV(X:Cx)(scope:Scope)(cl:b9)(C:Addr)(s₀:B8)(H₀:Hp)(ex:av):Cx:=
 {X with s₀:=s₀,H₀:=H₀,env:=compEnvC scope cl C X.env,outer:=X.stack,ex:=ex,fn:=λ_=>false,pn:=[],xe:=λ_ _=>False}
def hV(cells:b9):List (Str×NameKind)->List (Str×Addr)->List (Str×Addr)
 |[],acc=>acc
 |(n,k)::r,acc=>if(k==.free)=true then hV cells r ((n,(cells.lookup n).getD 0)::acc)else hV cells r acc
theorem at2:∀(names:b7)(acc:b9),(∀x∈names,x.2=.free->∃c,env.cells.lookup x.1=some c)->
 (forIn names acc λ(x:Str×NameKind)(cs:b9)=>(if(x.2==.free)=true then(do let c<-cellOf env x.1;pure (ForInStep.yield ((x.1,c)::cs)))else pure (ForInStep.yield cs):Sem (ForInStep (List (Str×Addr)))))=(pure (hV env.cells names acc):Sem (List (Str×Addr)))
 |[],acc,_=>rfl
 |(n,k)::r,acc,h=>by
  rw[List.forIn_cons];have hr:∀x∈r,x.2=.free->∃c,env.cells.lookup x.1=some c:=λx hx=>h x (B5 _ hx);by_cases hk:(k==NameKind.free)=true
  . obtain⟨c,hc⟩:=h (n,k) B7 (by simpa using hk);have e1:cellOf env n=pure c:=by unfold cellOf;rw[hc]
    simp only[hk,N4,e1,pure_bind];have e2:hV env.cells ((n,k)::r) acc=hV env.cells r ((n,c)::acc):=by
     conv=>lhs;unfold hV
     rw[E3 hk,hc];all_goals rfl
    rw[e2];exact at2 r _ hr
  . simp only[hk,Q2,pure_bind];have e2:hV env.cells ((n,k)::r) acc=hV env.cells r acc:=by
     conv=>lhs;unfold hV
     rw[D7 hk]
    rw[e2];exact at2 r _ hr
def ah2 (h : ∀ x ∈ scope.names, x.2 = .free → ∃ c, env.cells.lookup x.1 = some c) : closureFor scope env = pure (hV env.cells scope.names []) := by
  have q := at2 (env := env) scope.names [] h
  unfold closureFor
  have e : (forIn scope.names ([] : List (Str × Addr)) fun (x : Str × NameKind) (r : List (Str × Addr)) =>
      (match x with
      | (name, kind) => if (kind == NameKind.free) = true then (do let c ← cellOf env name; pure (ForInStep.yield ((name, c) :: r))) else pure (ForInStep.yield r) : Sem (ForInStep (List (Str × Addr))))) = pure (hV env.cells scope.names []) := q
  first
    | (show (do let r ← (forIn scope.names ([] : List (Str × Addr)) _); pure r) = _; erw [e]; rfl)
    | (simp only [bind_pure]; exact e)
    | exact e
theorem yI:∀(names:b7)(acc:b9),(∀x∈names,x.2=.free->∃c,cells.lookup x.1=some c)->(∀y c,acc.lookup y=some c->cells.lookup y=some c)->
 ∀y c,(hV cells names acc).lookup y=some c->cells.lookup y=some c
 |[],_,_,ha=>ha
 |(n,k)::r,acc,h,ha=>by
  have hr:∀x∈r,x.2=.free->∃c,cells.lookup x.1=some c:=λx hx=>h x (B5 _ hx);unfold hV;by_cases hk:(k==NameKind.free)=true
  . rw[E3 hk];obtain⟨c,hc⟩:=h (n,k) B7 (by simpa using hk);refine yI r _ hr λy d e=>?_;rw[J5]at e;cases q:y==n with
    |true=>
     rw[q]at e;have e':(cells.lookup n).getD 0=d:=G0 e;have yn:y=n:=by simpa using q
     subst yn;have hc':cells.lookup y=some c:=hc;rw[hc']at e'⊢;exact N1 some e'
    |false=>rw[q]at e;exact ha y d e
  . rw[D7 hk];exact yI r acc hr ha
theorem xW:∀(names:b7)(acc:b9)(y:Str),(∃c,acc.lookup y=some c)->∃c,(hV cells names acc).lookup y=some c
 |[],_,_,h=>h
 |(n,k)::r,acc,y,h=>by
  unfold hV;split
  . refine xW r _ y ?_;rw[J5];cases q:y==n with
    |true=>exact⟨_,rfl⟩
    |false=>exact h
  . exact xW r acc y h
theorem xC:∀(names:b7)(acc:b9)(y:Str),(y,NameKind.free)∈names->∃c,(hV cells names acc).lookup y=some c
 |(n,k)::r,acc,y,h=>by
  unfold hV;rcases C4.mp h with e|h
  . have e1:y=n:=N1 Prod.fst e;have e2:NameKind.free=k:=N1 Prod.snd e;subst e1;subst e2;rw[E3 (by rfl)];refine xW r _ y ?_;rw[J5,O0];exact⟨_,rfl⟩
  . split
    . exact xC r _ y h
    . exact xC r _ y h
theorem af1{env:Env}{x:Str}:∀(names:b7),
 (names.map λ(n,k)=>if(k==NameKind.free&&env.scope.kind==.function&&env.kindOf n==some .cell)then(n,NameKind.cell)else(n,k)).lookup x
  =(names.lookup x).map λk=>if(k==NameKind.free&&env.scope.kind==.function&&env.kindOf x==some .cell)=true then NameKind.cell else k
 |[]=>rfl
 |(n,k)::r=>by
  have ih:=af1 (env:=env) (x:=x) r;show List.lookup x ((if(k==NameKind.free&&env.scope.kind==.function&&env.kindOf n==some .cell)=true then(n,NameKind.cell)else(n,k))::_)=_;rw[J5 (a:=x) (as:=r)];cases hx:x==n with
  |true=>
   have e:x=n:=by simpa using hx
   subst e;by_cases hc:(k==NameKind.free&&env.scope.kind==.function&&env.kindOf x==some .cell)=true
   . rw[E3 hc,J5,O0];show some NameKind.cell=some (if _ then _ else _);rw[E3 hc]
   . rw[D7 hc,J5,O0];show some k=some (if _ then _ else _);rw[D7 hc]
  |false=>
   by_cases hc:(k==NameKind.free&&env.scope.kind==.function&&env.kindOf n==some .cell)=true
   . rw[E3 hc,J5,hx];exact ih
   . rw[D7 hc,J5,hx];exact ih
theorem ac7:∀{names:b7},names.lookup x=some k->(x,k)∈names
 |(n,k')::r,h=>by
  rw[J5]at h;cases hx:x==n with
  |true=>
   rw[hx]at h;have e:x=n:=by simpa using hx
   subst e;cases h;exact B7
  |false=>rw[hx]at h;exact B5 _ (ac7 h)
structure CScope (X:Cx) (ks:az) (scope:Scope):Prop where
 kind:scope.kind=.function
 cell:∀y∈scope.names,y.2≠ .cell
 names:∀y∈scope.names,y.2=.local->scope.names.lookup y.1=some .local
 freeB:(scope.names.all λy=>!(y.2==NameKind.free)||(X.env.kindOf y.1==some NameKind.cell||X.env.kindOf y.1==some NameKind.free))=true
 slotsB:(X.N.zipIdx.all λp=>!(scope.names.lookup p.1==some NameKind.local)||ks.contains p.2)=true
theorem CScope.free(S:CScope X ks scope):∀y∈scope.names,y.2=.free->X.env.kindOf y.1=some .cell\/X.env.kindOf y.1=some .free:=λy hy hk=>by have h:=K4.mp S.freeB y hy;rw[hk]at h;simpa using h
def CScope.slots(S:CScope X ks scope):∀p∈X.N.zipIdx,scope.names.lookup p.1=some .local->p.2∈ks:=λp hp hk=>by have h:=K4.mp S.slotsB p hp;rw[hk]at h;simpa using h
def clr:List Nat->St->St
 |[],O=>O
 |k::ks,O=>clr ks (O.set k none)
theorem sZ:∀(ks:az)(O:St),(clr ks O).length=O.length
 |[],_=>rfl
 |k::ks,O=>by show(clr ks (O.set k none)).length=_;rw[sZ ks,N7]
theorem bu1:∀(ks:az)(O:St){i:Nat}{v:V},(clr ks O)[i]?=some (some v)->O[i]?=some (some v)/\i∉ks
 |[],_,_,_,h=>⟨h,J3⟩
 |k::ks,O,i,v,h=>by
  obtain⟨h1,h2⟩:=bu1 ks (O.set k none) h;by_cases e:i=k
  . subst e;rw[List.getElem?_set_self']at h1;cases q:O[i]? with
    |_=>rw[q]at h1;cases h1
  . rw[J9 (N6 e)]at h1;exact⟨h1,λz=>(C4.mp z).elim e h2⟩
def PIf(Y:Cx)(ifs:bj)(t:TT):Prop:=
 ∀⦃ζ:ad⦄ (s:B8)(O:St)(H:Hp)(Q:b_),Inv Y ζ O H s->t O H Q->
  wpAny (model Y.prog Y.w) Y.A (forIn ifs true λc r=>if r=true then do let ok<-isTrue c Y.env (eval c Y.env);pure (ForInStep.yield ok)else pure (ForInStep.yield r)) (TP Y ζ O Q) Y.xe s
def eh3:TT:=λ_ H Q=>Q true H
def cR:PIf Y [] eh3:=λ_ _ _ H _ I h=>wpAny_tests_nil ⟨H,I,h⟩
def bx1(h:PT Y c t):PIf Y [c] t:=λζ s O H Q I q=>wpAny_tests_one (h s O H Q I q)
theorem cl9(I:Nat->B8->Prop)
 (turn:∀n s,I n s->wpAny (model prog w) A (pyNext it) (λr s₁=>match r with
  |none=>R (.ok .next) s₁
  |some v=>wpAny (model prog w) A (letOwnedTupleGo target it v) (λ_ s₁'=>wpAny (model prog w) A (assign target env v) (λ_ s₂=>
   wpAny (model prog w) A (forIn ifs true λc r=>if r=true then do let ok<-isTrue c env (eval c env);pure (ForInStep.yield ok)else pure (ForInStep.yield r)) (λok s₃=>
    if ok=true then wpAny (model prog w) A (eval elt env) (λx s₄=>
     wpAny (model prog w) A (call (.builtin "list.append") [acc,x]) (λ_ s₅=>∃m,m<n/\I m s₅) (λ_ _=>False) s₄) (λ_ _=>False) s₃
    else∃m,m<n/\I m s₃) (λ_ _=>False) s₂) (λ_ _=>False) s₁') (λ_ _=>False) s₁) (λ_ _=>False) s)
 (n:Nat)(h:I n s):
 codeAny (model prog w) A (.compLoop (.ListComp elt [⟨target,iter,ifs,0⟩] scope pos) 0 it acc env) R s:=by
 refine codeAny_loop rfl I (λn s hI=>?_) n h;show wpAny _ A ((compTurn (.ListComp elt [⟨target,iter,ifs,0⟩] scope pos) 0 it acc env).onRaise (λx=>do noteFrame x env;theTreesLotGoes x)) _ _ s;refine wpAny_noted ?_;rw[compTurn_list];refine A7 (W7 (A7 (N9 (turn n s hI) (λr s₁ h₁=>?_) λ_ _ h'=>h'.elim)));cases r with
 |none=>exact B9 h₁
 |some v=>
  refine A7 (N9 h₁ (λ_ s₁' h₁'=>?_) λ_ _ h'=>h'.elim);refine A7 (N9 h₁' (λ_ s₂ h₂=>A7 (N9 h₂ (λok s₃ h₃=>?_) λ_ _ h'=>h'.elim)) λ_ _ h'=>h'.elim);cases ok with
  |false=>exact B9 ⟨rfl,h₃⟩
  |true=>exact A7 (A7 (N9 h₃ (λx s₄ h₄=>A7 (N9 h₄ (λ_ s₅ h₅=>B9 (B9 ⟨rfl,h₅⟩)) λ_ _ h'=>h'.elim)) λ_ _ h'=>h'.elim))
def Inv.track(I:Inv X ζ O H s)(hn:H D=none)(hl:X.s₀.heap.objs.size<=D)(hL:D≠X.env.locals)
 (hc:∀x c,X.env.cells.lookup x=some c->c≠D)(hp:∀p∈X.pn++ζ,p.1≠D)(e:s.heap.get? D=some {cls:=.type "list",data:=.seq its.toArray n})(rv:Vals ys its)(hz:ys.length<=sizeLine):
 Inv X ζ O (upd H D (.lst ys)) s:=by
 have old:∀b o,X.s₀.heap.get? b=some o->b≠D:=λb o q z=>by subst z;exact E8 (G3 (D5 q) hl) (O4 _)
 have ne:∀b o,H b=some o->b≠D:=λb o q=>iZ q hn;refine⟨I.ok,I.os,I.bare,⟨I.base.keep,I.base.slot,λb o q n' hx=>?_,I.base.there,λb xs q=>?_,λb o u q=>?_,λb ps q=>?_⟩,I.loc,I.cell,?_,λx c q=>?_,λp q=>?_,λb u q=>?_,I.len⟩
 . rw[dJ (old b o q)];exact I.base.free b o q n' hx
 . have z:=I.base.tups b xs q;rw[dJ (ne _ _ z)];exact z
 . have z:=I.base.frzs b o u q;rw[dJ (ne _ _ z)];exact z
 . obtain⟨more,z⟩:=I.base.tbls b ps q;exact⟨more,by rw[dJ (ne _ _ z)];exact z⟩
 . rw[dJ (N6 hL)];exact I.free
 . rw[dJ (hc x c q)];exact I.freeC x c q
 . obtain⟨h1,h2,h3⟩:=I.pin p q;exact⟨h1,by rw[dJ (hp p q)];exact h2,h3⟩
 . by_cases hb:b=D
   . subst hb;rw[gC]at q;cases q;exact⟨hz,its,n,rv,e⟩
   . rw[dJ hb]at q;exact(I.hok b u q).stay (λc v _ z=>z) (λc z=>by rw[dJ (ne _ _ z)];exact z) λc xs z=>by rw[dJ (ne _ _ z)];exact z
def Ext(ks:az)(O σ2:St):Prop:=σ2.length=O.length/\∀(i:Nat)(v:V),(clr ks O)[i]?=some (some v)->σ2[i]?=some (some v)
def CGo(ks:az)(g:TG)(tc:TT)(te:TE)(O:St)(F:Addr->Hp->Prop)(J:It)(H1:Hp):Prop:=
 ∃W:Nat->Nat->List V->Hp->Prop,(∃m,W 0 m [] H1)/\∀i m ys H,W i m ys H->
  (J.stop i H/\∀D,H D=none->F D (upd H D (.lst ys)))\/
  (J.go i H/\ys.length<sizeLine/\∃N:List V->Hp->Prop,(∀ys' H',N ys' H'->∃m',m'<m/\W (i+1) m' ys' H')/\∀x H',J.yld i H x H'->g x (clr ks O) H' λσ2 H2=>Ext ks O σ2/\tc σ2 H2 λb H3=>
   if b=true then te σ2 H3 λv H4=>N (ys++[v]) H4 else N ys H3)
def cq5(ks:az)(wi:TI)(g:TG)(tc:TT)(te:TE):TE:=λO H Q=>wi O H (CGo ks g tc te O λD H'=>Q (.ref D) H')
def at7(k:Nat)(ks:az)(wi:TI)(g:TG)(tc:TT)(te:TE):TS:=λD O H=>wi O H (CGo ks g tc te O λa H'=>D.nx (O.set k (some (.ref a))) H')
section
variable{X:Cx}
def cv3{tg iter elt:Expr}{ifs:bj}{scope:Scope}{pos:Pos}{ks:az}{g:TG}{tc:TT}{te:TE}{F:Addr->Hp->Prop}{RR:Value->Addr->Result->B8->Prop}{E:af}
 {ζ:ad}{O:St}{s2:B8}{itv:Value}(S:CScope X ks scope)(hc:X.calm=true)
 (hg:∀cl C s₀ H₀ ex,PG (oV X scope cl C s₀ H₀ ex) tg g)(hi:∀cl C s₀ H₀ ex,PIf (oV X scope cl C s₀ H₀ ex) ifs tc)(he:∀cl C s₀ H₀ ex,PE (oV X scope cl C s₀ H₀ ex) elt te)
 (h:PIE X ζ O tg (CGo ks g tc te O F) itv s2)
 (hRR:∀D C s' H',Inv X ζ O H' s'->(∃m,s'.heap.Ns C m)->uR X ζ H' C->F D H'->RR (.ref D) C (.ok .next) s'):
 wpAny (model X.prog X.w) X.A (newList []) (λacc s₃=>wpAny (model X.prog X.w) X.A (newFunctionEnv scope X.env.globals (hV X.env.cells scope.names []) [] X.env.qual none .none (some X.env)) (λcenv s₄=>
  codeAny (model X.prog X.w) X.A (.compStart (.ListComp elt [⟨tg,iter,ifs,0⟩] scope pos) 0 itv acc {cenv with scope:=relabel scope X.env}) (RR acc cenv.locals) s₄) E s₃) E s2:=by
 obtain⟨it,fp,tn,J,H2,rfl,I2,T,st2,f2,W,⟨m0,w0⟩,turn⟩:=h
 refine K7 (wpAny_newFunctionEnv S.cell (by intro y hy;simp at hy) (λh₁ hns₁ hsb₁=>?_) S.kind)
 dsimp only at hns₁ hsb₁⊢
 have hD2:s2.heap.get? s2.heap.objs.size=none:=Heap.get?_none_of_le (C9 _)
 have nD:H2 s2.heap.objs.size=none:=I2.hok.fresh (C9 _)
 have I3:Inv X ζ O H2 {s2 with heap:=s2.heap.push {cls:=.type "list",dict:=none,data:=.seq ([]:List Value).toArray}}:=I2.kept (t':=s2.toks) λb o e=>B0 _ e
 have eD3:(s2.heap.push {cls:=.type "list",dict:=none,data:=.seq ([]:List Value).toArray}).get? s2.heap.objs.size=some {cls:=.type "list",dict:=none,data:=.seq ([]:List Value).toArray}:=D6 _ rfl
 have hsz3:(s2.heap.push {cls:=.type "list",dict:=none,data:=.seq ([]:List Value).toArray}).objs.size=s2.heap.objs.size+1:=L4 _ _
 have fD:=I2.fpOk (b:=s2.heap.objs.size) (C9 _) nD
 have fplt:∀b∈fp,b<s2.heap.objs.size:=λb hb=>by
  obtain⟨o,e,_⟩:=T.obj _ _ st2 b hb
  exact D5 e
 have hDfp:s2.heap.objs.size∉fp:=λz=>O4 _ (fplt _ z)
 generalize hs3:({s2 with heap:=s2.heap.push {cls:=.type "list",dict:=none,data:=.seq ([]:List Value).toArray}}:B8)=s3 at I3
 generalize hDD:s2.heap.objs.size=D at*
 have s3h:s3.heap=s2.heap.push {cls:=.type "list",dict:=none,data:=.seq ([]:List Value).toArray}:=by rw[<-hs3]
 rw[<-s3h]at hns₁ hsb₁ eD3 hsz3
 have fC:=I3.fpOk (H':=H2) (b:=s3.heap.objs.size) (C9 _) (I3.hok.fresh (C9 _))
 have old:∀b o,s3.heap.get? b=some o->h₁.get? b=some o:=λb o e=>hsb₁.extBut b o (G2 (D5 e)) (B0 _ e)
 generalize hCC:s3.heap.objs.size=C at*
 have hDltC:D<C:=by rw[hsz3];exact Q7 _
 have hDC:D≠C:=G2 hDltC
 have hclos:=ah2 (env:=X.env) (scope:=scope) λx hx hk=>I2.ok.has x.1 (S.free x hx hk)
 have csound:∀y c,(hV X.env.cells scope.names []).lookup y=some c->X.env.cells.lookup y=some c:=
  yI scope.names [] (λx hx hk=>I2.ok.has x.1 (S.free x hx hk)) λy c e=>by cases e
 generalize hcl:hV X.env.cells scope.names []=cl at*
 have kin:∀y,(compEnvC scope cl C X.env).kindOf y=(scope.names.lookup y).map λk=>if(k==NameKind.free&&X.env.scope.kind==.function&&X.env.kindOf y==some .cell)=true then NameKind.cell else k:=λy=>af1 scope.names
 have isFree:∀y,((compEnvC scope cl C X.env).kindOf y=some .cell\/(compEnvC scope cl C X.env).kindOf y=some .free)->(y,NameKind.free)∈scope.names:=λy hy=>by
  rw[kin y]at hy
  cases q:scope.names.lookup y with
  |none=>
   rw[q]at hy
   rcases hy with z|z<;>cases z
  |some k=>
   rw[q]at hy
   have hm:=ac7 q
   cases k with
   |free=>exact hm
   |cell=>exact E8 rfl (S.cell _ hm)
   |_=>
    rcases hy with z|z
    . exact E8 (G0 z) X4
    . exact E8 (G0 z) X4
 have neFs:∀b,uR X ζ H2 b->b∉frs X.stack:=λb f z=>by
  rcases C4.mp (I2.stkSub b z)with e|e
  . exact f.2.1 e
  . exact f.2.2.1 e
 have exs:∀b∈D::fp,uR X ζ H2 b:=λb hb=>by
  rcases C4.mp hb with e|e
  . rw[e];exact fD
  . exact f2 b e
 have exlt:∀b∈D::fp,b<C:=λb hb=>by
  rcases C4.mp hb with e|e
  . rw[e];exact hDltC
  . exact Nat.lt_trans (fplt b e) hDltC
 have okY:(oV X scope cl C s3 H2 (D::fp)).Ok:=
  {
   mod:=I2.ok.mod,kind:=S.kind,glob:=I2.ok.glob,blt:=I2.ok.blt,above:=Nat.le_of_eq hCC
   inj:=λx y c h1 h2=>I2.ok.inj x y c (csound _ _ h1) (csound _ _ h2)
   has:=λy hy=>by
    have z:=xC (cells:=X.env.cells) scope.names [] y (isFree y hy)
    rw[hcl]at z
    exact z
   cab:=λ_ _ z=>by cases z
   hd:=I2.ok.hd,frames:=I2.ok.frames,stk:=.inl rfl
   exf:=λb hb=>⟨G2 (exlt b hb),λx c e z=>(exs b hb).2.2.2.2.1 x c (csound _ _ e) z⟩
   bs:=I3.bs
   bsz:=K1 I2.ok.bsz I3.sz
   noex:=λb o e hb=>by
    rcases(exs b hb).2.2.2.1 with z|z
    . exact I2.ok.noex b o e z
    . exact E8 (G3 (D5 e) (K1 I2.ok.bsz z)) (O4 _)
   exfs:=λb hb=>neFs b (exs b hb)
   funs:=I3.stack
   frf:=I3.stkFree}
 have outP:∀p∈X.pn++ζ,p.1≠C/\p.1∉frs X.stack/\p.1≠D:=λp hp=>by
  refine z04 (I2.pin p hp) λe n ne nf d=>?_
  have lt:p.1<D:=by rw[<-hDD];exact D5 e
  refine⟨G2 (Nat.lt_trans lt hDltC),λz=>?_,G2 lt⟩
  rcases C4.mp (I2.stkSub p.1 z)with q|q
  . exact ne q
  . exact nf q
 have I4:Inv (oV X scope cl C s3 H2 (D::fp)) (X.pn++ζ) (clr ks O) H2 {s3 with heap:=h₁,toks:=s3.toks+([]:List (Str×Value)).length}:=by
  refine⟨okY,rfl,I3.bare,Un.kept old,⟨_,hns₁,λi x v e1 e2 e3=>?_⟩,λx c e=>?_,?_,λx c e=>?_,λp hp=>?_,I3.hok.kept old,?_⟩
  . obtain⟨e2,nk⟩:=bu1 ks O e2
    have hv:(compEnvC scope cl C X.env).kindOf x=some .cell\/(compEnvC scope cl C X.env).kindOf x=some .free:=by
     rcases e3 with z|z|z
     . exfalso
       have z':(compEnvC scope cl C X.env).kindOf x=some .local:=z
       rw[kin x]at z'
       have hm:(x,i)∈X.N.zipIdx:=by
        rw[List.mem_zipIdx_iff_getElem?]
        exact e1
       refine nk (S.slots (x,i) hm ?_)
       show scope.names.lookup x=some .local
       cases q:scope.names.lookup x with
       |none=>rw[q]at z';cases z'
       |some k=>
        rw[q]at z'
        have z2:=G0 z'
        cases k with
        |«local»=>rfl
        |free=>
         exfalso
         dsimp only at z2
         split at z2<;>cases z2
        |_=>exact E8 z2 X4
     . exact .inl z
     . exact .inr z
    have hf:=isFree x hv
    have hX:=S.free (x,.free) hf rfl
    obtain⟨m,hn,hl⟩:=I3.loc
    obtain⟨u,r,lk⟩:=hl i x v e1 e2 (by rcases hX with z|z;exact .inr (.inl z);exact .inr (.inr z))
    refine⟨u,r,.inr ⟨hv,?_⟩⟩
    have z:=xC (cells:=X.env.cells) scope.names [] x hf
    rw[hcl]at z
    obtain⟨c,hcx⟩:=z
    rcases lk with⟨kl,_⟩|⟨_,c',e',z'⟩
    . have hX':X.env.kindOf x=some .cell\/X.env.kindOf x=some .free:=hX
      rw[kl]at hX'
      rcases hX' with z|z<;>cases z
    . have q:=csound x c hcx
      rw[e']at q
      cases q
      obtain⟨o,ho,hd⟩:=z'
      exact⟨c,hcx,o,old _ _ ho,hd⟩
  . refine z21 (I3.cell x c (csound x c e)) λv o ho hd=>?_
    exact⟨v,o,old _ _ ho,hd⟩
  . exact I3.hok.fresh (Nat.le_of_eq hCC)
  . exact I3.freeC x c (csound x c e)
  . have hp':p∈X.pn++ζ:=hp
    refine z04 (I3.pin p hp') λe n ne nf d=>?_
    exact⟨old _ _ e,n,(outP p hp').1,(outP p hp').2.1,d⟩
  . rw[sZ]
    exact I3.len
 have fpY:∀{pl:ad}{H':Hp},(∀p∈pl,p.1∉fp)->(∀b∈fp,H' b=none)->∀b∈fp,uR (oV X scope cl C s3 H2 (D::fp)) ((X.pn++ζ)++pl) H' b:=λ{pl H'} hpl hn b hb=>by
  have f:=f2 b hb
  refine⟨hn b hb,G2 (exlt b (B5 _ hb)),neFs b f,.inl (B5 _ hb),λx c e z=>f.2.2.2.2.1 x c (csound x c e) z,λp hp=>?_⟩
  have hp':p∈(X.pn++ζ)++pl:=hp
  rcases A9.mp hp' with q|q
  . exact f.2.2.2.2.2 p q
  . exact λz=>hpl p q (by rw[z];exact hb)
 have start:∀s₅:B8,s₅={s3 with heap:=h₁,toks:=s3.toks+([]:List (Str×Value)).length}->
  codeAny (model X.prog X.w) X.A (.compLoop (.ListComp elt [⟨tg,iter,ifs,0⟩] scope pos) 0 (.ref it) (.ref D) (compEnvC scope cl C X.env)) (RR (.ref D) C) s₅:=by
  rintro s₅ rfl
  refine cl9 (λn s'=>∃i H' ys its nn,Inv (oV X scope cl C s3 H2 (D::fp)) (X.pn++ζ) (clr ks O) H' s'/\tn i s'.heap/\(∀b∈fp,H' b=none)/\H' D=none/\s'.heap.get? D=some {cls:=.type "list",data:=.seq its nn}/\Vals ys its.toList/\ys.length<=sizeLine/\W i n ys H') ?_ m0
   ⟨0,H2,[],#[],0,I4,T.keep _ _ _ st2 (λb hb o e=>old _ _ (by rw[s3h];exact B0 _ e)),λb hb=>(f2 b hb).1,nD,old _ _ eD3,.nil,R7 _,w0⟩
  rintro n s6 ⟨i,H6,ys,its,nn,I6,st6,fr6,nD6,eD6,rv6,hz6,w6⟩
  have I6':Inv (oV X scope cl C s3 H2 (D::fp)) ((X.pn++ζ)++[(D,{cls:=.type "list",data:=.seq its nn})]) (clr ks O) H6 s6:=I6.pins_of λp hp=>(A9.mp hp).elim (λz=>I6.pin p (C6 _ z)) λz=>by
   obtain rfl:=C5.mp z
   exact⟨eD6,nD6,hDC,neFs D fD,λv q=>by cases q⟩
  have plD:∀p∈[((D,{cls:=.type "list",data:=.seq its nn}):Addr×Obj)],p.1∉fp:=λp hp=>by
   obtain rfl:=C5.mp hp
   exact hDfp
  rcases turn i n ys H6 w6 with⟨stop,bN⟩|⟨go,hz,N,hN,step⟩
  . refine kO (T.done (oV X scope cl C s3 H2 (D::fp)) rfl rfl rfl hc i _ s6 (clr ks O) H6 _ I6' (fpY plD fr6) st6 stop) λr s7 ⟨hr,I7⟩=>?_
    subst hr
    have IX:Inv X ζ O H6 s7:=I3.call' (ch:=D::fp) I7.os I7.base I7.hok I7.bare λb hb=>⟨(exs b hb).2.2.2.1,(exs b hb).2.1,(exs b hb).2.2.2.2.1,(exs b hb).2.2.2.2.2⟩
    have eD7:=(I7.pin (D,{cls:=.type "list",data:=.seq its nn}) (C6 _ (C6 _ (C5.mpr rfl)))).1
    have rv7:Vals ys its.toList:=rv6
    have IT:Inv X ζ O (upd H6 D (.lst ys)) s7:=IX.track (its:=its.toList) (n:=nn) nD6 (by
     have:=I2.sz
     omega) fD.2.1 fD.2.2.2.2.1 fD.2.2.2.2.2 (by simpa using eD7) rv7 hz6
    obtain⟨m7,hn7,_⟩:=I7.loc
    refine hRR D C s7 _ IT ⟨m7,hn7⟩ ⟨?_,fC.2⟩ (bN D nD6)
    rw[dJ (N6 hDC)]
    exact I7.free
  . refine kO (T.item (oV X scope cl C s3 H2 (D::fp)) rfl rfl rfl hc i _ s6 (clr ks O) H6 _ I6' (fpY plD fr6) st6 go) λr s7 ⟨u,hr,h7⟩=>?_
    subst hr
    refine kO h7 λ_ s8 ⟨x,H8,I8,r8,y8,st8,fr8⟩=>?_
    have I8':=I8.pinned (fpY plD fr8) (T.obj _ _ st8)
    refine thG (hg cl C s3 H2 (D::fp) s8 (clr ks O) H8 x u _ I8' r8 (step x H8 y8)) λ_ s9 σ9 H9 I9 qq=>?_
    obtain⟨hE,q9⟩:=qq
    refine thT (hi cl C s3 H2 (D::fp) s9 σ9 H9 _ I9 q9) λok s10 H10 I10 q10=>?_
    have memD:(D,({cls:=.type "list",data:=.seq its nn}:Obj))∈([]:List (Addr×Obj))++(((X.pn++ζ)++[(D,{cls:=.type "list",data:=.seq its nn})])++ac1 fp s8.heap):=C6 _ (D9 _ (C6 _ (C5.mpr rfl)))
    have keepT:∀{σ':St}{H':Hp}{s':B8},Inv (oV X scope cl C s3 H2 (D::fp)) (((X.pn++ζ)++[(D,{cls:=.type "list",data:=.seq its nn})])++ac1 fp s8.heap) σ' H' s'->tn (i+1) s'.heap/\(∀b∈fp,H' b=none):=λ{σ' H' s'} I'=>
     ⟨T.keep _ _ _ st8 λb hb o e=>(I'.pin (b,o) (C6 _ (C6 _ (wW hb e)))).1,λb hb=>by
      obtain⟨o,e,d⟩:=T.obj _ _ st8 b hb
      exact(I'.pin (b,o) (C6 _ (C6 _ (wW hb e)))).2.1⟩
    cases ok with
    |false=>
     obtain⟨m',hm,w10⟩:=hN ys H10 q10
     obtain⟨k1,k2⟩:=keepT I10
     obtain⟨p1,p2,_⟩:=I10.pin _ memD
     exact⟨m',hm,i+1,H10,ys,its,nn,I10.unpinned.unpinned.weak (by rw[sZ];exact hE.1.symm) hE.2,k1,k2,p2,p1,rv6,hz6,w10⟩
    |true=>
     refine jI (he cl C s3 H2 (D::fp) s10 σ9 H10 _ I10 q10) λvv s11 v H11 I11 r11 n11=>?_
     obtain⟨m',hm,w11⟩:=hN _ _ n11
     obtain⟨k1,k2⟩:=keepT I11
     obtain⟨p1,p2,_⟩:=I11.pin _ memD
     have hlen:ys.length=its.size:=by have:=rv6.length;simpa using this
     refine V0 PySem.F.slot_list_append ⟨_,p1,rfl⟩ PySem.F.entry_list_append (PySem.F.args_list_append_2 _ _) (PySem.list_append D its nn vv W9) ⟨p1,?_⟩
     have q:=PySem.IsL.update p1 λxs=>xs.push vv
     refine⟨m',hm,i+1,H11,ys++[v],its.push vv,_,(I11.unpinned.unpinned.weak (by rw[sZ];exact hE.1.symm) hE.2).turned (λb o hb e=>(K9 _ _ (N6 hb)).trans e) p2 hDC (.inl B7) (λx c e z=>fD.2.2.2.2.1 x c (csound x c e) z) (λp hp=>(outP p hp).2.2),?_,k2,p2,q,?_,?_,w11⟩
     . refine T.keep _ _ _ k1 λb hb o e=>(K9 _ _ ?_).trans e
       intro z
       exact hDfp (by rw[z];exact hb)
     . have:(its.push vv).toList=its.toList++[vv]:=X4
       rw[this]
       exact rv6.append (.cons r11 .nil)
     . rw[E7,List.length_singleton]
       omega
 have hCC':(s2.heap.push {cls:=.type "list",dict:=none,data:=.seq ([]:List Value).toArray}).objs.size=C:=by rw[<-s3h];exact hCC
 rw[hCC']
 exact codeAny_compStart_list (start _ (by rw[<-hs3])) (T.self _ 0 _ _ _ (T.keep _ _ _ st2 (λb hb o e=>old _ _ (by rw[s3h];exact B0 _ e))) (start _ (by rw[<-hs3])))
def dy9(S:CScope X ks scope)(hc:X.calm=true)(hit:PI X tg iter wi)
 (hg:∀cl C s₀ H₀ ex,PG (oV X scope cl C s₀ H₀ ex) tg g)(hi:∀cl C s₀ H₀ ex,PIf (oV X scope cl C s₀ H₀ ex) ifs tc)(he:∀cl C s₀ H₀ ex,PE (oV X scope cl C s₀ H₀ ex) elt te)
 (hs:∀x,foldedSetIterable iter X.env x=pure x:=by intro _;rfl):PE X (.ListComp elt [⟨tg,iter,ifs,0⟩] scope pos) (cq5 ks wi g tc te):=by
 intro ζ s O H Q I h;rw[eval_ListComp];refine wpAny_comprehension_free (use:=none) rfl hs (ah2 λx hx hk=>I.ok.has x.1 (S.free x hx hk)) S.kind S.names (kO (hit s O H _ I h) λv s1 h1=>kO h1 λitv s2 h2=>?_);refine cv3 (RR:=λacc C=>compPost (model X.prog X.w) X.A X.xe none (EP X ζ O Q) acc C) S hc hg hi he h2 ?_;rintro D C s' H' I' ⟨m,hn⟩ f q;exact⟨m,hn,λh'' sb=>⟨.ref D,H',I'.turned (t':=s'.toks) (λb o hb e=>(sb.2 b hb).trans e) f.1 f.2.1 f.2.2.2.1 f.2.2.2.2.1 f.2.2.2.2.2,rfl,q⟩⟩
def cf7(hN:X.N.Nodup)(hi':X.N[i]?=some y)(hy:Loc X.env.scope y)
 (S:CScope X ks scope)(hc:X.calm=true)(hit:PI X tg iter wi)
 (hg:∀cl C s₀ H₀ ex,PG (oV X scope cl C s₀ H₀ ex) tg g)(hi:∀cl C s₀ H₀ ex,PIf (oV X scope cl C s₀ H₀ ex) ifs tc)(he:∀cl C s₀ H₀ ex,PE (oV X scope cl C s₀ H₀ ex) elt te)
 (hsw:swapsWith (.ListComp elt [⟨tg,iter,ifs,0⟩] scope pos) (some (.Name y py)) spos.line X.env=pure true:=by rfl)
 (hs:∀x,foldedSetIterable iter X.env x=pure x:=by intro _;rfl)(hf:X.fn y=true\/X.env.scope.names.lookup y=some .local:=by first|exact .inl rfl|exact .inr rfl|assumption):
 PS X (.Assign [.Name y py] (.ListComp elt [⟨tg,iter,ifs,0⟩] scope pos) spos) (at7 i ks wi g tc te):=by
 intro ζ s O H D I h;rw[exec_Assign_Name_used _ _ _ _ hsw];refine A7 (W7 (A7 ?_));show wpAny _ X.A (do let _<-comprehension (.ListComp elt [⟨tg,iter,ifs,0⟩] scope pos) scope X.env _ (newList []) false (eval iter X.env) (some (assign (.Name y py) X.env))) _ _ s;refine A7 (N9 (wpAny_comprehension_free (use:=some (assign (.Name y py) X.env)) (Q:=λ_ s'=>SP X ζ D .next s') rfl hs (ah2 λx hx hk=>I.ok.has x.1 (S.free x hx hk)) S.kind S.names
  (kO (hit s O H _ I h) λv s1 h1=>kO h1 λitv s2 h2=>?_)) (λ_ s' hq=>B9 (B9 hq)) λ_ _ e=>e)
 refine cv3 (RR:=λacc C=>compPost (model X.prog X.w) X.A X.xe (some (assign (.Name y py) X.env)) (λ_ s'=>SP X ζ D .next s') acc C) S hc hg hi he h2 ?_;rintro L C s' H' I' ⟨m,hn⟩ f q;show wpAny _ _ (assign (.Name y py) X.env (.ref L)) _ _ s';refine wpAny_assign_Name (bw4 (v:=.ref L) I' hN hi' hy rfl (λs'' I'' hh=>?_) hf);obtain⟨a,sb,ha⟩:=hh;have hCa:C≠a:=by
  rcases ha with e|e
  . rw[e];exact f.2.1
  . exact λz=>f.2.2.2.2.1 y a e z.symm
 exact⟨m,hn.sameBut sb hCa,λh'' sb'=>⟨_,H',I''.turned (t':=s''.toks) (λb o hb e=>(sb'.2 b hb).trans e) f.1 f.2.1 f.2.2.2.1 f.2.2.2.2.1 f.2.2.2.2.2,q⟩⟩
def cw8(hc:X.calm=true):CallR X (.builtin "max") (λxs H Q=>∃(p:Addr)(ns:ah),xs=[.ref p]/\SqL X.K H p (ns.map V.int)/\ns≠[]/\∀M,M∈ns->(∀a∈ns,a<=M)->Q (.int M) H):=by
 intro ζ s O H xs us Q I r h;refine z23 h λp ns zz hp hne q=>?_;clear h;subst zz;obtain⟨u,rfl,ru⟩:=r.one;obtain rfl:u=Value.ref p:=ru;refine z12 (I.list hp) λits rv pl _=>?_;have hi:IntsAre its ns:=wQ rv;have hl:=pl.isList;obtain⟨xs,e⟩:=hi.allInts.items;have hns:ns=xs.toList.map (·.1):=by rw[<-hi.numsOf,<-nums_intItems,<-e]
 have hsz:0<xs.size:=by have h3:=U2.mpr hne;rw[hns,C3,E6]at h3;exact h3
 rw[e]at hl;refine max_intList (I.ok.hd hc) hl hsz λv h' tk hv hk=>?_;obtain⟨t,rfl⟩:=intItems_at hv;obtain⟨h1,h2⟩:=argBest_gt (numAt xs) (xs.size-1);refine⟨.int _,H,I.kept hk,⟨t,rfl⟩,q _ ?_ λa ha=>?_⟩
 . rw[hns,numAt_eq];exact getD_mem (by rw[C3,E6];omega)
 . rw[hns]at ha;obtain⟨j,hj,rfl⟩:=mem_getD ha;rw[C3,E6]at hj;rw[<-numAt_eq];exact h2 j W9
def dz0(hc:X.calm=true):CallR X (.builtin "min") (λxs H Q=>∃(p:Addr)(ns:ah),xs=[.ref p]/\SqL X.K H p (ns.map V.int)/\ns≠[]/\∀M,M∈ns->(∀a∈ns,M<=a)->Q (.int M) H):=by
 intro ζ s O H xs us Q I r h;refine z23 h λp ns zz hp hne q=>?_;clear h;subst zz;obtain⟨u,rfl,ru⟩:=r.one;obtain rfl:u=Value.ref p:=ru;refine z12 (I.list hp) λits rv pl _=>?_;have hi:IntsAre its ns:=wQ rv;have hl:=pl.isList;obtain⟨xs,e⟩:=hi.allInts.items;have hns:ns=xs.toList.map (·.1):=by rw[<-hi.numsOf,<-nums_intItems,<-e]
 have hsz:0<xs.size:=by have h3:=U2.mpr hne;rw[hns,C3,E6]at h3;exact h3
 rw[e]at hl;refine min_intList (I.ok.hd hc) hl hsz λv h' tk hv hk=>?_;obtain⟨t,rfl⟩:=intItems_at hv;obtain⟨h1,h2⟩:=argBest_lt (numAt xs) (xs.size-1);refine⟨.int _,H,I.kept hk,⟨t,rfl⟩,q _ ?_ λa ha=>?_⟩
 . rw[hns,numAt_eq];exact getD_mem (by rw[C3,E6];omega)
 . rw[hns]at ha;obtain⟨j,hj,rfl⟩:=mem_getD ha;rw[C3,E6]at hj;rw[<-numAt_eq];exact h2 j W9
end
def Its(z:Str):It:=⟨λi _=>i<z.cps.size,λi H x H'=>H'=H/\∃c,z.cps[i]?=some c/\x=.str ⟨#[c]⟩,λi _=>z.cps.size<=i⟩
def dg0(hQ:Q () s):wpAny M A (letOwnedTupleGo tg (.ref it) (.str x t)) Q E s:=by unfold letOwnedTupleGo;cases tg<;>exact B9 hQ
def ck7{P:G1}{w:World}{K:A5}{tg:Expr}(it:Addr)(z:Str)(t:Tok):ar5 P w K tg (Its z) [it] it (λi h=>h.IsStrIter it "str_ascii_iterator" z t i) where
 mem:=X4
 obj:=λi h st b hb=>by
  have e:b=it:=by simpa using hb
  subst e;refine z12 st λo e c d=>?_;exact⟨o,e,λv q=>by rw[d]at q;cases q⟩
 keep:=λi h h' st k=>let⟨o,e,r⟩:=st;⟨o,k it X4 o e,r⟩
 item:=by intro X hP hw hK hc i ζ s O H E I hf st hg;subst hP hw hK;obtain⟨f0,f1,f2,f3,f4,f5⟩:=hf it X4;have hg':i<z.cps.size:=hg;refine wpAny_pyNext_ascii_item st (c:=z.cps[i]) (by simp[hg']) λh' hit' hs'=>?_;have I1:Inv X ζ O H {s with heap:=h',toks:=s.toks+1}:=I.turned (λb o hb e=>hs'.extBut b o hb e) f0 f1 f3 f4 f5;exact⟨_,rfl,dg0 ⟨.str ⟨#[z.cps[i]]⟩,H,I1,⟨_,rfl⟩,⟨rfl,_,by simp[hg'],rfl⟩,hit',λb hb=>(hf b hb).1⟩⟩
 done:=by intro X hP hw hK hc i ζ s O H E I hf st hg;subst hP hw hK;obtain⟨f0,f1,f2,f3,f4,f5⟩:=hf it X4;have hg':z.cps.size<=i:=hg;exact wpAny_pyNext_ascii_end (I.ok.hd hc) st (by simp[hg']) λh' he'=>⟨rfl,I.turned (t':=s.toks) (λb o hb e=>he' b o hb e) f0 f1 f3 f4 f5⟩
 self:=λ_ _ _ _ _ st h=>wpAny_pyIter_striter_ascii st h
def ck9{P:G1}{w:World}{K:A5}{tg:Expr}(it:Addr)(z:Str)(t:Tok):ar5 P w K tg (Its z) [it] it (λi h=>h.IsStrIter it "str_iterator" z t i) where
 mem:=X4
 obj:=λi h st b hb=>by
  have e:b=it:=by simpa using hb
  subst e;refine z12 st λo e c d=>?_;exact⟨o,e,λv q=>by rw[d]at q;cases q⟩
 keep:=λi h h' st k=>let⟨o,e,r⟩:=st;⟨o,k it X4 o e,r⟩
 item:=by intro X hP hw hK hc i ζ s O H E I hf st hg;subst hP hw hK;obtain⟨f0,f1,f2,f3,f4,f5⟩:=hf it X4;have hg':i<z.cps.size:=hg;refine wpAny_pyNext_wide_item st (c:=z.cps[i]) (by simp[hg']) λh' hit' hs'=>?_;have I1:Inv X ζ O H {s with heap:=h',toks:=s.toks+1}:=I.turned (λb o hb e=>hs'.extBut b o hb e) f0 f1 f3 f4 f5;exact⟨_,rfl,dg0 ⟨.str ⟨#[z.cps[i]]⟩,H,I1,⟨_,rfl⟩,⟨rfl,_,by simp[hg'],rfl⟩,hit',λb hb=>(hf b hb).1⟩⟩
 done:=by intro X hP hw hK hc i ζ s O H E I hf st hg;subst hP hw hK;obtain⟨f0,f1,f2,f3,f4,f5⟩:=hf it X4;have hg':z.cps.size<=i:=hg;exact wpAny_pyNext_wide_end (I.ok.hd hc) st (by simp[hg']) λh' he'=>⟨rfl,I.turned (t':=s.toks) (λb o hb e=>he' b o hb e) f0 f1 f3 f4 f5⟩
 self:=λ_ _ _ _ _ st h=>wpAny_pyIter_striter_wide st h
section
variable{X:Cx}
def eg6:V->Option Int->Option Int->Hp->VK->Prop:=λx lo hi H Q=>∃z,x=.str z/\z.length<=sizeLine/\Q (.str (Txt.slice z lo hi)) H
theorem es6:SlR X eg6:=by
 intro ζ s O H x v vl vu lo hi sl Q I rx hs pl pu h;refine z12 h λz zz hz q=>?_;clear h;subst zz;obtain⟨t,rfl⟩:=rx;refine⟨"str",_,F.slot_str_getitem.lookup,typeIs_str s z t,?_⟩;refine z12 hs λo e c d=>?_;have go:∀(l u:Option (Int×Tok)),vl=partValue l->vu=partValue u->lo=l.map (·.1)->hi=u.map (·.1)->wpAny (model X.prog X.w) X.A (getItem (.str z t) (.ref sl)) (EP X ζ O Q) X.xe s:=by
  rintro l u rfl rfl rfl rfl;refine wpAny_getItem_str_slice (l:=l) (u:=u) (st:=none) ⟨o,e,c,d⟩ rfl ?_;unfold sliceMade;unfold Txt.slice at q;have e1:((((none:Option (Int×Tok)).map (·.1)).getD 1==1&&(slicePicked z l u none).length==z.length)=true)=(((1:Int)==1&&(Builtin.Str.strSliceIndices (l.map (·.1)) (u.map (·.1)) 1 z.length).length==z.length)=true):=rfl;split
  . rename_i hh;rw[E3 (e1▸hh)]at q;exact⟨.str z,H,I,⟨t,rfl⟩,q⟩
  . rename_i hh;rw[D7 (e1▸hh)]at q;refine⟨K1 (K1 (List.length_filterMap_le _ _) (sliceIndices_le _ _ _)) hz,.str _,H,I.tok _,⟨_,rfl⟩,q⟩
 cases pl with
 |none=>
  cases pu with
  |none=>exact go none none rfl rfl rfl rfl
  |int j u=>exact go none (some (j,u)) rfl rfl rfl rfl
 |int i t'=>
  cases pu with
  |none=>exact go (some (i,t')) none rfl rfl rfl rfl
  |int j u=>exact go (some (i,t')) (some (j,u)) rfl rfl rfl rfl
theorem bk5:∀{ys:ax}{us:ao},Vals (ys.map V.str) us->StrsAre us ys
 |[],_,.nil=>.nil
 |y::ys,_,.cons r t=>by obtain⟨k,rfl⟩:=r;exact .cons _ _ (bk5 t)
def cb6(K:A5):V->List V->Hp->VK->Prop:=λx vs H Q=>∃(z:Str)(p:Addr)(ys:ax),x=.str z/\vs=[.ref p]/\SqL K H p (ys.map V.str)/\(ys.map (·.length)).sum+ys.length*z.length<=16777216/\Q (.str (Txt.join z ys)) H
def eo2:MtR X "str.join" (cb6 X.K):=by intro ζ s O H x xs v us Q I rx rv h;refine z34 h λz p ys zz zy hp hz q=>?_;clear h;subst zz zy;obtain⟨t,rfl⟩:=rx;obtain⟨u,rfl,ru⟩:=rv.one;obtain rfl:u=Value.ref p:=ru;refine z12 (I.list hp) λits r pl _=>?_;exact join_list pl.isList (by simpa using bk5 r) hz λt' k=>⟨.str _,H,I.tok _,⟨_,rfl⟩,q⟩
def fi0:R2:=λx y H Q=>∃i j,x=.str i/\y=.str j/\i.length+j.length<=sizeLine/\Q (.str (i++j)) H
def ee5(K:A5):List V->Hp->VK->Prop:=λxs H Q=>∃x n,xs=[x]/\ea4 K x H n/\Q (.int n) H
def ev4:List V->Hp->VK->Prop:=λxs H Q=>∃i,xs=[.int i]/\Q (.int (if i<0 then -i else i)) H
def ch4:List V->Hp->VK->Prop:=λxs H Q=>∃i j,xs=[.int i,.int j]/\ag0 i j/\∀p,H p=none->Q (.ref p) (upd H p (.tup [.int (i/j),.int (i%j)]))
def fe3(K:A5):List V->Hp->VK->Prop:=λxs H Q=>∃x T tx b,xs=[x,.ty T]/\TyN K H x tx/\iG tx T b/\Q (.bl b) H
def eb4(K:A5):List V->Hp->VK->Prop:=λxs H Q=>∃(p:Addr)(bs:bw),xs=[.ref p]/\SqL K H p (bs.map V.bl)/\Q (.bl (bs.all id)) H
def ev6(K:A5):List V->Hp->VK->Prop:=λxs H Q=>∃(p:Addr)(bs:bw),xs=[.ref p]/\SqL K H p (bs.map V.bl)/\Q (.bl (bs.any id)) H
def fn1:List V->Hp->VK->Prop:=λxs H Q=>∃i j,xs=[.int i,.int j]/\Q (.int (if j>i then j else i)) H
def ff2:List V->Hp->VK->Prop:=λxs H Q=>∃i j,xs=[.int i,.int j]/\Q (.int (if j<i then j else i)) H
def fd1(K:A5):List V->Hp->VK->Prop:=λxs H Q=>∃(p:Addr)(ns:ah),xs=[.ref p]/\SqL K H p (ns.map V.int)/\ns≠[]/\∀M,M∈ns->(∀a∈ns,a<=M)->Q (.int M) H
def et8(K:A5):List V->Hp->VK->Prop:=λxs H Q=>∃(p:Addr)(ns:ah),xs=[.ref p]/\SqL K H p (ns.map V.int)/\ns≠[]/\∀M,M∈ns->(∀a∈ns,M<=a)->Q (.int M) H
def dx3(K:A5):List V->Hp->VK->Prop:=λxs H Q=>fn1 xs H Q\/fd1 K xs H Q
def dc6(K:A5):List V->Hp->VK->Prop:=λxs H Q=>ff2 xs H Q\/et8 K xs H Q
def de0(hc:X.calm=true:=by rfl):CallR X (.builtin "max") (dx3 X.K):=(cq9 hc).or (cw8 hc)
def do1(hc:X.calm=true:=by rfl):CallR X (.builtin "min") (dc6 X.K):=(df1 hc).or (dz0 hc)
def yW(hm:X.mg x=none)(hv:bootBuiltins x=some (.type ty))(hg:Gl X x:=by rfl)(hn:x≠"__name__":=by decide)(hd:(x==("__debug__":Str))=false:=by decide):PE X (.Name x pos) (tC (.ty ty)):=
 eh1 (v:=.ty ty) hg hm hv rfl hn hd
def zH(mg:ac)(x:Str)(v:V):Prop:=∃u,mg x=some u/\RelV v u
def kP(h:zH X.mg x v)(hg:Gl X x:=by rfl)(hd:(x==("__debug__":Str))=false:=by decide):PE X (.Name x pos) (tC v):=by obtain⟨u,hm,r⟩:=h;exact eg2 hg hm r hd
end
def cU:bootBuiltins "len"=some (.builtin "len"):=PySem.boot_len
def cx0:bootBuiltins "abs"=some (.builtin "abs"):=X0
def cr9:bootBuiltins "divmod"=some (.builtin "divmod"):=X0
def iL:bootBuiltins "isinstance"=some (.builtin "isinstance"):=X0
def nP:bootBuiltins "all"=some (.builtin "all"):=X0
def ez7:bootBuiltins "any"=some (.builtin "any"):=X0
def yS:bootBuiltins "max"=some (.builtin "max"):=X0
def oS:bootBuiltins "min"=some (.builtin "min"):=X0
def eu3:bootBuiltins "sum"=some (.builtin "sum"):=X0
def ck8:bootBuiltins "sorted"=some (.builtin "sorted"):=X0
def cw9:bootBuiltins "int"=some (.type "int"):=X0
def cc5:bootBuiltins "bool"=some (.type "bool"):=X0
def ec5:bootBuiltins "str"=some (.type "str"):=X0
def kI:bootBuiltins "list"=some (.type "list"):=X0
def dn6:bootBuiltins "tuple"=some (.type "tuple"):=X0
section
variable{t u:TS}{D:aa8}{O:St}{H:Hp}{te ta tb tc:TE}{g:TG}{i:Nat}{v:V}{Q:VK}{c:TT}{K:A5}{r r':R2}
end
structure dW (K:A5) (mg:ac) (x:Str) (st:Stmt):Prop where
 ex:∃f fd,Fun K x x st f fd/\mg x=some (.ref f)
def ei6{K:A5}{h:Heap}{mg:ac}(X:K.In h)(G:h.Ns mainGlobals mg){x:Str}{st:Stmt}{f:Addr}{oc:Value}{od an:br}{osl:bv}{kV doc pm cdv ct:Value}
 (a:PySem.W.nsIn K mainGlobals x=some (some (.ref f)))(l:K.lookup f=some ⟨oc,od,.func (PySem.W.fnOf x x (kK st) (eJ st) (aN st) .none kV doc pm an cdv ct),osl⟩)
 (c:PySem.W.codeIn K cdv x=true)(k:PySem.W.keepIn K (.ref f)=true):dW K mg x st:=⟨f,_,ad9 l c k,R3 X G a⟩
def eb6{K:A5}{h:Heap}{mg:ac}(X:K.In h)(G:h.Ns mainGlobals mg){x:Str}{v:V}{u:Value}(a:PySem.W.nsIn K mainGlobals x=some (some u))(r:RelV v u):zH mg x v:=⟨u,R3 X G a,r⟩
section
variable{P:G1}{w:World}{K:A5}{mg:ac}{base:Heap}
end
def cy6(h:Builtin.Int.intBits a+Builtin.Int.intBits b<=134217728):IntMulOk a b:=by
 have e:(2:Nat)^27=134217728:=X5
 have h:Builtin.Int.intTooBig (Builtin.Int.intBits a+Builtin.Int.intBits b)=false:=by unfold Builtin.Int.intTooBig bitsLine;exact F6 W9
 unfold IntMulOk;rw[h];simp
def eo1(h1:-(2^64)<b)(h2:b<2^64):IntMulOk a b:=IntMulOk.of_right (intBits_le_64 h1 h2)
def em2(h1:-(2^64)<a)(h2:a<2^64):IntMulOk a b:=IntMulOk.of_left (intBits_le_64 h1 h2)
def SI(k:Bool)(h:Heap)(it l:Addr)(i:Nat):Prop:=∃o,h.get? it=some o/\o.cls=.type (cond k "tuple_iterator" "list_iterator")/\o.data=.fields #[.ref l,.int i 0]
def SQ(k:Bool)(h:Heap)(l:Addr)(us:bg):Prop:=∃o,h.get? l=some o/\o.cls=.type (cond k "tuple" "list")/\∃n,o.data=.seq us n
def SI.at(x:SI k h it l i)(e:∀o,h.get? it=some o->h'.get? it=some o):SI k h' it l i:=by obtain⟨o,ho,r⟩:=x;exact⟨o,e o ho,r⟩
def SQ.at(x:SQ k h l us)(e:∀o,h.get? l=some o->h'.get? l=some o):SQ k h' l us:=by obtain⟨o,ho,r⟩:=x;exact⟨o,e o ho,r⟩
section
variable{prog:G1}{w:World}{A:J0}{E:af}{s:B8}
theorem bd5(hit:SI k s.heap it l i)(hl:SQ k s.heap l us)(hx:us[i]?=some x)
 (hQ:∀h',SI k h' it l (i+1)->Heap.SameBut it s.heap h'->Q x {s with heap:=h'}):wpAny (model prog w) A (Builtin.SmallTypes.nextOf (.ref it)) Q E s:=by
 cases k with
 |false=>exact wpAny_nextOf_list_item hit hl hx hQ
 |true=>
  refine z12 hit λo ho hc hd=>?_;obtain⟨ol,hol,_,nl,hdl⟩:=hl;have hT:s.TypeIs (.ref it) "tuple_iterator":=⟨o,ho,hc⟩;unfold Builtin.SmallTypes.nextOf;refine A7 (L6 (name:=Str.ofString "__next__") hT R4 (L9 R4 hT F.entry_tuple_iterator_next ?_ (F.args_tuple_iterator_next_1 _)))
  (show wpAny _ _ (field (.ref it) 0>>=_) _ _ s);refine A7 (O5 ho hd (x:=.ref l) rfl ?_)
  (show wpAny _ _ (if(Value.ref l==Value.none)=true then _ else _) _ _ s);rw[D7 (show¬((Value.ref l==Value.none)=true) from E9)]
  (show wpAny _ _ (field (.ref it) 1>>=_) _ _ s);refine A7 (O5 ho hd (x:=.int i 0) rfl ?_)
  (show wpAny _ _ (seqItems? (.ref l)>>=_) _ _ s);refine A7 (Q1 hol hdl ?_)
  simp only[Int.toNat_natCast,hx];refine A7 (wpAny_setField ho hd X4 (B9 ⟨x,rfl,B9 (hQ _ ?_ (Heap.SameBut.update ..))⟩));refine⟨_,Heap.get?_update_self _ ho (Obj.isFreed_of_fields (Obj.data_mapFields hd _)),(Obj.cls_mapFields ..).trans hc,?_⟩;rw[Obj.data_mapFields hd];simp[rawInt]
theorem bk9(hh:A.handled=none)(hit:SI k s.heap it l i)(hl:SQ k s.heap l us)(hx:us[i]?=none)
 (hE:∀h' e,Heap.ExtBut it s.heap h'->(∃o,h'.get? e=some o/\o.cls=.type "StopIteration")->E (.ref e) {s with heap:=h'}):wpAny (model prog w) A (Builtin.SmallTypes.nextOf (.ref it)) Q E s:=by
 cases k with
 |false=>exact wpAny_nextOf_list_end hh hit hl hx hE
 |true=>
  refine z12 hit λo ho hc hd=>?_;obtain⟨ol,hol,_,nl,hdl⟩:=hl;have hT:s.TypeIs (.ref it) "tuple_iterator":=⟨o,ho,hc⟩;unfold Builtin.SmallTypes.nextOf;refine A7 (L6 (name:=Str.ofString "__next__") hT R4 (L9 R4 hT F.entry_tuple_iterator_next ?_ (F.args_tuple_iterator_next_1 _)))
  (show wpAny _ _ (field (.ref it) 0>>=_) _ _ s);refine A7 (O5 ho hd (x:=.ref l) rfl ?_)
  (show wpAny _ _ (if(Value.ref l==Value.none)=true then _ else _) _ _ s);rw[D7 (show¬((Value.ref l==Value.none)=true) from E9)]
  (show wpAny _ _ (field (.ref it) 1>>=_) _ _ s);refine A7 (O5 ho hd (x:=.int i 0) rfl ?_)
  (show wpAny _ _ (seqItems? (.ref l)>>=_) _ _ s);refine A7 (Q1 hol hdl ?_)
  simp only[Int.toNat_natCast,hx];refine A7 (wpAny_rule (A7 (wpAny_setField ho hd X4 ?_)))
  (show wpAny _ _ (newExc (.type "StopIteration") []>>=_) _ _ _);refine A7 ?_;simp only[newExc,newTuple]
  refine A7 (K7 ?_ (by size_fits));refine A7 (m:=firstArgMember _ _) (wpAny_of_eq (a:=Value.none) (by first|rfl|(simp only[firstArgMember];rfl)) ?_);refine K7 ?_ (by size_fits);simp only[raiseNew];refine A7 (wpAny_handled ?_);first|rw[show A.in1.handled=none from hh]|rw[hh]
  refine A7 (B9 (wpAny_throw ?_));exact hE _ _ (((Heap.SameBut.update ..).extBut.push _).push _) ⟨_,D6 _ rfl,rfl⟩
theorem ce0(hl:SQ k s.heap l us)
 (hQ:Q (.ref s.heap.objs.size) {s with heap:=s.heap.push {cls:=.type (cond k "tuple_iterator" "list_iterator"),data:=.fields #[.ref l,.int 0 0]}}):wpAny (model prog w) A (pyIter (.ref l)) Q E s:=by
 cases k with
 |false=>exact S7 hl hQ
 |true=>exact wpAny_pyIter_tuple hl hQ
theorem ch1{k1 k2:Bool}{z TI TO i1 i2 l1 l2:Addr}{i:Nat}{us vs:bg}{a b:Value}{Q:Option Value->B8->Prop}(hh:A.handled=none)(D:ZipApart z TI TO i1 i2 l1 l2)
 (hz:IsZip s.heap z TI TO .none)(hTI:IsPair s.heap TI (.ref i1) (.ref i2))(hTO:IsPair s.heap TO a b)(n1:SI k1 s.heap i1 l1 i)(n2:SI k2 s.heap i2 l2 i)(q1:SQ k1 s.heap l1 us)(q2:SQ k2 s.heap l2 vs)
 (hI:∀x y,us[i]?=some x->vs[i]?=some y->∀h',IsZip h' z TI TO (rawInt s.heap.objs.size)->IsPair h' TO x y->SI k1 h' i1 l1 (i+1)->SI k2 h' i2 l2 (i+1)->IsPair h' s.heap.objs.size x y->
  (∀c o,c≠z->c≠TO->c≠i1->c≠i2->s.heap.get? c=some o->h'.get? c=some o)->Q (some (.ref s.heap.objs.size)) {s with heap:=h'})
 (hE:us[i]?=none\/vs[i]?=none->∀h',(∀c o,c≠z->c≠TO->c≠i1->c≠i2->s.heap.get? c=some o->h'.get? c=some o)->Q none {s with heap:=h'}):
 wpAny (model prog w) A (pyNext (.ref z)) Q E s:=by
 have hT:s.TypeIs (.ref z) "zip":=⟨_,hz,rfl⟩;unfold pyNext;have bN:(us[i]?=none\/vs[i]?=none)->∀h' e,(∀c o,c≠z->c≠TO->c≠i1->c≠i2->s.heap.get? c=some o->h'.get? c=some o)->(∃o,h'.get? e=some o/\o.cls=.type "StopIteration")->
  wpAny (model prog w) A (do if(<-isInstance (.ref e) (.type "StopIteration"))=true then pure none else throw (.ref e)) Q E {s with heap:=h'}:=λhend h' e hk ⟨o,ho,hc⟩=>
  A7 (wpAny_isInstance (T:="StopIteration") (b:=true) ⟨o,ho,hc⟩ isSubtype_stop (B9 (hE hend _ hk)))
 refine A7 (wpAny_attempt (L6 (name:=Str.ofString "__next__") hT F.slot_zip_next (L9 F.slot_zip_next hT F.entry_zip_next ?_ (F.args_zip_next_1 _))))
 (show wpAny _ _ (field (.ref z) 2>>=_) _ _ _);refine A7 (O5 hz rfl (x:=.bool false) rfl ?_)
 (show wpAny _ _ (field (.ref z) 3>>=_) _ _ _);refine A7 (O5 hz rfl (x:=.ref TI) rfl ?_)
 refine A7 (Q1 hTI rfl ?_);(show wpAny _ _ (Builtin.SmallTypes.ownedTupleIsFree (.ref z)>>=_) _ _ _)
 refine A7 ?_;unfold Builtin.SmallTypes.ownedTupleIsFree;refine A7 (O5 hz rfl (x:=.none) rfl (B9 ?_));simp only[N4];refine A7 (wpAny_rule ?_);refine A7 (O5 hz rfl (x:=.ref TO) rfl ?_);refine A7 (S3 hz X4 λh₁ hz₁ g1=>?_);replace hz₁:IsZip h₁ z TI TO .ellipsis:=hz₁;refine A7 ?_;simp only[List.zipIdx_cons,List.zipIdx_nil,List.forIn_cons,List.forIn_nil];refine A7 (A7 (wpAny_onRaise ?_));(show wpAny _ _ (Builtin.SmallTypes.nextOf (.ref i1)>>=_) _ _ _)
 have p1:SI k1 h₁ i1 l1 i:=n1.at λo e=>g1.extBut _ _ D.i1z e;have p2:SQ k1 h₁ l1 us:=q1.at λo e=>g1.extBut _ _ D.l1z e;cases hx:us[i]? with
 |none=>
  refine A7 (bk9 hh p1 p2 hx λh₂ e g2 he=>?_);obtain⟨oe,hoe,hce⟩:=he;have z2:IsZip h₂ z TI TO .ellipsis:=g2 _ _ D.i1z.symm hz₁;have hez:e≠z:=λq=>by subst q;rw[z2]at hoe;cases hoe;simp at hce
  refine S3 z2 X4 λh₃ _ g3=>?_;exact bN (.inl hx) h₃ e (λc o c1 _ c3 _ q=>g3.extBut _ _ c1 (g2 _ _ c3 (g1.extBut _ _ c1 q))) ⟨oe,g3.extBut _ _ hez hoe,hce⟩
 |some x=>
  refine A7 (bd5 p1 p2 hx λh₂ n1' g2=>B9 ?_);have t2:IsPair h₂ TO a b:=g2.extBut _ _ D.TOi1 (g1.extBut _ _ D.TOz hTO);refine A7 (Q1 t2 rfl ?_);refine A7 (wpAny_updateSeq_pair t2 λh₃ t3 g3=>?_);refine A7 (wpAny_letGo (B9 ?_));refine A7 (A7 (wpAny_onRaise ?_));(show wpAny _ _ (Builtin.SmallTypes.nextOf (.ref i2)>>=_) _ _ _)
  cases hy:vs[i]? with
  |none=>
   refine A7 (bk9 hh (n2.at λo e=>g3.extBut _ _ D.TOi2.symm (g2.extBut _ _ D.i12.symm (g1.extBut _ _ D.i2z e))) (q2.at λo e=>g3.extBut _ _ D.l2TO (g2.extBut _ _ D.l2i1 (g1.extBut _ _ D.l2z e))) hy λh₄ e g4 he=>?_);obtain⟨oe,hoe,hce⟩:=he;have z4:IsZip h₄ z TI TO .ellipsis:=g4 _ _ D.i2z.symm (g3.extBut _ _ D.TOz.symm (g2.extBut _ _ D.i1z.symm hz₁));have hez:e≠z:=λq=>by subst q;rw[z4]at hoe;cases hoe;simp at hce
   refine S3 z4 X4 λh₅ _ g5=>?_;exact bN (.inr hy) h₅ e (λc o c1 c2 c3 c4 q=>g5.extBut _ _ c1 (g4 _ _ c4 (g3.extBut _ _ c2 (g2.extBut _ _ c3 (g1.extBut _ _ c1 q))))) ⟨oe,g5.extBut _ _ hez hoe,hce⟩
  |some y=>
   replace t3:IsPair h₃ TO x b:=t3;refine A7 (bd5 (n2.at λo e=>g3.extBut _ _ D.TOi2.symm (g2.extBut _ _ D.i12.symm (g1.extBut _ _ D.i2z e))) (q2.at λo e=>g3.extBut _ _ D.l2TO (g2.extBut _ _ D.l2i1 (g1.extBut _ _ D.l2z e))) hy λh₄ n2' g4=>B9 ?_);have t4:IsPair h₄ TO x b:=g4.extBut _ _ D.TOi2 t3;refine A7 (Q1 t4 rfl ?_);refine A7 (wpAny_updateSeq_pair t4 λh₅ t5 g5=>?_);replace t5:IsPair h₅ TO x y:=t5;refine A7 (wpAny_letGo (B9 (B9 ?_)));refine A7 (Q1 t5 rfl ?_);refine A7 (wpAny_newTuple ?_);have hsz:h₅.objs.size=s.heap.objs.size:=by rw[g5.1,g4.1,g3.1,g2.1,g1.1]
   have z5:IsZip h₅ z TI TO .ellipsis:=g5.extBut _ _ D.TOz.symm (g4.extBut _ _ D.i2z.symm (g3.extBut _ _ D.TOz.symm (g2.extBut _ _ D.i1z.symm hz₁)));have m1:SI k1 h₅ i1 l1 (i+1):=n1'.at λo e=>g5.extBut _ _ D.TOi1.symm (g4.extBut _ _ D.i12 (g3.extBut _ _ D.TOi1.symm e));have m2:SI k2 h₅ i2 l2 (i+1):=n2'.at λo e=>g5.extBut _ _ D.TOi2.symm e;have zlt:z<h₅.objs.size:=D5 z5
   (show wpAny _ _ (Builtin.SmallTypes.ownedTupleHandOut (.ref z) (.ref h₅.objs.size)>>=_) _ _ _);refine A7 ?_;unfold Builtin.SmallTypes.ownedTupleHandOut
   have z6:IsZip (h₅.push {cls:=.type "tuple",data:=.seq #[x,y]}) z TI TO .ellipsis:=B0 _ z5;refine A7 (S3 z6 X4 λh₇ z7 g7=>?_);replace z7:IsZip h₇ z TI TO (rawInt h₅.objs.size):=z7;refine S3 z7 X4 λh₈ z8 g8=>?_;replace z8:IsZip h₈ z TI TO (rawInt h₅.objs.size):=z8;have up:∀c o,c≠z->h₅.get? c=some o->h₈.get? c=some o:=λc o c1 e=>g8.extBut _ _ c1 (g7.extBut _ _ c1 (B0 _ e));have t8:IsPair h₈ h₅.objs.size x y:=g8.extBut _ _ (R9 zlt) (g7.extBut _ _ (R9 zlt) (D6 _ rfl));rw[hsz]at z8 t8;refine B9 ⟨_,rfl,?_⟩
   (show wpAny _ _ _ _ _ _);refine B9 ?_
   show Q (some (.ref h₅.objs.size)) _;rw[hsz];refine hI _ _ hx hy h₈ z8 (up _ _ D.TOz t5) (m1.at λo e=>up _ o D.i1z e) (m2.at λo e=>up _ o D.i2z e) t8 λc o c1 c2 c3 c4 e=>up c o c1 ?_;exact g5.extBut _ _ c2 (g4.extBut _ _ c4 (g3.extBut _ _ c2 (g2.extBut _ _ c3 (g1.extBut _ _ c1 e))))
end
abbrev itO(k:Bool)(l:Addr):Obj:={cls:=.type (cond k "tuple_iterator" "list_iterator"),data:=.fields #[.ref l,.int 0 0]}
abbrev zA(k1:Bool)(h:Heap)(l1:Addr):Heap:=h.push (itO k1 l1)
abbrev zB(k1 k2:Bool)(h:Heap)(l1 l2:Addr):Heap:=(zA k1 h l1).push (itO k2 l2)
abbrev zC(k1 k2:Bool)(h:Heap)(l1 l2:Addr):Heap:=(zB k1 k2 h l1 l2).push {cls:=.type "tuple",data:=.seq #[.ref h.objs.size,.ref (zA k1 h l1).objs.size]}
abbrev zD(k1 k2:Bool)(h:Heap)(l1 l2:Addr):Heap:=(zC k1 k2 h l1 l2).push {cls:=.type "tuple",data:=.seq #[.none,.none]}
abbrev zE(k1 k2:Bool)(h:Heap)(l1 l2:Addr):Heap:=(zD k1 k2 h l1 l2).push {cls:=.type "zip",data:=.fields #[.none,.bool false,.bool false,.ref (zB k1 k2 h l1 l2).objs.size,.ref (zC k1 k2 h l1 l2).objs.size]}
def eb2(k1 k2:Bool)(l1 l2:Addr)(us vs:bg):
 Meets (Builtin.«zip.__new__» ⟨[.type "zip",.ref l1,.ref l2],[]⟩) (λ_ R s=>SQ k1 s.heap l1 us/\SQ k2 s.heap l2 vs/\R (.ok (.ret (.ref (zD k1 k2 s.heap l1 l2).objs.size))) {s with heap:=zE k1 k2 s.heap l1 l2}):=
 .of_wp λprog w A R s h=>by
  obtain⟨hp,g,d,tk,os⟩:=s;obtain⟨hl1,hl2,h⟩:=h;have hsub:=sub_zip;have a1:SQ k1 (Shared.heap ⟨hp,g,d,tk,os⟩) l1 us:=hl1;have a2:SQ k2 (Shared.heap ⟨hp.push (itO k1 l1),g,d,tk,os⟩) l2 vs:=SQ.at hl2 λo e=>B0 _ e
  wp_walk using ce0 a1,ce0 a2
  exact⟨_,rfl,h⟩
section
variable{prog:G1}{w:World}{A:J0}{E:af}{s:B8}
def dq3(hl1:SQ k1 s.heap l1 us)(hl2:SQ k2 s.heap l2 vs)
 (h:∀h',IsZip h' (s.heap.objs.size+4) (s.heap.objs.size+2) (s.heap.objs.size+3) .none->IsPair h' (s.heap.objs.size+2) (.ref s.heap.objs.size) (.ref (s.heap.objs.size+1))->IsPair h' (s.heap.objs.size+3) .none .none->
  SI k1 h' s.heap.objs.size l1 0->SI k2 h' (s.heap.objs.size+1) l2 0->(∀c o,s.heap.get? c=some o->h'.get? c=some o)->Q (.ref (s.heap.objs.size+4)) {s with heap:=h'}):
 wpAny (model prog w) A (call (.type "zip") [.ref l1,.ref l2]) Q E s:=by
 refine callType_new F.called_zip X5 (F.typeCall_zip_2 _ _) (F.newCall_zip_2 _ _) (λobj=>F.args_object_init_3 obj _ _) F.entry_zip_new (eb2 k1 k2 l1 l2 us vs) ⟨hl1,hl2,?_⟩;have z1:(zA k1 s.heap l1).objs.size=s.heap.objs.size+1:=L4 ..
 have z2:(zB k1 k2 s.heap l1 l2).objs.size=s.heap.objs.size+2:=(L4 ..).trans (by rw[z1]);have z3:(zC k1 k2 s.heap l1 l2).objs.size=s.heap.objs.size+3:=(L4 ..).trans (by rw[z2]);have z4:(zD k1 k2 s.heap l1 l2).objs.size=s.heap.objs.size+4:=(L4 ..).trans (by rw[z3]);have u1:∀c o,(zA k1 s.heap l1).get? c=some o->(zE k1 k2 s.heap l1 l2).get? c=some o:=λc o e=>B0 _ (B0 _ (B0 _ (B0 _ e)));have u2:∀c o,(zB k1 k2 s.heap l1 l2).get? c=some o->(zE k1 k2 s.heap l1 l2).get? c=some o:=λc o e=>B0 _ (B0 _ (B0 _ e));have g5:(zE k1 k2 s.heap l1 l2).get? (zD k1 k2 s.heap l1 l2).objs.size=some _:=D6 _ rfl;have g4:(zE k1 k2 s.heap l1 l2).get? (zC k1 k2 s.heap l1 l2).objs.size=some _:=B0 _ (D6 _ rfl);have g3:(zE k1 k2 s.heap l1 l2).get? (zB k1 k2 s.heap l1 l2).objs.size=some _:=B0 _ (B0 _ (D6 _ rfl));have g2:(zE k1 k2 s.heap l1 l2).get? (zA k1 s.heap l1).objs.size=some _:=u2 _ _ (D6 _ rfl);have g1:(zE k1 k2 s.heap l1 l2).get? s.heap.objs.size=some _:=u1 _ _ (D6 _ rfl);show _/\_;rw[z2,z3,z4]at g5;rw[z1,z2]at g3;rw[z3]at g4;rw[z1]at g2;rw[z4];exact⟨⟨_,g5,rfl⟩,h _ g5 g3 g4 ⟨_,g1,rfl,rfl⟩ ⟨_,g2,rfl,rfl⟩ λc o x=>u1 c o (B0 _ x)⟩
end
def SqK(k:Bool)(K:A5)(H:Hp)(l:Addr)(xs:a_):Prop:=cond k (SqT K H l xs) (SqL K H l xs)
section
variable{X:Cx}{ζ:ad}{O:St}{H:Hp}{s:B8}{l:Addr}{xs ys:a_}
theorem Inv.row(I:Inv X ζ O H s)(h:SqK k X.K H l xs):∃its:List Value,Vals xs its/\SQ k s.heap l its.toArray/\xs.length<=sizeLine:=by
 cases k with
 |false=>refine z12 (I.list h) λits r p z=>?_;exact⟨its,r,p.isList,z⟩
 |true=>refine z12 (I.tuple h) λits r p z=>?_;exact⟨its,r,p,z⟩
theorem Inv.row_inj(I:Inv X ζ O H s)(h:SqK k X.K H l xs)(h':SqK k X.K H l ys):xs=ys:=by
 cases k with
 |false=>exact I.list_inj h h'
 |true=>exact I.tuple_inj h h'
def Inv.turnedL{t':Nat}{fp:av}{h':Heap}(I:Inv X ζ O H s)(k:∀b o,b∉fp->s.heap.get? b=some o->h'.get? b=some o)(hf:∀b∈fp,uR X ζ H b):Inv X ζ O H {s with heap:=h',toks:=t'}:=by
 have nit:∀b u,H b=some u->b∉fp:=λb u e z=>by rw[(hf b z).1]at e;cases e
 refine I.step (g':=s.gens) (d':=s.drawn) (ch:=fp) (λb hb=>?_) (λb o _ _ hc e _=>k b o hc e) (λb o _ _ hc e _=>⟨o.slots,k b o hc e⟩) (λ_ _ _ _ n=>n)
  (λb o hc e=>⟨o,k b o hc e⟩) (λ_ _ e=>e) (λ_ _ _ e=>e) (λb ps e=>⟨#[],by rw[e];simp⟩) (λm hm=>?_) (λb u e=>?_) I.bare
 . refine z05 (hf b hb) λ_ f1 _ f3 f4 f5=>?_;exact⟨f3,f1,f4,f5⟩
 . refine z31 hm λo es ep ho r=>?_;exact⟨o,es,ep,k _ o (λz=>(hf _ z).2.1 rfl) ho,r⟩
 . refine(I.hok b u e).stay (λc v hc q=>k c v ?_ q) (λ_ q=>q) λ_ _ q=>q;rcases hc with z|z
   . rw[z];exact nit b u e
   . exact nit c _ z
def Inv.paired{h':Heap}{t':Nat}{fp:av}{x y:V}{u v:Value}(I:Inv X ζ O H s)(rx:RelV x u)(ry:RelV y v)(hf:∀b∈fp,uR X ζ H b)(hl:∀b∈fp,b<s.heap.objs.size)
 (hp:h'.get? s.heap.objs.size=some {cls:=.type "tuple",data:=.seq #[u,v]})(k:∀b o,b∉fp->s.heap.get? b=some o->h'.get? b=some o):
 Inv X ζ O (upd H s.heap.objs.size (.tup [x,y])) {s with heap:=h',toks:=t'}/\∀b∈fp,upd H s.heap.objs.size (.tup [x,y]) b=none:=by
 have I0:Inv X ζ O (upd H s.heap.objs.size (.tup [x,y])) {s with heap:=s.heap.push {cls:=.type "tuple",data:=.seq #[u,v]},toks:=t'}:=
  I.laid (λ_ _ q=>B0 _ q) (C9 _) ⟨(show(2:Nat)<=sizeLine by decide),[u,v],.cons rx (.cons ry .nil),⟨_,D6 _ rfl,rfl,_,rfl⟩⟩
 have hn:∀b∈fp,upd H s.heap.objs.size (.tup [x,y]) b=none:=λb hb=>by rw[dJ (G2 (hl b hb))];exact(hf b hb).1
 refine⟨I0.turnedL (fp:=fp) (h':=h') (t':=t') (λb o hb e=>?_) λb hb=>⟨hn b hb,(hf b hb).2⟩,hn⟩;rcases Heap.get?_push_cases e with⟨rfl,rfl⟩|e
 . exact hp
 . exact k b o hb e
end
def Itz(K:A5)(k1 k2:Bool)(l1 l2:Addr):It:=
 ⟨λi H=>∃xs ys x y,SqK k1 K H l1 xs/\SqK k2 K H l2 ys/\xs[i]?=some x/\ys[i]?=some y,
  λi H v H'=>∃p,H p=none/\v=.ref p/\∀xs ys,SqK k1 K H l1 xs->SqK k2 K H l2 ys->∃x y,xs[i]?=some x/\ys[i]?=some y/\H'=upd H p (.tup [x,y]),
  λi H=>∃xs ys,SqK k1 K H l1 xs/\SqK k2 K H l2 ys/\(xs.length<=i\/ys.length<=i)⟩
def Ite(K:A5)(l:Addr):It:=
 ⟨λi H=>∃xs x,SqL K H l xs/\xs[i]?=some x,λi H v H'=>∃p,H p=none/\v=.ref p/\∀xs,SqL K H l xs->∃x,xs[i]?=some x/\H'=upd H p (.tup [.int i,x]),λi H=>∃xs,SqL K H l xs/\xs.length<=i⟩
def dz4{P:G1}{w:World}{K:A5}{es:bj}{n:Nat}{pos:Pos}{k1 k2:Bool}{z TI TO i1 i2 l1 l2:Addr}(D:ZipApart z TI TO i1 i2 l1 l2):
 ar5 P w K (.Tuple es n pos) (Itz K k1 k2 l1 l2) [z,TI,TO,i1,i2] z (λi h=>IsZip h z TI TO .none/\IsPair h TI (.ref i1) (.ref i2)/\(∃a b,IsPair h TO a b)/\SI k1 h i1 l1 i/\SI k2 h i2 l2 i) where
 mem:=X4
 obj:=λi h st b hb=>by
  obtain⟨hz,hTI,⟨a,c,hTO⟩,n1,n2⟩:=st;simp only[C4,J3,O6]at hb;rcases hb with rfl|rfl|rfl|rfl|rfl
  . exact⟨_,hz,λv e=>nomatch e⟩
  . exact⟨_,hTI,λv e=>nomatch e⟩
  . exact⟨_,hTO,λv e=>nomatch e⟩
  . refine z12 n1 λo e _ d=>?_;exact⟨o,e,λv q=>by rw[d]at q;cases q⟩
  . refine z12 n2 λo e _ d=>?_;exact⟨o,e,λv q=>by rw[d]at q;cases q⟩
 keep:=λi h h' st k=>by obtain⟨hz,hTI,⟨a,c,hTO⟩,n1,n2⟩:=st;exact⟨k z X4 _ hz,k TI X4 _ hTI,⟨a,c,k TO X4 _ hTO⟩,n1.at λo e=>k i1 X4 o e,n2.at λo e=>k i2 X4 o e⟩
 item:=by
  intro X hP hw hK hc i ζ s O H E I hf st hg;subst hP hw hK;obtain⟨hz,hTI,⟨a,b,hTO⟩,n1,n2⟩:=st;refine z43 hg λxs ys x y hq1 hq2 hx hy=>?_;refine z12 (I.row hq1) λits r1 p1 _=>?_;refine z12 (I.row hq2) λjts r2 p2 _=>?_;obtain⟨u,hu,ru⟩:=r1.get hx;obtain⟨v,hv,rv⟩:=r2.get hy;have hu:its.toArray[i]?=some u:=by simpa using hu
  have hv:jts.toArray[i]?=some v:=by simpa using hv
  refine ch1 (I.ok.hd hc) D hz hTI hTO n1 n2 p1 p2 (λx y ex ey h' a1 a2 a3 a4 a5 kk=>?_) (λq=>?_)
  rotate_left
  . exfalso;rcases q with q|q
    . rw[hu]at q;cases q
    . rw[hv]at q;cases q
  rw[hu]at ex;rw[hv]at ey;cases ex;cases ey;refine⟨_,rfl,wpAny_letOwnedTupleGo_zip a1 λh2 b1 gg=>?_⟩;have lts:∀b∈[z,TI,TO,i1,i2],b<s.heap.objs.size:=λb hb=>by
   simp only[C4,J3,O6]at hb;rcases hb with rfl|rfl|rfl|rfl|rfl
   . exact D5 hz
   . exact D5 hTI
   . exact D5 hTO
   . obtain⟨o,e,_⟩:=n1;exact D5 e
   . obtain⟨o,e,_⟩:=n2;exact D5 e
  have zne:s.heap.objs.size≠z:=R9 (lts z X4);obtain⟨I1,hn⟩:=I.paired (t':=s.toks) ru rv hf lts (gg.extBut _ _ zne a5) (λc o hc e=>gg.extBut _ _ (λq=>hc (by simp[q])) (kk c o (λq=>hc (by simp[q])) (λq=>hc (by simp[q])) (λq=>hc (by simp[q])) (λq=>hc (by simp[q])) e));refine⟨.ref s.heap.objs.size,_,I1,rfl,⟨_,I.fresh,rfl,λxs' ys' q1 q2=>⟨x,y,by rw[I.row_inj q1 hq1];exact hx,by rw[I.row_inj q2 hq2];exact hy,rfl⟩⟩,⟨b1,?_,⟨u,v,?_⟩,?_,?_⟩,hn⟩
  . exact gg.extBut _ _ D.TIz (kk _ _ D.TIz D.TITO D.TIi1 D.TIi2 hTI)
  . exact gg.extBut _ _ D.TOz a2
  . exact a3.at λo e=>gg.extBut _ _ D.i1z e
  . exact a4.at λo e=>gg.extBut _ _ D.i2z e
 done:=by
  intro X hP hw hK hc i ζ s O H E I hf st hg;subst hP hw hK;obtain⟨hz,hTI,⟨a,b,hTO⟩,n1,n2⟩:=st;refine z22 hg λxs ys hq1 hq2 hx=>?_;refine z12 (I.row hq1) λits r1 p1 _=>?_;refine z12 (I.row hq2) λjts r2 p2 _=>?_;have e1:=r1.length;have e2:=r2.length;refine ch1 (I.ok.hd hc) D hz hTI hTO n1 n2 p1 p2 (λx y ex ey=>?_) (λ_ h' kk=>?_)
  . exfalso;rcases hx with q|q
    . rw[List.getElem?_toArray,J6 W9]at ex;cases ex
    . rw[List.getElem?_toArray,J6 W9]at ey;cases ey
  exact⟨rfl,I.turnedL (t':=s.toks) (λc o hc e=>kk c o (λq=>hc (by simp[q])) (λq=>hc (by simp[q])) (λq=>hc (by simp[q])) (λq=>hc (by simp[q])) e) hf⟩
 self:=λ_ _ _ _ _ st h=>wpAny_pyIter_zip st.1 h
def cy8{P:G1}{w:World}{K:A5}{es:bj}{n:Nat}{pos:Pos}{e it l:Addr}(ne:e≠it):
 ar5 P w K (.Tuple es n pos) (Ite K l) [e,it] e (λi h=>(∃old,IsEnum h e it (i:Nat) old)/\h.IsListIter it l i) where
 mem:=X4
 obj:=λi h st b hb=>by
  obtain⟨⟨old,he⟩,n1⟩:=st;simp only[C4,J3,O6]at hb;rcases hb with rfl|rfl
  . exact⟨_,he,λv q=>nomatch q⟩
  . refine z12 n1 λo e _ d=>?_;exact⟨o,e,λv q=>by rw[d]at q;cases q⟩
 keep:=λi h h' st k=>by obtain⟨⟨old,he⟩,n1⟩:=st;exact⟨⟨old,k e X4 _ he⟩,n1.at λo q=>k it X4 o q⟩
 item:=by
  intro X hP hw hK hc i ζ s O H E I hf st hg;subst hP hw hK;obtain⟨⟨old,he⟩,n1⟩:=st;refine z21 hg λxs x hq hx=>?_;refine z12 (I.list hq) λits r1 p1 _=>?_;obtain⟨u,hu,ru⟩:=r1.get hx;refine wpAny_pyNext_enum_item he n1 p1.isList (x:=u) (by simpa using hu) ne λh' a1 a2 a3 a4 kk=>⟨_,rfl,wpAny_letOwnedTupleGo_enum a1 λh2 b1 gg=>?_⟩;have lts:∀b∈[e,it],b<s.heap.objs.size:=λb hb=>by
   simp only[C4,J3,O6]at hb;rcases hb with rfl|rfl
   . exact D5 he
   . obtain⟨o,e,_⟩:=n1;exact D5 e
  have zne:s.heap.objs.size≠e:=R9 (lts e X4);obtain⟨I1,hn⟩:=I.paired (t':=s.toks+1) (x:=.int (i:Nat)) (u:=.int (i:Nat) s.toks) ⟨_,rfl⟩ ru hf lts (gg.extBut _ _ zne a3) (λc o hc q=>gg.extBut _ _ (λz=>hc (by simp[z])) (kk c o (λz=>hc (by simp[z])) (λz=>hc (by simp[z])) q));exact⟨.ref s.heap.objs.size,_,I1,rfl,⟨_,I.fresh,rfl,λxs' q1=>⟨x,by rw[I.list_inj q1 hq];exact hx,rfl⟩⟩,⟨⟨u,b1⟩,a2.at λo q=>gg.extBut _ _ (N6 ne) q⟩,hn⟩
 done:=by intro X hP hw hK hc i ζ s O H E I hf st hg;subst hP hw hK;obtain⟨⟨old,he⟩,n1⟩:=st;obtain⟨xs,hq,hx⟩:=hg;refine z12 (I.list hq) λits r1 p1 _=>?_;have e1:=r1.length;obtain⟨f0,f1,f2,f3,f4,f5⟩:=hf it X4;exact wpAny_pyNext_enum_end (I.ok.hd hc) he n1 p1.isList (by simp;omega) λh' eb=>⟨rfl,I.turned (t':=s.toks) (λb o hb q=>eb b o hb q) f0 f1 f3 f4 f5⟩
 self:=λ_ _ _ _ _ st h=>by obtain⟨⟨old,he⟩,_⟩:=st;exact wpAny_pyIter_enum he h
def dk4:bootBuiltins "zip"=some (.type "zip"):=X0
def dy0:bootBuiltins "enumerate"=some (.type "enumerate"):=X0
section
variable{X:Cx}
def dg2(K:A5)(ta:TA):TI:=λO H R=>ta O H λvs H1=>∃k1 k2 l1 l2,vs=[.ref l1,.ref l2]/\(∃xs,SqK k1 K H1 l1 xs)/\(∃ys,SqK k2 K H1 l2 ys)/\R (Itz K k1 k2 l1 l2) H1
def cv5(K:A5)(ta:TA):TI:=λO H R=>ta O H λvs H1=>∃l,vs=[.ref l]/\(∃xs,SqL K H1 l xs)/\R (Ite K l) H1
theorem eq4{es:bj}{n:Nat}{tpos:Pos}{a b:Expr}{ta:TA}{p pos:Pos}(hg:Gl X "zip")(hm:X.mg "zip"=none)(ha:PA X [a,b] ta)(hs:starEach [a,b] X.env=[(false,eval a X.env),(false,eval b X.env)]:=by rfl)(hs2:starEach [b] X.env=[(false,eval b X.env)]:=by rfl):
 PI X (.Tuple es n tpos) (.Call (.Name "zip" p) [a,b] [] pos) (dg2 X.K ta):=by
 intro ζ s O H R I h;refine Call_ (oR I hg hm dk4 (L0 (wM (ha ζ s O H _ I h) λus s1 vs H1 I1 r1 q1=>?_) (by rw[hs,hs2]) (by rw[hs2];rfl)));obtain⟨k1,k2,l1,l2,e,⟨xs,hq1⟩,⟨ys,hq2⟩,q⟩:=q1;subst e;cases r1 with
 |cons r rr=>
  cases rr with
  |cons r' rr=>
   cases rr;cases r;cases r';refine z12 (I1.row hq1) λits r1 p1 _=>?_;refine z12 (I1.row hq2) λjts r2 p2 _=>?_;refine dq3 p1 p2 λh' a1 a2 a3 a4 a5 kk=>wpAny_pyIter_zip a1 ?_;have c1:l1<s1.heap.objs.size:=by obtain⟨_,z,_⟩:=p1;exact D5 z
   have c2:l2<s1.heap.objs.size:=by obtain⟨_,z,_⟩:=p2;exact D5 z
   refine⟨_,_,_,_,H1,rfl,I1.kept (t':=s1.toks) kk,dz4 (zipApart_new c1 c2),⟨a1,a2,⟨_,_,a3⟩,a4,a5⟩,λc hc=>?_,q⟩;have le:s1.heap.objs.size<=c:=by simp only[C4,J3,O6]at hc;rcases hc with rfl|rfl|rfl|rfl|rfl<;>omega
   exact I1.fpOk le (I1.hok.fresh le)
theorem ey0{es:bj}{n:Nat}{tpos:Pos}{a:Expr}{ta:TA}{p pos:Pos}(hg:Gl X "enumerate")(hm:X.mg "enumerate"=none)(ha:PA X [a] ta)(hs:starEach [a] X.env=[(false,eval a X.env)]:=by rfl):
 PI X (.Tuple es n tpos) (.Call (.Name "enumerate" p) [a] [] pos) (cv5 X.K ta):=by
 intro ζ s O H R I h;refine Call_ (oR I hg hm dy0 (L0 (wM (ha ζ s O H _ I h) λus s1 vs H1 I1 r1 q1=>?_) hs rfl));obtain⟨l,e,⟨xs,hq1⟩,q⟩:=q1;subst e;cases r1 with
 |cons r rr=>
  cases rr;cases r;refine z12 (I1.list hq1) λits r1 p1 _=>?_;refine call_enumerate_list p1.isList λh' a1 a2 a3 kk=>wpAny_pyIter_enum a1 ?_;refine⟨_,_,_,_,H1,rfl,I1.kept (t':=s1.toks) kk,cy8 (e:=s1.heap.objs.size+1) (it:=s1.heap.objs.size) (Nat.succ_ne_self _),⟨⟨_,a1⟩,a2⟩,λc hc=>?_,q⟩;have le:s1.heap.objs.size<=c:=by simp only[C4,J3,O6]at hc;rcases hc with rfl|rfl<;>omega
  exact I1.fpOk le (I1.hok.fresh le)
end
theorem bo9{xs:dg}{j:Nat}:∀(n lo hi:Nat),hi<=xs.size->hi<=lo+n->lo<=hi->xs.toList.Pairwise (· < ·)->
 (∀i x,xs[i]?=some x->i<lo->x<j)->(∀i x,xs[i]?=some x->hi<=i->j<=x)->
 ∃r,SetTable.below.go xs j n lo hi=r/\r<=xs.size/\(∀i x,xs[i]?=some x->i<r->x<j)/\∀i x,xs[i]?=some x->r<=i->j<=x
 |0,lo,hi,h1,h2,h3,_,ha,hb=>⟨lo,by unfold SetTable.below.go;rfl,W9,ha,λi x e h=>hb i x e W9⟩
 |n+1,lo,hi,h1,h2,h3,hp,ha,hb=>by
  unfold SetTable.below.go;by_cases hl:lo<hi
  . rw[E3 hl];have hm:(lo+hi)/2<xs.size:=W9
    have em:xs[(lo+hi)/2]?=some xs[(lo+hi)/2]:=Array.getElem?_eq_getElem hm;have eg:xs.getD ((lo+hi)/2) j=xs[(lo+hi)/2]:=by simp[Array.getD,hm]
    have up:∀(i k:Nat) x y,xs[i]?=some x->xs[k]?=some y->i<k->x<y:=λi k x y e f hik=>by obtain⟨hi',rfl⟩:=L5.mp e;obtain⟨hk',rfl⟩:=L5.mp f;have:=List.pairwise_iff_getElem.mp hp i k (by simpa using hi') (by simpa using hk') hik;simpa using this
    dsimp only;rw[eg];by_cases hc:xs[(lo+hi)/2]<j
    . rw[E3 hc];refine bo9 n _ hi h1 W9 W9 hp (λi x e h=>?_) hb;by_cases hq:i=(lo+hi)/2
      . subst hq;rw[em]at e;cases e;exact hc
      . exact Nat.lt_trans (up i _ x _ e em W9) hc
    . rw[D7 hc];refine bo9 n lo _ W9 W9 W9 hp ha (λi x e h=>?_);by_cases hq:i=(lo+hi)/2
      . subst hq;rw[em]at e;cases e;exact Nat.le_of_not_lt hc
      . exact K1 (Nat.le_of_not_lt hc) (Nat.le_of_lt (up _ i _ x em e W9))
  . rw[D7 hl];exact⟨lo,rfl,W9,ha,λi x e h=>hb i x e W9⟩
def bel(xs:dg)(j:Nat)(hp:xs.toList.Pairwise (· < ·)):
 SetTable.below xs j<=xs.size/\(∀i x,xs[i]?=some x->i<SetTable.below xs j->x<j)/\∀i x,xs[i]?=some x->SetTable.below xs j<=i->j<=x:=by
 obtain⟨r,e,h⟩:=bo9 (xs:=xs) (j:=j) xs.size 0 xs.size (C9 _) W9 (R7 _) hp (λ_ _ _ h=>E8 h (Nat.not_lt_zero _)) (λi x e h=>by have:=(L5.mp e).1;omega);unfold SetTable.below;rw[e];exact h
def dn3{xs:dg}(hp:xs.toList.Pairwise (· < ·)):SetTable.below xs 0=0:=by
 obtain⟨h1,h2,_⟩:=bel xs 0 hp;rcases Nat.eq_zero_or_pos (SetTable.below xs 0)with h|h
 . exact h
 . exact E8 (h2 0 _ (Array.getElem?_eq_getElem W9) h) (Nat.not_lt_zero _)
def do5{xs:dg}{i x:Nat}(hp:xs.toList.Pairwise (· < ·))(e:xs[i]?=some x):SetTable.below xs (x+1)=i+1:=by
 obtain⟨h1,h2,h3⟩:=bel xs (x+1) hp;have hi:=(L5.mp e).1;have a:i<SetTable.below xs (x+1):=by refine Nat.lt_of_not_le λh=>?_;have:=h3 i x e h;omega
 refine Nat.le_antisymm (Nat.le_of_not_lt λh=>?_) a;have hk:i+1<xs.size:=W9
 have:=h2 (i+1) _ (Array.getElem?_eq_getElem hk) h;have q:=List.pairwise_iff_getElem.mp hp i (i+1) (by simpa using hi) (by simpa using hk) W9;obtain⟨_,rfl⟩:=L5.mp e;simp only[Array.getElem_toList]at q;omega
structure Tb (led:Bool) (t:SetTable):Prop where
 up:t.place.toList.Pairwise (· < ·)
 no:t.dummies=#[]
 led:t.led=led
def ev3(n:Nat):(Array.range n).toList.Pairwise (· < ·):=by rw[Array.toList_range];exact List.pairwise_lt_range
theorem Tb.fresh(led:Bool):Tb led (.fresh 0 0 led):=⟨List.Pairwise.nil,rfl,rfl⟩
def Tb.stand{led:Bool}{t:SetTable}(h:Tb led t)(n:Nat):Tb led (t.standIn n):=⟨ev3 n,rfl,h.led⟩
def Tb.orStand{led:Bool}{t:SetTable}(h:Tb led t)(n:Nat):Tb led (t.orStandIn n):=by
 unfold SetTable.orStandIn;split
 . exact h
 . exact h.stand n
theorem Tb.slot{led:Bool}{t:SetTable}(h:Tb led t)(j:Nat):t.slot j=.empty/\t.place[SetTable.below t.place j]?≠some j\/∃i,t.slot j=.live i:=by
 unfold SetTable.slot;dsimp only;by_cases hc:t.place[SetTable.below t.place j]?=some j
 . rw[hc];exact .inr ⟨SetTable.below t.place j,X4⟩
 . refine .inl ⟨?_,hc⟩;rw[D7 (by simpa using hc),h.no];rfl
theorem Tb.probe{led:Bool}{t:SetTable}(h:Tb led t)(f:bu)(k:Int):∀(n:Nat)(p:SetTable.Probe)(j:Nat)(d:Option Nat),p.dummy=none->SetTable.probe.go t f k n p=some (.empty j d)->
 d=none/\t.place[SetTable.below t.place j]?≠some j
 |0,p,j,d,_,e=>by unfold SetTable.probe.go at e;cases e
 |n+1,p,j,d,hd,e=>by
  unfold SetTable.probe.go at e;rcases h.slot p.j with⟨a,b⟩|⟨i,a⟩
  . rw[a]at e;cases e;exact⟨hd,b⟩
  . rw[a]at e;dsimp only at e;split at e
    . cases e
    . refine h.probe f k n _ j d ?_ e;unfold SetTable.advance;split<;>exact hd
def ef5{xs:dg}{j:Nat}(hp:xs.toList.Pairwise (· < ·))(hn:xs[SetTable.below xs j]?≠some j):(SetTable.insertAt xs (SetTable.below xs j) j).toList.Pairwise (· < ·):=by
 obtain⟨h1,h2,h3⟩:=bel xs j hp;generalize SetTable.below xs j=r at*;have ha:∀x∈xs.toList.take r,x<j:=λx hx=>by
  obtain⟨i,hi,rfl⟩:=List.mem_take_iff_getElem.mp hx;have hi':i<xs.size:=by have:=E6 (xs:=xs);omega
  exact h2 i _ (by rw[Array.getElem?_eq_getElem hi'];simp) W9
 have hb:∀x∈xs.toList.drop r,j<x:=λx hx=>by
  obtain⟨i,hi,rfl⟩:=List.mem_drop_iff_getElem.mp hx;have hi':i+r<xs.size:=by have:=E6 (xs:=xs);omega
  have e:xs[r+i]?=some (xs.toList[r+i]'(by have:=E6 (xs:=xs);omega)):=by rw[Array.getElem?_eq_getElem W9];simp
  have q:=h3 (r+i) _ e W9;have hr:r<xs.size:=W9
  have q0:=h3 r _ (Array.getElem?_eq_getElem hr) (C9 _);have n0:xs[r]≠j:=λz=>hn (by rw[Array.getElem?_eq_getElem hr,z]);rcases Nat.eq_zero_or_pos i with z|z
  . subst z;simp only[Nat.add_zero,Array.getElem_toList]at q⊢;omega
  . have:=List.pairwise_iff_getElem.mp hp r (r+i) (by simpa using hr) (by have:=E6 (xs:=xs);omega) W9;simp only[Array.getElem_toList]at this q⊢;omega
 rw[SetTable.toList_insertAt,List.pairwise_append,P9];exact⟨hp.take,⟨hb,hp.drop⟩,λa h b hb'=>by
  rcases C4.mp hb' with rfl|h'
  . exact ha a h
  . exact Nat.lt_trans (ha a h) (hb b h')⟩
def Tb.lay{led:Bool}{t:SetTable}(h:Tb led t)(es:bi)(k:Int)(x:Value):Tb led (layNew t es k x).2.1:=by
 unfold layNew;split
 . next slot dm e=>
   unfold SetTable.freeSlot at e;split at e
   . next j d ep=>
     obtain⟨rfl,hn⟩:=h.probe _ k _ _ j d rfl ep;cases e;refine Tb.orStand (t:=(t.put j).1) ⟨ef5 h.up hn,?_,h.led⟩ _;have:SetTable.has t.dummies j=false:=by rw[h.no];rfl
     show(if SetTable.has t.dummies j=true then _ else t.dummies)=#[];rw[this,h.no];rfl
   . cases e
 . exact h.stand _
def Tb.relay{led:Bool}{t:SetTable}(h:Tb led t)(es:bi)(n:Nat):Tb led (relayAll t es n).2.1:=by
 unfold relayAll;split
 . next t' order e=>
   dsimp only;split
   . unfold SetTable.relaid SetTable.laid at e;cases hL:SetTable.layClean (SetTable.sizeAbove n-1) (es.map (·.1))with
     |none=>rw[hL]at e;cases e
     |some owner=>rw[hL]at e;cases e;refine⟨?_,rfl,h.led⟩;show(((List.range _).filterMap λj=>(owner.getD j none).map (j,·)).map (·.1)).Pairwise (· < ·);rw[List.pairwise_map,List.pairwise_filterMap];refine List.pairwise_lt_range.imp λ{a b} hab c hc d hd=>?_;obtain⟨_,_,rfl⟩:=G4.mp hc;obtain⟨_,_,rfl⟩:=G4.mp hd;exact hab
   . exact h.stand _
 . exact h.stand _
def Tb.off{led:Bool}{t:SetTable}(h:Tb led t):Tb led {t with plain:=false}:=⟨h.up,h.no,h.led⟩
section
variable{α:Type}[DecidableEq α]
def jW(O:List α)(x:α):List α:=if x∈O then O else O++[x]
def rL(val:Nat->α)(i:Nat):List α:=((List.range i).map val).foldl jW []
def bx4(val:Nat->α)(i:Nat):rL val (i+1)=jW (rL val i) (val i):=by unfold rL;rw[R5,J1,List.foldl_append];rfl
def dl0(O:List α)(v:α):(jW O v).length<=O.length+1:=by
 unfold jW;split
 . omega
 . simp
theorem ag8(val:Nat->α):∀i,(rL val i).length<=i
 |0=>C9 _
 |i+1=>by rw[bx4];have:=ag8 val i;have:=dl0 (rL val i) (val i);omega
end
section
variable{prog:G1}{w:World}{α:Type}[DecidableEq α]{knd:KeyKind prog w α}{led:Bool}{A:J0}{E:af}{s:B8}{a:Addr}
def SetT(knd:KeyKind prog w α)(led:Bool)(h:Heap)(a:Addr)(l:List α):Prop:=
 ∃o es ep t,h.get? a=some o/\o.ExactSet/\o.data=.set es ep t/\ElemsOf knd es.toList/\(∀k,k∈l↔∃e∈es.toList,knd.is k e.2=true)/\es.size<scanBound/\t.fits es.size=true/\es.size=l.length/\Tb led t
def SetT.at{h h':Heap}{l:List α}(hS:SetT knd led h a l)(k:∀o,h.get? a=some o->h'.get? a=some o):SetT knd led h' a l:=
 let⟨o,es,ep,t,ho,r⟩:=hS
 ⟨o,es,ep,t,k o ho,r⟩
def ci4{h:Heap}{o:Obj}{es:bi}{ep:Nat}{t:SetTable}(ho:h.get? a=some o)(hd:o.data=.set es ep t)(es':bi)(t':SetTable):
 (h.update a (Obj.putSet es' t')).get? a=some {o with data:=.set es' (ep+1) t'}:=by
 have:=Heap.get?_update_self (Obj.putSet es' t') ho (by rw[putSet_of es' t' hd];rfl);rw[putSet_of es' t' hd]at this;exact this
def cv0{g:Bool->Sem Unit}(hg:∀(b:Bool)(s₁:B8)(Q':Unit->B8->Prop),Q' () s₁->wpAny (model prog w) A (g b) Q' E s₁){o:Obj}{es es1:bi}{ep:Nat}{t t2:SetTable}{l:List α}{dm:Bool}{R:Option Bool->B8->Prop}
 (ho:s.heap.get? a=some o)(hex:o.ExactSet)(hd:o.data=.set es ep t)(hel:ElemsOf knd es1.toList)(hm:∀k,k∈l↔∃e∈es1.toList,knd.is k e.2=true)(hb:es1.size<scanBound)(hf:t2.fits es1.size=true)(hn:es1.size=l.length)(tb:Tb led t2)
 (h:∀h',Heap.SameBut a s.heap h'->SetT knd led h' a l->R (some true) {s with heap:=h'}):
 wpAny (model prog w) A (do
  storeSet a es1 t2
  if(!dm&&t2.tooFull)=true then do
   g (relayAll t2 es1 (SetTable.grown es1.size)).2.2
   storeSet a (relayAll t2 es1 (SetTable.grown es1.size)).1 (relayAll t2 es1 (SetTable.grown es1.size)).2.1
   pure (some true)
  else pure (some true)) R E s:=by
 refine A7 (wpAny_storeSet_of ho hd ?_ (fits_of_scanBound hb));have ho1:=ci4 ho hd es1 t2;have sb:=Heap.SameBut.update s.heap a (Obj.putSet es1 t2);split
 . have hp:=relayAll_perm t2 es1 (SetTable.grown es1.size);have hfr:=relayAll_fits t2 es1 (SetTable.grown es1.size);have tr:=tb.relay es1 (SetTable.grown es1.size);generalize relayAll t2 es1 (SetTable.grown es1.size)=Rl at hp hfr tr⊢;obtain⟨es2,t3,gv⟩:=Rl;dsimp only at hp hfr tr⊢;have hs:es2.size=es1.size:=by rw[<-E6,hp.length_eq,E6]
   refine A7 (hg _ _ _ ?_);refine A7 (wpAny_storeSet_of ho1 rfl ?_ (fits_of_scanBound W9));exact B9 (h _ (sb.trans (Heap.SameBut.update _ a _)) ⟨_,es2,ep+1+1,t3,ci4 ho1 rfl es2 t3,hex,rfl,hel.perm hp,
    λk=>(hm k).trans ⟨λ⟨e,he,q⟩=>⟨e,hp.mem_iff.mpr he,q⟩,λ⟨e,he,q⟩=>⟨e,hp.mem_iff.mp he,q⟩⟩,W9,hfr,W9,tr⟩)
 . exact B9 (h _ sb ⟨_,es1,ep+1,t2,ho1,hex,rfl,hel,hm,hb,hf,hn,tb⟩)
theorem et0{l:List α}{k:α}{x:Value}{Q:Bool->B8->Prop}(hk:knd.is k x=true)(hx:x.scannable=true)(hS:SetT knd led s.heap a l)(hr:l.length+1<scanBound)
 (h:∀b h',Heap.SameBut a s.heap h'->SetT knd led h' a (jW l k)->Q b {s with heap:=h'}):wpAny (model prog w) A (setAddHashed a x (knd.hash k)) Q E s:=by
 obtain⟨o,es,ep,t,ho,hex,hd,hel,hm,hb,hf,hn,tb⟩:=hS;unfold setAddHashed setAddHashedIn;refine P8 (A7 (wpAny_setState_of ho hd hf ?_));dsimp only;rw[byScan_of hx hb hel];simp only[↓reduceIte];unfold setAddByScan;refine A7 (A7 (wpAny_rule (A7 (wpAny_setScan_of hk ho hd hf hel ?_))));have gw:∀(b:Bool)(s₁:B8)(Q':Unit->B8->Prop),Q' () s₁->wpAny (model prog w) A (match b with|true=>rule "set.scan.the-table-gave-way"|false=>pure ()) Q' E s₁:=
  λb _ _ q=>by cases b<;>first|exact B9 q|exact wpAny_rule q
 cases hi:List.findIdx? (λe=>knd.is k e.2) es.toList with
 |some j=>dsimp only;obtain⟨hj,hp,_⟩:=List.findIdx?_eq_some_iff_getElem.mp hi;have hl:k∈l:=(hm k).mpr ⟨_,K3 hj,hp⟩;refine B9 (B9 ?_);have:=h false s.heap (Heap.SameBut.refl a s.heap) ⟨o,es,ep,t,ho,hex,hd,hel,by unfold jW;rw[E3 hl];exact hm,hb,hf,by unfold jW;rw[E3 hl];exact hn,tb⟩;exact this
 |none=>
  dsimp only;have hl:k∉l:=λq=>by obtain⟨e,he,hp⟩:=(hm k).mp q;have:=List.findIdx?_eq_none_iff.mp hi e he;rw[hp]at this;cases this
  have hp:=layNew_perm t es (knd.hash k) x;have hf1:=layNew_fits t es (knd.hash k) x;have tl:=tb.lay es (knd.hash k) x;generalize layNew t es (knd.hash k) x=L at hp hf1 tl⊢;obtain⟨es1,t1,dm,gv⟩:=L;dsimp only at hp hf1 tl⊢;rw[Array.toList_push]at hp;have hs:es1.size=es.size+1:=by rw[<-E6,hp.length_eq,E7,E6];rfl
  have es':jW l k=l++[k]:=by unfold jW;rw[D7 hl]
  have hm1:∀k',k'∈jW l k↔∃e∈es1.toList,knd.is k' e.2=true:=λk'=>by
   rw[es',A9,C5,hm];refine⟨λq=>q.elim (λ⟨e,he,q⟩=>⟨e,hp.mem_iff.mpr (D9 _ he),q⟩) (λq=>⟨_,hp.mem_iff.mpr (C6 _ B7),by rw[q];exact hk⟩),λ⟨e,he,q⟩=>?_⟩;rcases A9.mp (hp.mem_iff.mp he)with he|he
   . exact .inl ⟨e,he,q⟩
   . rw[C5]at he;subst he;exact .inr (knd.inj x k' k q hk)
  have hn1:es1.size=(jW l k).length:=by rw[es',E7,hs,hn];rfl
  refine A7 (gw _ _ _ ?_);split
  . rw[hashByValue_scannable 8 hx];refine A7 (B9 ?_);refine cv0 gw ho hex hd ((hel.push hk hx).perm hp) hm1 W9 ?_ hn1 ?_ λh' sb q=>B9 (h _ h' sb q)
    . split
      . exact hf1
      . exact SetTable.fits_plain_off hf1
    . split
      . exact tl
      . exact tl.off
  . refine A7 (B9 ?_);simp only[↓reduceIte];exact cv0 gw ho hex hd ((hel.push hk hx).perm hp) hm1 W9 hf1 hn1 tl λh' sb q=>B9 (h _ h' sb q)
end
section
variable{prog:G1}{w:World}{α:Type}[DecidableEq α]{knd:KeyKind prog w α}{led:Bool}{A:J0}{R:Result->B8->Prop}{I:Addr}{fp wr:av}{G:Array GenState->Array GenState->Prop}{n:Nat}{P:c_}{St:Nat->B8->Prop}
theorem dm4(W:WalksS prog w A.in1 I fp wr G n P St)(S:Addr)(hS:S∉fp)(val:Nat->α)(hval:∀i v,P i v->knd.is (val i) v=true/\v.scannable=true)(hb:n+1<scanBound):
 ∀(k i:Nat)(s:B8),n-i=k->i<=n->St i s->SetT knd led s.heap S (rL val i)->
  (∀s',Moved (S::wr) G s s'->SetT knd led s'.heap S (rL val n)->R (.ok (.ret .none)) s')->
  codeAny (model prog w) A (.builtin "set.update.loop" ⟨[.ref S,.ref I],[]⟩) R s:=by
 have hw:S∉wr:=λh=>hS (W.sub _ h);have sub:∀b∈wr,b∈S::wr:=λb hb=>B5 _ hb;intro k;induction k with
 |zero=>
  intro i s hk hi st hs hR;obtain rfl:i=n:=W9
  refine codeAny_builtin PyProof.Rows.F.entry_set_update_loop ?_;rw[Around.under_plainId R0 _]
  (show wpAny _ A.in1 (pyNext (.ref I)>>=_) _ _ s);refine A7 (W.done s _ _ st λs' hm=>?_)
  (show wpAny _ A.in1 (ret Value.none) _ _ s');exact B9 (hR s' (hm.mono sub) (hs.at λo ho=>hm.heap S _ hw ho))
 |succ k ih=>
  intro i s hk hi st hs hR;have lt:i<n:=W9
  refine codeAny_builtin PyProof.Rows.F.entry_set_update_loop ?_;rw[Around.under_plainId R0 _]
  (show wpAny _ A.in1 (pyNext (.ref I)>>=_) _ _ s);refine A7 (W.item i s _ _ lt st λv s' hP st' hm=>?_)
  obtain⟨kv,sv⟩:=hval i v hP
  (show wpAny _ A.in1 (holding [v] (setAdd S v)>>=_) _ _ s');refine A7 (P8 ?_);unfold setAdd
  refine P8 ?_;refine A7 (knd.pyHash (k:=val i) kv ?_);have room:(rL val i).length+1<scanBound:=by have:=ag8 val i;omega
  refine et0 (s:={s' with toks:=s'.toks+1}) kv sv (hs.at λo ho=>hm.heap S _ hw ho) room λb h' hsb hS2=>?_;rw[<-bx4]at hS2;refine B9 ⟨plainId_quiet R0 _,ih (i+1) _ W9 lt (W.frame _ s' _ _ st' (Nat.le_succ _) λb hb o e=>?_) hS2 λs'' hm'' hS''=>?_⟩
  . exact(hsb.2 b (λh:b=S=>hS (by rw[<-h];exact hb))).trans e
  . refine hR s'' (Moved.trans W.gtrans ((hm.mono sub).then_heap (Nat.le_succ _) λb o hb e=>?_) hm'') hS'';exact(hsb.2 b (λh:b=S=>hb (by rw[h];exact B7))).trans e
end
section
variable{prog:G1}{w:World}{α:Type}[DecidableEq α]{knd:KeyKind prog w α}{A:J0}{E:af}{s:B8}
def mY(w:World):Bool:=!w.params.followText "set-order"
abbrev lZ(led:Bool):Obj:={cls:=.type "set",dict:=none,data:=.set #[] 0 (.fresh 0 0 led)}
def dw9(v:Value){Q:af}(h:Q (.ref s.heap.objs.size) {s with heap:=s.heap.push (lZ (mY w))}):codeAny (model prog w) A (.call (.builtin "set.__new__") ⟨[.type "set",v],[]⟩) (wants Q E) s:=by
 refine codeAny_of_tree ?_
 (show wpAny _ A.in1 (do checkBuiltinCall "set.__new__" ⟨[.type "set",v],[]⟩;again (.builtin "set.__new__" ⟨[.type "set",v],[]⟩)) _ _ s)
 refine A7 (wpAny_of_eq (PySem.F.newCall_set_1 v) (B9 ⟨plainId_quiet F.plain_set_new _,codeAny_builtin F.entry_set_new ?_⟩));rw[Around.under_plainId F.plain_set_new _];unfold Builtin.«set.__new__» Builtin.Frozenset.newClass;have hsub:=sub_set_self;obtain⟨hp,g,d,tk,os⟩:=s;dsimp only;wp_walk;refine wpAny_askSetting (B9 ?_);dsimp only;simp only[newObj];refine A7 (wpAny_alloc (B9 ?_));exact B9 h
set_option maxHeartbeats 3200000 in
theorem be8{l:Addr}{us:bg}{val:Nat->α}{Q:af}(hh:A.handled=none)(hl:s.heap.IsList l us)(hv:∀(i:Nat) v,us[i]?=some v->knd.is (val i) v=true/\v.scannable=true)(hb:us.size+1<scanBound)
 (h:∀(h':Heap)(tk:Nat),SetT knd (mY w) h' s.heap.objs.size (rL val us.size)->(∀b o,b<s.heap.objs.size->s.heap.get? b=some o->h'.get? b=some o)->Q (.ref s.heap.objs.size) {s with heap:=h',toks:=tk}):
 wpAny (model prog w) A (call (.type "set") [.ref l]) Q E s:=by
 obtain⟨c,tl,hmro⟩:=N2.mro;have hmade:=N2.made;have hsub:=N2.sub;refine wpAny_call (codeAny_of_tree ?_);(show wpAny _ _ (callAny (.type "set") _) _ _ _)
 refine B9 ⟨Code.quiet_builtin _ X0,codeAny_builtin PySem.F.entry_type_call ?_⟩;rw[Around.under_plain (weight_type_call_type "set" [.ref l] []) rfl];have h1:=N2.notType;have h2:=N2.canCreate;have hct:=PySem.F.typeCall_set_1 (.ref l)
 (repeat(any_goals(first|assumption|wp_step)))
 refine S8 (dw9 (.ref l) (E:=E) (Q:=λobj s₁=>obj=.ref s.heap.objs.size/\s₁={s with heap:=s.heap.push (lZ (mY w))}) ⟨rfl,rfl⟩) λr s₁ hr=>?_;cases r with
 |error e=>exact hr
 |ok fl=>
  cases fl with
  |ret obj=>
   obtain⟨rfl,rfl⟩:=hr;have hS:(s.heap.push (lZ (mY w))).get? s.heap.objs.size=some (lZ (mY w)):=D6 _ rfl;have hT:Shared.TypeIs {s with heap:=s.heap.push (lZ (mY w))} (.ref s.heap.objs.size) "set":=⟨_,hS,rfl⟩;have hli:=N2.init.lookup;have hbi:=N2.init.bind (.ref s.heap.objs.size)
   (repeat(any_goals(first|assumption|wp_step)))
   refine S8 (codeAny_call_builtin (R:=wants (λr s₂=>r=.none/\∃h' tk,s₂={s with heap:=h',toks:=tk}/\SetT knd (mY w) h' s.heap.objs.size (rL val us.size)/\
    (∀b o,b<s.heap.objs.size->s.heap.get? b=some o->h'.get? b=some o)) E) N2.init.plain PySem.F.entry_set_init (check_set_init_1 hT ?_)) λr₂ s₂ hr₂=>?_
   . obtain⟨ol,hol,hcl,nl,hdl⟩:=hl;obtain⟨ocls,odict,odata,oslots⟩:=ol;simp only at hcl hdl;subst hcl;subst hdl;have hol':(s.heap.push (lZ (mY w))).get? l=some {cls:=.type "list",dict:=odict,data:=.seq us nl,slots:=oslots}:=B0 _ hol;have hsls:=PySem.F.sub_list_set;have hslf:=PySem.F.sub_list_frozenset;have hne:(Value.type "list"==Value.type "dict")=false:=X5
     have hl1:(s.heap.push (lZ (mY w))).IsList l us:=⟨_,hol',rfl,nl,rfl⟩;unfold Builtin.«set.__init__» noKeywords Builtin.Frozenset.updateFrom;generalize hPI:pyIter=PI;wp_walk;subst hPI
     refine S7 hl1 ?_;refine A7 (wpAny_runValue ?_);have hlS:l<s.heap.objs.size:=D5 hol;have hh3:A.in1.in1.in1.handled=none:=by simp[hh]
     have hneI:l≠(s.heap.push (lZ (mY w))).objs.size:=by rw[L4];exact G2 (Nat.lt_succ_of_lt hlS)
     have hSf:s.heap.objs.size∉[(s.heap.push (lZ (mY w))).objs.size,l]:=by rw[L4];simp only[C4,J3,O6,not_or];exact⟨G2 (Q7 _),R9 hlS⟩
     refine dm4 (led:=mY w) ((Walks.list hh3 _ l hneI us).toS) s.heap.objs.size hSf val hv hb (us.size-0) 0 _ W9 (R7 _) ⟨⟨_,D6 _ rfl,rfl,rfl⟩,(hl1.push _)⟩ ?hS0 ?hR;case hS0=>exact⟨_,#[],0,_,B0 _ hS,⟨rfl,rfl,rfl⟩,rfl,λe he=>E8 he X4,λk=>by simp[rL],X5,rfl,rfl,.fresh _⟩
     case hR=>
      intro s' hm hS';obtain⟨h',g',d',tk',os'⟩:=s';obtain rfl:g'=s.gens:=hm.gens;obtain rfl:d'=s.drawn:=hm.drawn;obtain rfl:os'=s.os:=hm.os
      (show wpAny _ _ _ _ _ _);refine B9 ?_;(show wpAny _ _ (ret Value.none) _ _ _)
      refine B9 ⟨rfl,h',tk',rfl,hS',λb o hb e=>?_⟩;have hb2:b≠(s.heap.push (lZ (mY w))).objs.size:=by rw[L4];exact G2 (Nat.lt_succ_of_lt hb)
      exact hm.heap b o (by simp only[C4,J3,O6,not_or];exact⟨G2 hb,hb2⟩) (B0 _ (B0 _ e))
   . cases r₂ with
     |error e=>exact hr₂
     |ok fl₂=>
      cases fl₂ with
      |ret r=>
       obtain⟨rfl,h',tk,rfl,hS',hk'⟩:=hr₂
       (repeat(any_goals(first|assumption|wp_step)))
       exact h _ _ hS' hk'
      |_=>exact hr₂
  |_=>exact hr
end
def bb9{α:Type}(l:List α)(i:Nat)(h:i<l.length):(l[i]::l.eraseIdx i).Perm l:=by rw[List.eraseIdx_eq_take_drop_succ];refine List.perm_middle.symm.trans (.of_eq ?_);rw[<-List.drop_eq_getElem_cons h,List.take_append_drop]
theorem cz3{α:Type}(f:c6):∀(n k:Nat)(l:List α)(o:Array α),l.length=n->(pickOrder.go f n k l o).toList.Perm (o.toList++l)
 |0,k,l,o,h=>by unfold pickOrder.go;rw[List.length_eq_zero_iff.mp h,K8]
 |n+1,k,l,o,h=>by unfold pickOrder.go;have hl:f k%l.length<l.length:=Nat.mod_lt _ W9;rw[A6 hl];dsimp only;refine(cz3 f n (k+1) _ _ (by rw[List.length_eraseIdx_of_lt hl];omega)).trans ?_;rw[Array.toList_push,K0];exact(bb9 l _ hl).append_left _
def an5{α:Type}(f:c6)(xs:Array α):(pickOrder f xs).toList.Perm xs.toList:=by unfold pickOrder;have:=cz3 f xs.size 0 xs.toList #[] X4;simpa using this
section
variable{M:Model}{A:J0}{E:af}
theorem cx4{α:Type}:∀(n:Nat)(xs:List α)(s:B8)(Q:List α->B8->Prop),xs.length=n->(∀ys d,ys.Perm xs->Q ys {s with drawn:=d})->wpAny M A (drawOrder n xs) Q E s
 |0,xs,s,Q,hn,h=>by unfold drawOrder;exact B9 (h [] s.drawn (by rw[List.length_eq_zero_iff.mp hn]))
 |n+1,[],s,Q,hn,h=>by cases hn
 |n+1,x::xs,s,Q,hn,h=>by unfold drawOrder;refine λΓ p hΓ=>⟨X4,?_⟩;have hl:=Nat.mod_lt (M.w.draws .order (s.drawn.get .order)) (show(x::xs).length>0 by simp);generalize M.w.draws .order (s.drawn.get .order)%(x::xs).length=i at hl⊢;simp only[Sem.bind];rw[A6 hl];exact(A7 (cx4 n ((x::xs).eraseIdx i) {s with drawn:=s.drawn.bump .order} _ (by rw[List.length_eraseIdx_of_lt hl];omega) λys d hp=>B9 (h _ d ((hp.cons _).trans (bb9 _ i hl))))) Γ p hΓ
end
def slot_snx:Slot "set_iterator" "__next__" "set_iterator.__next__":=
 .of (owner:="set_iterator") (n:="__next__") (by rw[typeLookup_type,builtinLookup_eq_fast];kernel_rfl) X0 X0 X0 (by first|exact .inl X0|exact .inr X0) (by rw[isSubtype_type];kernel_rfl)
def zR:entryFor table "set_iterator.__next__"=some Builtin.«set_iterator.__next__»:=entryFor_of_tree (by kernel_rfl)
def au2(a:Value):argsOk "set_iterator.__next__" ⟨[a],[]⟩:=by unfold argsOk;kernel_rfl
def dc1:entryFor table "set.__iter__"=some Builtin.«frozenset.__iter__»:=entryFor_alias (id':="frozenset.__iter__") (by kernel_rfl) rfl X0 (by kernel_rfl)
def SIt(h:Heap)(I S:Addr)(f:Value)(i n ep:Nat):Prop:=∃o,h.get? I=some o/\o.cls=.type "set_iterator"/\o.data=.fields #[f,.int i 0,.ref S,.int n 0,.int ep 0]
def SAt(h:Heap)(S:Addr)(es:bi)(ep:Nat)(t:SetTable):Prop:=∃o,h.get? S=some o/\o.ExactSet/\o.data=.set es ep t
section
variable{prog:G1}{w:World}{A:J0}{E:af}{s:B8}{I S:Addr}{es:bi}{ep i:Nat}{t:SetTable}{Q:Option Value->B8->Prop}
def ej0{k k':Nat}{x:Value}(hi:SIt s.heap I S (.int k 0) i es.size ep)(hs:SAt s.heap S es ep t)(hf:t.fits es.size=true)
 (hn:∀(A':J0)(E':af)(Q':bf),Q' (some (x,k')) s->wpAny (model prog w) A' (setNext S k i ep) Q' E' s)
 (hQ:∀h',SIt h' I S (.int k' 0) (i+1) es.size ep->Heap.SameBut I s.heap h'->Q (some x) {s with heap:=h'}):wpAny (model prog w) A (pyNext (.ref I)) Q E s:=by
 obtain⟨o,ho,hc,hd⟩:=hi;obtain⟨so,hso,_,hsd⟩:=hs;have hT:s.TypeIs (.ref I) "set_iterator":=⟨o,ho,hc⟩;unfold pyNext;refine A7 (wpAny_attempt (L6 (name:=Str.ofString "__next__") hT slot_snx (L9 slot_snx hT zR ?_ (au2 _))));unfold Builtin.«set_iterator.__next__»;refine A7 (m:=slotArgs "__next__" 0 _) (B9 ?_);refine A7 (wpAny_fieldsOf ho hd ?_);dsimp only;refine A7 (wpAny_setEntries_of hso hsd hf ?_);rw[D7 X4];simp only[Int.toNat_natCast];refine A7 (hn _ _ _ ?_);dsimp only;refine A7 (wpAny_setField ho hd X4 ?_);have hd2:=Obj.data_mapFields hd (·.setIfInBounds 0 (rawInt k'));have ho2:=Heap.get?_update_self _ ho (Obj.isFreed_of_fields hd2);refine A7 (wpAny_setField ho2 hd2 X4 (B9 ⟨x,rfl,B9 (hQ _ ?_ ((Heap.SameBut.update ..).trans (Heap.SameBut.update ..)))⟩));refine⟨_,Heap.get?_update_self _ ho2 (Obj.isFreed_of_fields (Obj.data_mapFields hd2 _)),(Obj.cls_mapFields ..).trans ((Obj.cls_mapFields ..).trans hc),?_⟩;rw[Obj.data_mapFields hd2];simp[rawInt]
def ei1{tp:Addr}{ps:az}{p:Nat}{x:Value}{ot:Obj}{n:Nat}(hi:SIt s.heap I S (.ref tp) i es.size ep)(hs:SAt s.heap S es ep t)(hf:t.fits es.size=true)(ht:s.heap.get? tp=some ot)(htd:ot.data=.seq (ps.map λ(j:Nat)=>rawInt j).toArray n)
 (hp:ps[i]?=some p)(hx:(es[p]?).map (·.2)=some x)
 (hQ:∀h',SIt h' I S (.ref tp) (i+1) es.size ep->Heap.SameBut I s.heap h'->Q (some x) {s with heap:=h'}):wpAny (model prog w) A (pyNext (.ref I)) Q E s:=by
 obtain⟨o,ho,hc,hd⟩:=hi;obtain⟨so,hso,_,hsd⟩:=hs;have hT:s.TypeIs (.ref I) "set_iterator":=⟨o,ho,hc⟩;obtain⟨⟨h0,x0⟩,ex,rfl⟩:=G4.mp hx;unfold pyNext;refine A7 (wpAny_attempt (L6 (name:=Str.ofString "__next__") hT slot_snx (L9 slot_snx hT zR ?_ (au2 _))));unfold Builtin.«set_iterator.__next__»;refine A7 (m:=slotArgs "__next__" 0 _) (B9 ?_);refine A7 (wpAny_fieldsOf ho hd ?_);dsimp only;refine A7 (wpAny_setEntries_of hso hsd hf ?_);rw[D7 X4];refine A7 (Q1 ht htd ?_);dsimp only;have e1:((ps.map λ(j:Nat)=>rawInt j).toArray)[Int.toNat (i:Int)]?=some (rawInt p):=by rw[E5,List.getElem?_toArray,C8,hp];rfl
 rw[e1];dsimp only[rawInt];unfold setNextDrawn;refine A7 (A7 (wpAny_setState_of hso hsd hf ?_));dsimp only;simp only[Int.toNat_natCast,bne_self_eq_false,Q0,↓reduceIte,ex];refine B9 ?_;refine A7 (wpAny_setField ho hd X4 (B9 ⟨x0,rfl,B9 (hQ _ ?_ (Heap.SameBut.update ..))⟩));refine⟨_,Heap.get?_update_self _ ho (Obj.isFreed_of_fields (Obj.data_mapFields hd _)),(Obj.cls_mapFields ..).trans hc,?_⟩;rw[Obj.data_mapFields hd];simp[rawInt]
def cp4{α:Type}(hh:A.handled=none){Q:α->B8->Prop}(h:∀h' e,(∀b o,s.heap.get? b=some o->h'.get? b=some o)->(∃o,h'.get? e=some o/\o.cls=.type "StopIteration")->E (.ref e) {s with heap:=h'}):
 wpAny (model prog w) A (do raiseNew (<-newExc (.type "StopIteration") [])) Q E s:=by
 refine A7 ?_;simp only[newExc,newTuple];refine A7 (K7 ?_ (by size_fits));refine A7 (m:=firstArgMember _ _) (wpAny_of_eq (a:=Value.none) (by first|rfl|(simp only[firstArgMember];rfl)) ?_);refine K7 ?_ (by size_fits);simp only[raiseNew];refine A7 (wpAny_handled ?_);rw[hh];refine A7 (B9 (wpAny_throw ?_));exact h _ _ (λb o e=>B0 _ (B0 _ e)) ⟨_,D6 _ rfl,rfl⟩
def cp2(hh:A.handled=none){k:Nat}(hi:SIt s.heap I S (.int k 0) i es.size ep)(hs:SAt s.heap S es ep t)(hf:t.fits es.size=true)
 (hn:∀(A':J0)(E':af)(Q':bf),Q' none s->wpAny (model prog w) A' (setNext S k i ep) Q' E' s)
 (hQ:∀h',Heap.ExtBut I s.heap h'->Q none {s with heap:=h'}):wpAny (model prog w) A (pyNext (.ref I)) Q E s:=by
 obtain⟨o,ho,hc,hd⟩:=hi;obtain⟨so,hso,_,hsd⟩:=hs;have hT:s.TypeIs (.ref I) "set_iterator":=⟨o,ho,hc⟩;unfold pyNext;refine A7 (wpAny_attempt (L6 (name:=Str.ofString "__next__") hT slot_snx (L9 slot_snx hT zR ?_ (au2 _))));unfold Builtin.«set_iterator.__next__»;refine A7 (m:=slotArgs "__next__" 0 _) (B9 ?_);refine A7 (wpAny_fieldsOf ho hd ?_);dsimp only;refine A7 (wpAny_setEntries_of hso hsd hf ?_);rw[D7 X4];simp only[Int.toNat_natCast];refine A7 (hn _ _ _ ?_);dsimp only;refine A7 (wpAny_setField ho hd X4 (cp4 (A:=A.in1) hh λh' e hk he=>?_));refine A7 (wpAny_isInstance (T:="StopIteration") (b:=true) he isSubtype_stop ?_);exact B9 (hQ _ λb o hb e=>hk b o ((K9 _ _ (N6 hb)).trans e))
def ch2(hh:A.handled=none){tp:Addr}{ps:az}{ot:Obj}{n:Nat}(hi:SIt s.heap I S (.ref tp) i es.size ep)(hs:SAt s.heap S es ep t)(hf:t.fits es.size=true)(ht:s.heap.get? tp=some ot)(htd:ot.data=.seq (ps.map λ(j:Nat)=>rawInt j).toArray n)
 (hp:ps[i]?=none)(hQ:∀h',Heap.ExtBut I s.heap h'->Q none {s with heap:=h'}):wpAny (model prog w) A (pyNext (.ref I)) Q E s:=by
 obtain⟨o,ho,hc,hd⟩:=hi;obtain⟨so,hso,_,hsd⟩:=hs;have hT:s.TypeIs (.ref I) "set_iterator":=⟨o,ho,hc⟩;unfold pyNext;refine A7 (wpAny_attempt (L6 (name:=Str.ofString "__next__") hT slot_snx (L9 slot_snx hT zR ?_ (au2 _))));unfold Builtin.«set_iterator.__next__»;refine A7 (m:=slotArgs "__next__" 0 _) (B9 ?_);refine A7 (wpAny_fieldsOf ho hd ?_);dsimp only;refine A7 (wpAny_setEntries_of hso hsd hf ?_);rw[D7 X4];refine A7 (Q1 ht htd ?_);dsimp only;have e1:((ps.map λ(j:Nat)=>rawInt j).toArray)[Int.toNat (i:Int)]?=none:=by rw[E5,List.getElem?_toArray,C8,hp];rfl
 rw[e1];dsimp only;refine A7 (wpAny_setField ho hd X4 ?_);have hd2:=Obj.data_mapFields hd (·.setIfInBounds 0 (rawInt 0));have ho2:=Heap.get?_update_self _ ho (Obj.isFreed_of_fields hd2);refine A7 (wpAny_setField ho2 hd2 X4 (cp4 (A:=A.in1) hh λh' e hk he=>?_));refine A7 (wpAny_isInstance (T:="StopIteration") (b:=true) he isSubtype_stop ?_);exact B9 (hQ _ λb o hb e=>hk b o ((K9 _ _ (N6 hb)).trans ((K9 _ _ (N6 hb)).trans e)))
def bq9:Slot "set_iterator" "__iter__" "set_iterator.__iter__":=
 .of (owner:="set_iterator") (n:="__iter__") (by rw[typeLookup_type,builtinLookup_eq_fast];kernel_rfl) X0 X0 X0 (by first|exact .inl X0|exact .inr X0) (by rw[isSubtype_type];kernel_rfl)
def ct9:entryFor table "set_iterator.__iter__"=some Builtin.«dict_keyiterator.__iter__»:=entryFor_alias (id':="dict_keyiterator.__iter__") (by kernel_rfl) rfl X0 (by kernel_rfl)
def dj2(a:Value):argsOk "set_iterator.__iter__" ⟨[a],[]⟩:=by unfold argsOk;kernel_rfl
def cf5{f:Value}{n:Nat}{Q:af}(hi:SIt s.heap I S f i n ep)(h:Q (.ref I) s):wpAny (model prog w) A (pyIter (.ref I)) Q E s:=by
 obtain⟨o,ho,hc,hd⟩:=hi;have hT:s.TypeIs (.ref I) "set_iterator":=⟨o,ho,hc⟩;refine wpAny_pyIter_slot hT bq9 (L9 bq9 hT ct9 ?_ (dj2 _))
 (show wpAny _ _ (ret (.ref I)) _ _ s)
 exact B9 ⟨_,rfl,"set_iterator",_,hT,slot_snx.lookup,h⟩
def SAt.at{h h':Heap}(x:SAt h S es ep t)(e:∀o,h.get? S=some o->h'.get? S=some o):SAt h' S es ep t:=let⟨o,ho,r⟩:=x;⟨o,e o ho,r⟩
def SIt.at{h h':Heap}{f:Value}{n:Nat}(x:SIt h I S f i n ep)(e:∀o,h.get? I=some o->h'.get? I=some o):SIt h' I S f i n ep:=let⟨o,ho,r⟩:=x;⟨o,e o ho,r⟩
def bo5(hh:A.handled=none)(ne:S≠I)(hf:t.fits es.size=true)(ord:ao)(hl:ord.length=es.size)(k:c6)
 (hn:∀(i:Nat) x (s:B8)(A':J0)(E':af)(Q':bf),ord[i]?=some x->SAt s.heap S es ep t->Q' (some (x,k (i+1))) s->wpAny (model prog w) A' (setNext S (k i) i ep) Q' E' s)
 (he:∀(s:B8)(A':J0)(E':af)(Q':bf),SAt s.heap S es ep t->Q' none s->wpAny (model prog w) A' (setNext S (k es.size) es.size ep) Q' E' s):
 Walks prog w A I [I,S] [I] es.size (λi v=>ord[i]?=some v) (λi h=>SAt h S es ep t/\SIt h I S (.int (k i) 0) i es.size ep) where
 sub:=λb hb=>by simp at hb;simp[hb]
 frame:=λ_ _ _ st hk=>⟨st.1.at λo e=>hk S X4 o e,st.2.at λo e=>hk I X4 o e⟩
 item:=λi s Q E hi st hQ=>by have hx:ord[i]?=some (ord[i]' W9):=A6 _;refine ej0 st.2 st.1 hf (λA' E' Q' q=>hn i _ s A' E' Q' hx st.1 q) λh' hit sb=>?_;exact hQ _ h' s.toks hx ⟨st.1.at λo e=>sb.extBut S o ne e,hit⟩ λb o hb e=>sb.extBut b o (λh=>hb (by simp[h])) e
 done:=λs Q E st hQ=>cp2 hh st.2 st.1 hf (λA' E' Q' q=>he s A' E' Q' st.1 q) λh' hk=>hQ h' s.toks λb o hb e=>hk b o (λh=>hb (by simp[h])) e
 self:=λ_ _ _ _ st hQ=>cf5 st.2 hQ
def cz8{tp:Addr}{ps:az}{n:Nat}(hh:A.handled=none)(ne:S≠I)(ne2:tp≠I)(hf:t.fits es.size=true)(hl:ps.length=es.size)(hb:∀p∈ps,p<es.size):
 Walks prog w A I [I,S,tp] [I] es.size (λi v=>∃p,ps[i]?=some p/\(es[p]?).map (·.2)=some v)
  (λi h=>SAt h S es ep t/\SIt h I S (.ref tp) i es.size ep/\∃ot,h.get? tp=some ot/\ot.data=.seq (ps.map λ(j:Nat)=>rawInt j).toArray n) where
 sub:=λb hb=>by simp at hb;simp[hb]
 frame:=λ_ _ _ st hk=>⟨st.1.at λo e=>hk S X4 o e,st.2.1.at λo e=>hk I X4 o e,let⟨ot,a,b⟩:=st.2.2;⟨ot,hk tp X4 ot a,b⟩⟩
 item:=λi s Q E hi st hQ=>by
  obtain⟨ot,ht,htd⟩:=st.2.2;have hp:ps[i]?=some (ps[i]' W9):=A6 _;have hx:(es[ps[i]' W9]?).map (·.2)=some (es[ps[i]' W9]'(hb _ (K3 _))).2:=by rw[Array.getElem?_eq_getElem (hb _ (K3 _))];rfl
  refine ei1 st.2.1 st.1 hf ht htd hp hx λh' hit sb=>?_;exact hQ _ h' s.toks ⟨_,hp,hx⟩ ⟨st.1.at λo e=>sb.extBut S o ne e,hit,ot,sb.extBut tp ot ne2 ht,htd⟩ λb o hb e=>sb.extBut b o (λh=>hb (by simp[h])) e
 done:=λs Q E st hQ=>by obtain⟨ot,ht,htd⟩:=st.2.2;exact ch2 hh st.2.1 st.1 hf ht htd (J6 W9) λh' hk=>hQ h' s.toks λb o hb e=>hk b o (λh=>hb (by simp[h])) e
 self:=λ_ _ _ _ st hQ=>cf5 st.2.1 hQ
end
section
variable{prog:G1}{w:World}{A:J0}{E:af}{s:B8}{S:Addr}{es:bi}{ep:Nat}{t:SetTable}
def kAt(t:SetTable):Nat->Nat
 |0=>0
 |i+1=>t.place.getD i 0+1
def bh4(hw:w.params.followText "set-order"=true)(hf:t.fits es.size=true){i:Nat}{Q:bf}(hs:SAt s.heap S es ep t)
 (q:Q (((pickOrder (w.params.setOrder S ep) es)[i]?).map λe=>(e.2,0)) s):wpAny (model prog w) A (setNext S 0 i ep) Q E s:=by
 obtain⟨o,ho,_,hd⟩:=hs;unfold setNext;refine A7 (wpAny_setState_of ho hd hf ?_);dsimp only;unfold setsByText;refine A7 (A7 (wpAny_askSetting (B9 ?_)));rw[E3 (show(⟨(model prog w).prog,(model prog w).w.params⟩:Setting).params.followText "set-order"=true from hw)];rw[D7 X4];refine A7 ?_;unfold setWalk setsByText;refine A7 (wpAny_setState_of ho hd hf ?_);dsimp only;refine A7 (A7 (wpAny_askSetting (B9 ?_)));rw[E3 (show(⟨(model prog w).prog,(model prog w).w.params⟩:Setting).params.followText "set-order"=true from hw)];refine A7 (wpAny_askSetting (B9 ?_));exact B9 q
def aq9(hw:w.params.followText "set-order"=false)(hp:(!t.plain&&decide (es.size>1))=false)(hf:t.fits es.size=true)(tb:Tb true t){i:Nat}{Q:bf}(hs:SAt s.heap S es ep t)
 (q:Q ((es[i]?).map λe=>(e.2,kAt t (i+1))) s)(hi:i<=es.size):wpAny (model prog w) A (setNext S (kAt t i) i ep) Q E s:=by
 obtain⟨o,ho,_,hd⟩:=hs;unfold setNext;refine A7 (wpAny_setState_of ho hd hf ?_);dsimp only;unfold setsByText;refine A7 (A7 (wpAny_askSetting (B9 ?_)));rw[D7 (show¬(⟨(model prog w).prog,(model prog w).w.params⟩:Setting).params.followText "set-order"=true by rw[show(⟨(model prog w).prog,(model prog w).w.params⟩:Setting).params.followText "set-order"=false from hw];simp)]
 (show wpAny _ _ (if(!t.plain&&decide (es.size>1))=true then _ else _) _ _ _)
 rw[hp,D7 X4];refine A7 (wpAny_of_eq (a:=()) ?_ ?_)
 . (show(if(!t.led&&!es.isEmpty)=true then _ else _)=_)
   rw[tb.led];rfl
 . have sz:t.place.size=es.size:=by simp only[SetTable.fits,G8,S5]at hf;exact hf.1
   have eb:SetTable.below t.place (kAt t i)=i:=by
    cases i with
    |zero=>exact dn3 tb.up
    |succ i=>
     have hi':i<t.place.size:=W9
     refine(N1 _ ?_).trans (do5 tb.up (Array.getElem?_eq_getElem hi'));show t.place.getD i 0+1=_;simp[Array.getD,hi']
   refine B9 ?_;rw[eb];rcases Nat.lt_or_ge i es.size with h|h
   . have h':i<t.place.size:=W9
     rw[Array.getElem?_eq_getElem h,Array.getElem?_eq_getElem h'];rw[Array.getElem?_eq_getElem h]at q;have e:kAt t (i+1)=t.place[i]+1:=by show t.place.getD i 0+1=_;simp[Array.getD,h']
     rw[e]at q;exact q
   . rw[Array.getElem?_eq_none h];rw[Array.getElem?_eq_none h]at q;exact q
def al7{P:c_}{acc:bg}{ord:ao}(h:ItemsOf P acc ord.length)(hp:∀i v,P i v->ord[i]?=some v):acc.toList=ord:=by
 apply List.ext_getElem?;intro i;by_cases hi:i<acc.size
 . have e:acc[i]?=some acc[i]:=Array.getElem?_eq_getElem hi;rw[hp i _ (h.2 i _ e),Q5,e]
 . have:=h.1;rw[J6 (by simpa using hi),J6 W9]
def dv4(es:bi):(List.range es.size).map (λp=>((es[p]?).map (·.2)).getD .none)=es.toList.map (·.2):=by
 apply List.ext_getElem?;intro i;by_cases hi:i<es.size
 . rw[C8,G7 hi,C8,Q5,Array.getElem?_eq_getElem hi];simp[Array.getElem?_eq_getElem hi]
 . rw[J6 (by simpa using hi),J6 (by simpa using hi)]
theorem df3{Q:af}(hs:SAt s.heap S es ep t)(hf:t.fits es.size=true)(tb:Tb (mY w) t)(hz:es.size<=sizeLine)
 (hQ:∀(I:Addr)(s₁:B8)(fp:av)(P:c_)(St:db),(∀A':J0,A'.handled=none->Walks prog w A' I fp [I] es.size P St)->St 0 s₁.heap->(∀acc,ItemsOf P acc es.size->acc.toList.Perm (es.toList.map (·.2)))->
  (∀b∈fp,s.heap.objs.size<=b\/b=S)->s.heap.objs.size<=I->(∀b o,s.heap.get? b=some o->s₁.heap.get? b=some o)->(∃d,s₁={s with heap:=s₁.heap,drawn:=d})->Q (.ref I) s₁):wpAny (model prog w) A (pyIter (.ref S)) Q E s:=by
 obtain⟨o,ho,hex,hd⟩:=id hs;have hT:s.TypeIs (.ref S) "set":=⟨o,ho,hex.1⟩;have hS:=D5 ho;refine wpAny_pyIter_slot hT F.slot_set_iter (L9 F.slot_set_iter hT dc1 ?_ (F.args_set_iter_1 _));unfold Builtin.«frozenset.__iter__»;refine A7 (m:=Builtin.Frozenset.slot0 "__iter__" _) (B9 ?_);refine A7 (m:=Builtin.Frozenset.sizeOf S) (A7 (wpAny_setEntries_of ho hd hf (B9 ?_)));dsimp only;refine A7 ?_;unfold setDrawn setsByText;refine A7 (wpAny_setState_of ho hd hf ?_);dsimp only;refine A7 (A7 (wpAny_askSetting (B9 ?_)));refine B9 ?_
 (show wpAny _ _ (if(!w.params.followText "set-order"&&(!t.plain&&decide (es.size>1)))=true then _ else _) _ _ _)
 have key:∀(s₁:B8)(f:Value)(P:c_)(St:db)(fp:av),SAt s₁.heap S es ep t->(∀A':J0,A'.handled=none->Walks prog w A' s₁.heap.objs.size fp [s₁.heap.objs.size] es.size P St)->(∀h',SAt h' S es ep t->SIt h' s₁.heap.objs.size S f 0 es.size ep->(∀b o,s₁.heap.get? b=some o->h'.get? b=some o)->St 0 h')->
  (∀acc,ItemsOf P acc es.size->acc.toList.Perm (es.toList.map (·.2)))->(∀b∈fp,s.heap.objs.size<=b\/b=S)->s.heap.objs.size<=s₁.heap.objs.size->(∀b o,s.heap.get? b=some o->s₁.heap.get? b=some o)->(∃d,s₁={s with heap:=s₁.heap,drawn:=d})->
  wpAny (model prog w) A.in1 (do ret (<-newFields "set_iterator" [f,rawInt 0,.ref S,rawInt es.size,rawInt (<-setEpoch S)])) (λbN s'=>∃v,bN=Fin.done (Flow.ret v)/\∃T' r,s'.TypeIs v T'/\typeLookup (.type T') "__next__"=pure (some r)/\Q v s') E s₁:=by
  intro s₁ f P St fp hs1 W hst pm hfp hI hk hd';obtain⟨o1,ho1,_,hd1⟩:=id hs1;refine A7 (wpAny_setEpoch_of ho1 hd1 hf ?_);unfold newFields;refine A7 (K7 ?_ (by size_fits));refine B9 ⟨_,rfl,"set_iterator",_,⟨_,D6 _ rfl,rfl⟩,slot_snx.lookup,?_⟩;refine hQ _ _ fp P St W (hst _ (hs1.at λo e=>B0 _ e) ⟨_,D6 _ rfl,rfl,rfl⟩ λb o e=>B0 _ e) pm hfp hI (λb o e=>B0 _ (hk b o e)) ?_;obtain⟨d,e⟩:=hd';rw[e];exact⟨d,rfl⟩
 have pl:(es.toList.map (·.2)).length=es.size:=X4
 cases hw:w.params.followText "set-order" with
 |true=>
  rw[D7 X4];refine A7 (B9 (key s _ _ _ _ hs (λA' hh=>bo5 hh (G2 hS) hf ((pickOrder (w.params.setOrder S ep) es).toList.map (·.2)) ((an5 _ es).map _|>.length_eq.trans pl) (λ_=>0) (λi x s A' E' Q' hx hs q=>bh4 hw hf hs ?_) λs A' E' Q' hs q=>bh4 hw hf hs ?_) (λh' a b _=>⟨a,b⟩) (λacc h=>?_) (λb hb=>?_) (C9 _) (λ_ _ e=>e) ⟨s.drawn,rfl⟩))
  . rw[C8,Q5]at hx;obtain⟨e,he,rfl⟩:=G4.mp hx;rw[he];exact q
  . have:(pickOrder (w.params.setOrder S ep) es).size=es.size:=by have:=(an5 (w.params.setOrder S ep) es).length_eq;simpa using this
    rw[Array.getElem?_eq_none W9];exact q
  . have e:=(an5 (w.params.setOrder S ep) es).map (·.2);have el:=e.length_eq.trans pl;rw[al7 (ord:=(pickOrder (w.params.setOrder S ep) es).toList.map (·.2)) (by rw[el];exact h) λ_ _ h=>h];exact e
  . rcases C4.mp hb with h|h
    . exact .inl (Nat.le_of_eq h.symm)
    . exact .inr (C5.mp h)
 |false=>
  have hw1:mY w=true:=by unfold mY;rw[hw];rfl
  have tb:Tb true t:=hw1▸tb;cases hp:(!t.plain&&decide (es.size>1))with
  |false=>
   rw[D7 X4];refine A7 (B9 (key s _ _ _ _ hs (λA' hh=>bo5 hh (G2 hS) hf (es.toList.map (·.2)) pl (kAt t) (λi x s A' E' Q' hx hs q=>aq9 hw hp hf tb hs ?_ ?_) λs A' E' Q' hs q=>aq9 hw hp hf tb hs ?_ (C9 _)) (λh' a b _=>⟨a,b⟩) (λacc h=>?_) (λb hb=>?_) (C9 _) (λ_ _ e=>e) ⟨s.drawn,rfl⟩))
   . rw[C8,Q5]at hx;obtain⟨e,he,rfl⟩:=G4.mp hx;rw[he];exact q
   . have:=(D3.mp hx).1;omega
   . rw[Array.getElem?_eq_none (C9 _)];exact q
   . rw[al7 (ord:=es.toList.map (·.2)) (by rw[pl];exact h) λ_ _ h=>h]
   . rcases C4.mp hb with h|h
     . exact .inl (Nat.le_of_eq h.symm)
     . exact .inr (C5.mp h)
  |true=>
   rw[E3 X4];refine A7 (cx4 _ _ _ _ X4 λps d hpm=>?_);have lp:ps.length=es.size:=by have:=hpm.length_eq;simpa using this
   have bp:∀p∈ps,p<es.size:=λp hp=>F9.mp (hpm.mem_iff.mp hp);unfold newTuple;refine A7 (K7 ?_ (by show(ps.map λ(j:Nat)=>rawInt j).toArray.size<=sizeLine;simp;omega));have hk:∀b o,s.heap.get? b=some o->(s.heap.push {cls:=.type "tuple",dict:=none,data:=.seq (ps.map λ(j:Nat)=>rawInt j).toArray}).get? b=some o:=λb o e=>B0 _ e;refine key _ _ _ _ _ (hs.at λo e=>hk S o e) (λA' hh=>cz8 (tp:=s.heap.objs.size) (ps:=ps) (n:=0) hh (by rw[L4];exact G2 (Nat.lt_succ_of_lt hS)) (by rw[L4];exact G2 (Q7 _)) hf lp bp)
    (λh' a b k=>⟨a,b,_,k _ _ (D6 _ rfl),rfl⟩) (λacc h=>?_) (λb hb=>?_) (by rw[L4];exact Nat.le_succ _) hk ⟨d,rfl⟩
   . rw[al7 (ord:=ps.map λp=>((es[p]?).map (·.2)).getD .none) (by rw[C3,lp];exact h) λi v h=>by obtain⟨p,e1,e2⟩:=h;rw[C8,e1];simp only[Option.map_some,e2,Option.getD_some]];rw[<-dv4 es];exact hpm.map _
   . rcases C4.mp hb with h|h
     . exact .inl (by rw[h,L4];exact Nat.le_succ _)
     . rcases C4.mp h with h|h
       . exact .inr h
       . exact .inl (Nat.le_of_eq (C5.mp h).symm)
def dy5{Q:Bool->B8->Prop}(hT:s.TypeIs (.ref S) "set")(h:Q false s):wpAny (model prog w) A (Builtin.List.listLengthHint (.ref S)) Q E s:=by
 unfold Builtin.List.listLengthHint;refine A7 (wpAny_specialOf hT F.slot_set_len.lookup ?_);generalize hid:("set.__len__":String)=id0
 wp_delta
 rw[show splitId id0=some ("set","__len__") from by subst hid;decide+kernel];subst hid;refine A7 (wpAny_isInstance (T:="set") (b:=true) hT (by rw[isSubtype_type];kernel_rfl) ?_);refine wpAny_ite_split (λhab=>E8 hab X5) (λ_=>?_);refine wpAny_ite_split (λ_=>?_) (λhab=>E8 X0 hab);refine A7 (wpAny_typeOf hT ?_);exact B9 h
def cs6{R:Result->B8->Prop}(hh:A.handled=none)(hs:SAt s.heap S es ep t)(hf:t.fits es.size=true)(tb:Tb (mY w) t)(hz:es.size<=sizeLine)(L:Addr)(hLS:L≠S)(res:Value)(e1:s.heap.get? L=some {cls:=.type "list",data:=.seq #[] 0})
 (hR:∀(h:Heap) d tk (acc:bg) c,acc.toList.Perm (es.toList.map (·.2))->(∀b o,b≠L->s.heap.get? b=some o->h.get? b=some o)->h.get? L=some {cls:=.type "list",dict:=none,data:=.seq acc c,slots:=#[]}->R (.ok (.ret res)) {s with heap:=h,drawn:=d,toks:=tk}):
 wpAny (model prog w) A.in1 (Builtin.List.listExtendWith (.ref L) (.ref S) res) (λbN s'=>match bN with|.done f=>R (.ok f) s'|.again c'=>c'.quiet=true/\codeAny (model prog w) A c' R s') (λe s'=>R (.error e) s') s:=by
 obtain⟨o,ho,hex,hd⟩:=id hs;have hL:=D5 e1;unfold Builtin.List.listExtendWith;refine A7 (wpAny_typeOf (T:="set") ⟨o,ho,hex.1⟩ ?_);have h1':Builtin.List.listSameRef (.ref L) (.ref S)=false:=by simp[Builtin.List.listSameRef,hLS]
 rw[D7 (by rw[h1'];decide)];refine A7 (df3 hs hf tb hz λI s₁ fp P St W st pm hfp hI hk hd'=>?_);obtain⟨d,e⟩:=hd';generalize s₁.heap=h2 at e hk st;subst e;have e2:=hk L _ e1;have hLf:L∉fp:=λh=>by
  rcases hfp L h with h|h
  . exact E8 hL (Nat.not_lt.mpr h)
  . exact hLS h
 have key:∀(h3:Heap)(c:Nat),St 0 h3->(∀b o,b≠L->h2.get? b=some o->h3.get? b=some o)->h3.get? L=some {cls:=.type "list",dict:=none,data:=.seq #[] c,slots:=#[]}->
  codeAny (model prog w) A (.builtin "list.extend.loop" ⟨[.ref L,.ref I,res],[]⟩) R {s with heap:=h3,drawn:=d}:=by
  intro h3 c st3 k3 e3;refine codeAny_extend_loopS (W A.in1 hh).toS hz L hLf _ es.size 0 _ #[] c rfl (R7 _) st3 e3 (ItemsOf.nil _) λs' acc' c' hm hS' hacc=>?_;rw[Moved.eq_with hm];refine hR s'.heap d s'.toks acc' c' (pm acc' hacc) (λb o hb e=>hm.heap b o (λhmem=>?_) (k3 b o hb (hk b o e))) hS';rcases C4.mp hmem with e'|hmem
  . exact hb e'
  . rw[C5.mp hmem]at e;exact E8 (D5 e) (Nat.not_lt.mpr hI)
 refine A7 (P8 (dy5 (s:={s with heap:=h2,drawn:=d}) ⟨o,hk S o ho,hex.1⟩ ?_));refine wpAny_ite_split (λ_=>?_) (λ_=>B9 ⟨plainId_quiet PySem.F.plain_extend_loop _,key _ 0 st (λb o _ e=>e) e2⟩);refine A7 (wpAny_rule ?_);refine A7 ?_
 (show wpAny _ _ (updateSeq L (·.push .none)>>=λ_=>updateSeq L (·.pop)) _ _ _)
 refine A7 (wpAny_updateSeq e2 rfl ?_);have e3:=Heap.get?_update_self (Obj.mapSeq (·.push Value.none)) e2 rfl;refine wpAny_updateSeq (hz:=by seq_fits) e3 rfl ?_;have e4:=Heap.get?_update_self (Obj.mapSeq (·.pop)) e3 rfl;have k4:∀b o,b≠L->h2.get? b=some o->((h2.update L (Obj.mapSeq (·.push Value.none))).update L (Obj.mapSeq (·.pop))).get? b=some o:=
  λb o hb e=>(K9 _ _ (N6 hb)).trans ((K9 _ _ (N6 hb)).trans e)
 refine B9 ⟨plainId_quiet PySem.F.plain_extend_loop _,key _ _ ((W A.in1 hh).frame 0 _ _ st λb hb o e=>k4 b o (λh=>hLf (h▸hb)) e) k4 e4⟩
def cf2{Q:List Value->B8->Prop}(hh:A.handled=none)(hs:SAt s.heap S es ep t)(hf:t.fits es.size=true)(tb:Tb (mY w) t)(hz:es.size<=sizeLine)
 (hQ:∀(h:Heap) d tk (vs:ao),vs.Perm (es.toList.map (·.2))->(∀b o,s.heap.get? b=some o->h.get? b=some o)->s.heap.objs.size<h.objs.size->Q vs {s with heap:=h,drawn:=d,toks:=tk}):wpAny (model prog w) A (collect (.ref S)) Q E s:=by
 have hS:S<s.heap.objs.size:=by obtain⟨o,ho,_⟩:=hs;exact D5 ho
 unfold collect;refine A7 (wpAny_runValue (codeAny_builtin PySem.F.entry_proto_collect ?_));rw[Around.under_plainId PySem.F.plain_proto_collect _]
 (show wpAny _ A.in1 (newList []>>=λl=>again (.builtin "list.__iadd__" ⟨[l,.ref S],[]⟩)) _ _ s)
 refine A7 (K7 ?_);refine B9 ⟨plainId_quiet PySem.F.plain_list_iadd _,codeAny_builtin PySem.F.entry_list_iadd ?_⟩;rw[Around.under_plainId PySem.F.plain_list_iadd _]
 (show wpAny _ A.in1 (Builtin.List.listExtendWith (.ref s.heap.objs.size) (.ref S) (.ref s.heap.objs.size)) _ _ _)
 have bN:∀(r:Result)(s':B8),(∃(h:Heap)(d:Drawn)(tk:Nat)(acc:bg)(c:Nat),r=.ok (.ret (.ref s.heap.objs.size))/\s'={s with heap:=h,drawn:=d,toks:=tk}/\acc.toList.Perm (es.toList.map (·.2))/\(∀b o,s.heap.get? b=some o->h.get? b=some o)/\
  h.get? s.heap.objs.size=some {cls:=.type "list",dict:=none,data:=.seq acc c,slots:=#[]})->∃v,r=.ok (.ret v)/\wpAny (model prog w) A (match v with|.ref a=>(do match(<-load a).data with|.seq xs _=>pure xs.toList|_=>unsupported "internal:collect")|_=>unsupported "internal:collect") Q E s':=by
  rintro r s' ⟨h,d,tk,acc,c,rfl,rfl,hp,hk,e⟩;refine⟨_,rfl,?_⟩
  (show wpAny _ A (load s.heap.objs.size>>=_) _ _ _)
  refine A7 (wpAny_load e ?_);exact B9 (hQ h d tk acc.toList hp hk (D5 e))
 refine N9 (cs6 (s:={s with heap:=s.heap.push {cls:=.type "list",dict:=none,data:=.seq ([]:List Value).toArray}}) (R:=λr s'=>∃(h:Heap)(d:Drawn)(tk:Nat)(acc:bg)(c:Nat),r=.ok (.ret (.ref s.heap.objs.size))/\s'={s with heap:=h,drawn:=d,toks:=tk}/\acc.toList.Perm (es.toList.map (·.2))/\(∀b o,s.heap.get? b=some o->h.get? b=some o)/\
  h.get? s.heap.objs.size=some {cls:=.type "list",dict:=none,data:=.seq acc c,slots:=#[]}) hh (hs.at λo e=>B0 _ e) hf tb hz _ (R9 hS) _ (D6 _ rfl) λh d tk acc c hp hk e=>⟨h,d,tk,acc,c,rfl,rfl,hp,λb o q=>hk b o (G2 (D5 q)) (B0 _ q),e⟩) (λf s' q=>?_) (λe s' q=>?_)
 . cases f with
   |done f=>obtain⟨v,e,q2⟩:=bN _ _ q;cases e;exact q2
   |again c=>refine⟨q.1,S8 q.2 λr s' q=>?_⟩;obtain⟨v,rfl,q2⟩:=bN _ _ q;exact q2
 . obtain⟨v,e,q⟩:=bN _ _ q;cases e
end
section
theorem cy4{α:Type}[DecidableEq α]:∀{l ks:List α},l.Nodup->(∀x∈l,x∈ks)->ks.length<=l.length->ks.Perm l
 |[],ks,_,_,h=>by rw[List.length_eq_zero_iff.mp (Nat.le_zero.mp h)]
 |x::l,ks,hn,hs,hl=>by
  have hx:=hs x B7;rw[G6]at hn;refine(List.perm_cons_erase hx).trans ((cy4 hn.2 (λy hy=>?_) ?_).cons x)
  . exact(List.mem_erase_of_ne λe:y=x=>hn.1 (e▸hy)).mpr (hs y (B5 _ hy))
  . rw[W5 hx];simp only[List.length_cons]at hl;omega
def cr2{α:Type}[DecidableEq α]{O:List α}(h:O.Nodup)(x:α):(jW O x).Nodup:=by
 unfold jW;split
 . exact h
 . next hx=>
   rw[D8];exact⟨h,X4,λa ha b hb e=>by rw[C5]at hb;subst hb;subst e;exact hx ha⟩
theorem br0{α:Type}[DecidableEq α]:∀(l O:List α),O.Nodup->(l.foldl jW O).Nodup
 |[],_,h=>h
 |x::l,_,h=>br0 l _ (cr2 h x)
theorem cp3:∀(vs:ao),(∀v∈vs,∃(k:Int)(t:Tok),v=.int k t)->∃ks,IntsAre vs ks
 |[],_=>⟨[],.nil⟩
 |v::vs,h=>by obtain⟨k,t,rfl⟩:=h v B7;obtain⟨ks,r⟩:=cp3 vs λv hv=>h v (B5 _ hv);exact⟨k::ks,.cons k t r⟩
theorem bn9:∀{vs:ao}{ks:ah},IntsAre vs ks->∀{k:Int}{t:Tok},Value.int k t∈vs->k∈ks
 |_,_,.nil,k,t,h=>by cases h
 |_,_,.cons n u r,k,t,h=>by
  rcases C4.mp h with e|h
  . cases e;exact B7
  . exact B5 _ (bn9 r h)
theorem bt9:∀{vs:ao}{ks:ah},IntsAre vs ks->ks.length=vs.length
 |_,_,.nil=>rfl
 |_,_,.cons n u r=>by simp[bt9 r]
variable{prog:G1}{w:World}{A:J0}{E:af}{s:B8}{S:Addr}
def cc7{l:ah}{Q:af}(hh:A.handled=none)(hS:SetT (intKind prog w) (mY w) s.heap S l)(hn:l.Nodup)(h64:l.length<64)
 (hQ:∀(h:Heap) d tk (a:Addr)(out:bg)(ms:ah)(e:Nat),IntsAre out.toList ms->ms.Perm l->ms.Pairwise (· <= ·)->s.heap.objs.size<=a->h.get? a=some (seqObj "list" out e)->(∀b o,s.heap.get? b=some o->h.get? b=some o)->Q (.ref a) {s with heap:=h,drawn:=d,toks:=tk}):
 wpAny (model prog w) A (call (.builtin "sorted") [.ref S]) Q E s:=by
 obtain⟨o,es,ep,t,ho,hex,hd,hel,hm,hb,hf,hsz,tb⟩:=hS;refine Calls.call_function_entry kind_sorted plain_sorted entry_sorted (args_sorted1 _) ?_;unfold Builtin.«sorted»;refine A7 (m:=checkCount "sorted" 1 1 _) (B9 ?_);refine A7 (cf2 (A:=A.in1) hh ⟨o,ho,hex,hd⟩ hf tb (fits_of_scanBound hb) λh d tk vs hp hk hz=>?_);have hv:∀v∈vs,∃(k:Int)(t:Tok),v=.int k t:=λv hv=>by obtain⟨e,he,rfl⟩:=M3.mp (hp.mem_iff.mp hv);obtain⟨⟨k,q,_⟩,_⟩:=hel e he;obtain⟨t,e⟩:=Value.isInt_shape q;exact⟨k,t,e⟩
 obtain⟨ks,hI⟩:=cp3 vs hv;have lv:vs.length=l.length:=by rw[hp.length_eq,C3,E6,hsz]
 have pk:ks.Perm l:=cy4 hn (λx hx=>by obtain⟨e,he,q⟩:=(hm x).mp hx;obtain⟨t,e2⟩:=Value.isInt_shape q;exact bn9 (t:=t) hI (hp.mem_iff.mpr (e2▸M8 he))) (by rw[bt9 hI,lv];exact C9 _);refine A7 (wpAny_newList ?_);have hoL:(h.push (seqObj "list" vs.toArray 0)).get? h.objs.size=some (seqObj "list" vs.toArray 0):=D6 _ rfl;refine A7 (P8 (L9 slot_list_sort ⟨_,hoL,rfl⟩ entry_list_sort (list_sort_tree hoL hI W9 λout ms a1 a2 a3=>⟨_,rfl,?_⟩) (args_list_sort _)));obtain⟨e,he⟩:=sortedHeap_at (out:=out) hoL;have hlt:∀b o,s.heap.get? b=some o->b<h.objs.size:=λb o q=>D5 (hk b o q);refine B9 ⟨_,rfl,hQ _ d tk _ out ms e a1 (a2.trans pk) a3 (Nat.le_of_lt hz) he λb o q=>?_⟩
 . rw[sortedHeap_old (G2 (hlt b o q)) (by rw[size_push'];exact Nat.lt_succ_of_lt (hlt b o q))];exact B0 _ (hk b o q)
end
end L2
namespace TL
open L2
inductive T where
 |non|bl (b:Bool)|int (i:Int)|str (x:Str)|ty (n:String)
 |lst (o:Bool) (xs:List T)
 |tup (xs:List T)
 |ins (o:Bool) (c:Str) (ns:ax) (xs:List T)
mutual
def frz:T->T
 |.lst _ xs=>.lst false (frzs xs)
 |.tup xs=>.tup (frzs xs)
 |.ins _ c ns xs=>.ins false c ns (frzs xs)
 |.non=>.non
 |.bl b=>.bl b
 |.int i=>.int i
 |.str x=>.str x
 |.ty n=>.ty n
def frzs:List T->List T
 |[]=>[]
 |t::ts=>frz t::frzs ts
end
mutual
def cP:T->Bool
 |.lst o xs=>!o&&bB xs
 |.tup xs=>bB xs
 |.ins o _ _ xs=>!o&&bB xs
 |.non=>true
 |.bl _=>true
 |.int _=>true
 |.str _=>true
 |.ty _=>true
def bB:List T->Bool
 |[]=>true
 |t::ts=>cP t&&bB ts
end
mutual
def cT:T->Bool
 |.lst o xs=>o&&dD xs
 |.tup xs=>dD xs
 |.ins o _ _ xs=>o&&dD xs
 |.non=>true
 |.bl _=>true
 |.int _=>true
 |.str _=>true
 |.ty _=>true
def dD:List T->Bool
 |[]=>true
 |t::ts=>cT t&&dD ts
end
theorem rX:∀ts,bB ts=ts.all cP
 |[]=>rfl
 |t::ts=>by simp[bB,rX ts]
theorem ao5:∀ts,dD ts=ts.all cT
 |[]=>rfl
 |t::ts=>by simp[dD,ao5 ts]
mutual
theorem bs4:∀t,cP t=true->frz t=t
 |.lst o xs,h=>by simp only[cP,G8,Bool.not_eq_true']at h;rw[frz,iY xs h.2,h.1]
 |.tup xs,h=>by simp only[cP]at h;rw[frz,iY xs h]
 |.ins o _ _ xs,h=>by simp only[cP,G8,Bool.not_eq_true']at h;rw[frz,iY xs h.2,h.1]
 |.non,_=>rfl
 |.bl _,_=>rfl
 |.int _,_=>rfl
 |.str _,_=>rfl
 |.ty _,_=>rfl
theorem iY:∀ts,bB ts=true->frzs ts=ts
 |[],_=>rfl
 |t::ts,h=>by simp only[bB,G8]at h;rw[frzs,bs4 t h.1,iY ts h.2]
end
structure Exc where
 c:Str
 ns:List Str
 xs:List T
inductive Res (α:Type) where
 |ok (a:α)|ex (x:Exc)|no
def Res.bind{α β:Type}:Res α->(α->Res β)->Res β
 |.ok a,f=>f a
 |.ex x,_=>.ex x
 |.no,_=>.no
abbrev Fr:=List (Option T)
abbrev aw:=List T
abbrev a8:=Fr->Res T
abbrev bb:=Fr->Res (List T)
abbrev bc:=Option T
abbrev be:=Fr->Res (List Nat)
abbrev bq:=T->Fr->Option Fr
abbrev bt:=List T->Res T
abbrev bx:=Fr->Res Bool
abbrev b6:=T->T->T->Res (T×T×T)
abbrev cg:=List (Option T)
abbrev cj:=List T->Fr->Option Fr
abbrev cm:=Nat->Fr->Prop
abbrev cw:=Fr->Prop
abbrev da:=Fr->Res (Option Int)
abbrev dc:=T->Option Int->Option Int->Res T
abbrev de:=List T->List T->Option (List T)
inductive bS where
 |nx (U:Fr)|rt (t:T)|rm (U:Fr) (t:T)|bk (U:Fr)|ct (U:Fr)|ex (x:Exc)|no
def tY:HO->Bool
 |.tup _=>true
 |.frz _ _=>true
 |_=>false
def FzL(K:A5)(H:Hp)(Z:aq)(a:Addr)(xs:a_):Prop:=
 (H a=some (.lst xs)/\Z a)\/(∃o,H a=some (.frz o (.lst xs)))\/
  ∃(o:Obj)(its:bg)(n:Nat),K.lookup a=some o/\o.cls=.type "list"/\o.dict=none/\o.slots=#[]/\o.data=.seq its n/\its.size<=sizeLine/\Vals xs its.toList
def FzL.sqS{K:A5}{H:Hp}{Z:aq}{a:Addr}{xs:a_}(h:FzL K H Z a xs):SqS K H a xs:=by
 rcases h with⟨h,_⟩|⟨o,h⟩|h
 . exact .inl (.inl h)
 . exact .inl (.inr ⟨o,h⟩)
 . exact .inr h
theorem FzL.sq{K:A5}{H:Hp}{Z:aq}{a:Addr}{xs:a_}(h:FzL K H Z a xs):SqL K H a xs:=h.sqS.sq
section
variable(K:A5)(cn:aa)
mutual
def Rep(H:Hp)(Z:aq):T->V->List Addr->Prop
 |.non,v,A=>v=.non/\A=[]
 |.bl b,v,A=>v=.bl b/\A=[]
 |.int i,v,A=>v=.int i/\A=[]
 |.str x,v,A=>v=.str x/\A=[]
 |.ty n,v,A=>v=.ty n/\A=[]
 |.lst true ts,v,A=>∃a vs B,v=.ref a/\A=a::B/\H a=some (.lst vs)/\Reps H Z ts vs B
 |.lst false ts,v,A=>∃a vs,v=.ref a/\A=[]/\FzL K H Z a vs/\Reps H Z ts vs []
 |.tup ts,v,A=>∃a vs,v=.ref a/\SqT K H a vs/\Reps H Z ts vs A
 |.ins true c ns ts,v,A=>∃a C dx vs B,v=.ref a/\A=a::B/\cn c=some C/\H a=some (.ins C dx (ns.zip vs))/\ns.length=vs.length/\Reps H Z ts vs B
 |.ins false c ns ts,v,A=>∃a C dx vs,v=.ref a/\A=[]/\cn c=some C/\H a=some (.ins C dx (ns.zip vs))/\Z a/\ns.length=vs.length/\Reps H Z ts vs []
def Reps(H:Hp)(Z:aq):List T->List V->List Addr->Prop
 |[],vs,A=>vs=[]/\A=[]
 |t::ts,vs,A=>∃v r B C,vs=v::r/\A=B++C/\Rep H Z t v B/\Reps H Z ts r C
end
end
section
variable{K:A5}{cn:aa}{H H':Hp}{Z Z':aq}
def FzL.keep(h:FzL K H Z a xs)(hk:∀a o,H a=some o->(Z a\/tY o=true)->H' a=some o)(hz:∀a,Z a->Z' a):FzL K H' Z' a xs:=by
 rcases h with⟨h,z⟩|⟨o,h⟩|h
 . exact .inl ⟨hk _ _ h (.inl z),hz _ z⟩
 . exact .inr (.inl ⟨o,hk _ _ h (.inr rfl)⟩)
 . exact .inr (.inr h)
def SqT.keep(h:SqT K H a xs)(hk:∀a o,H a=some o->tY o=true->H' a=some o):SqT K H' a xs:=by
 rcases h with(h|⟨o,h⟩)|h
 . exact .inl (.inl (hk _ _ h rfl))
 . exact .inl (.inr ⟨o,hk _ _ h rfl⟩)
 . exact .inr h
mutual
theorem Rep.keep:∀(t:T){v:V}{A:av},Rep K cn H Z t v A->(∀a o,H a=some o->(a∈A\/Z a\/tY o=true)->H' a=some o)->(∀a,Z a->Z' a)->Rep K cn H' Z' t v A
 |.non,_,_,h,_,_=>by simpa only[Rep]using h
 |.bl _,_,_,h,_,_=>by simpa only[Rep]using h
 |.int _,_,_,h,_,_=>by simpa only[Rep]using h
 |.str _,_,_,h,_,_=>by simpa only[Rep]using h
 |.ty _,_,_,h,_,_=>by simpa only[Rep]using h
 |.lst true ts,v,A,h,hk,hz=>by simp only[Rep]at h⊢;refine z33 h λa vs B zz zy e r=>?_;clear h;subst zz zy;exact⟨a,vs,B,rfl,rfl,hk a _ e (.inl B7),Reps.keep ts r (λb o q c=>hk b o q (c.imp_left (B5 _))) hz⟩
 |.lst false ts,v,A,h,hk,hz=>by simp only[Rep]at h⊢;refine z23 h λa vs zz zy e r=>?_;clear h;subst zz zy;exact⟨a,vs,rfl,rfl,e.keep (λb o q c=>hk b o q (.inr c)) hz,Reps.keep ts r hk hz⟩
 |.tup ts,v,A,h,hk,hz=>by simp only[Rep]at h⊢;refine z22 h λa vs zz e r=>?_;clear h;subst zz;exact⟨a,vs,rfl,SqT.keep e (λb o q c=>hk b o q (.inr (.inr c))),Reps.keep ts r hk hz⟩
 |.ins true c ns ts,v,A,h,hk,hz=>by simp only[Rep]at h⊢;refine z55 h λa C dx vs B zz zy hc e l r=>?_;clear h;subst zz zy;exact⟨a,C,dx,vs,B,rfl,rfl,hc,hk a _ e (.inl B7),l,Reps.keep ts r (λb o q c=>hk b o q (c.imp_left (B5 _))) hz⟩
 |.ins false c ns ts,v,A,h,hk,hz=>by simp only[Rep]at h⊢;refine z46 h λa C dx vs zz zy hc e z l r=>?_;clear h;subst zz zy;exact⟨a,C,dx,vs,rfl,rfl,hc,hk a _ e (.inr (.inl z)),hz a z,l,Reps.keep ts r hk hz⟩
theorem Reps.keep:∀(ts:aw){vs:a_}{A:av},Reps K cn H Z ts vs A->(∀a o,H a=some o->(a∈A\/Z a\/tY o=true)->H' a=some o)->(∀a,Z a->Z' a)->Reps K cn H' Z' ts vs A
 |[],_,_,h,_,_=>by simpa only[Reps]using h
 |t::ts,vs,A,h,hk,hz=>by simp only[Reps]at h⊢;refine z43 h λv r B C zz zy h1 h2=>?_;clear h;subst zz zy;exact⟨v,r,B,C,rfl,rfl,Rep.keep t h1 (λb o q c=>hk b o q (c.imp_left (D9 _))) hz,Reps.keep ts h2 (λb o q c=>hk b o q (c.imp_left (C6 _))) hz⟩
end
def Rep.same(h:Rep K cn H Z t v A)(s:Same H H')(hz:∀a,Z a->Z' a):Rep K cn H' Z' t v A:=Rep.keep t h (λa o q _=>s a o q) hz
def Reps.same(h:Reps K cn H Z t v A)(s:Same H H')(hz:∀a,Z a->Z' a):Reps K cn H' Z' t v A:=Reps.keep t h (λa o q _=>s a o q) hz
def df0(h:H a=some o)(h':H b=some o')(i:tY o=true)(i':tY o'=false):a≠b:=by rintro rfl;rw[h]at h';cases h';rw[i]at i';cases i'
theorem Rep.upd(h:Rep K cn H Z t v A)(ha:H a=some o)(hi:tY o=false)(hA:a∉A)(hZ:¬Z a):Rep K cn (L2.upd H a o') Z t v A:=
 Rep.keep t h (λb u q c=>by
  rw[dJ]
  . exact q
  . rcases c with c|c|c
    . rintro rfl;exact hA c
    . rintro rfl;exact hZ c
    . exact df0 q ha c hi) (λ_ z=>z)
theorem Reps.upd(h:Reps K cn H Z t v A)(ha:H a=some o)(hi:tY o=false)(hA:a∉A)(hZ:¬Z a):Reps K cn (L2.upd H a o') Z t v A:=
 Reps.keep t h (λb u q c=>by
  rw[dJ]
  . exact q
  . rcases c with c|c|c
    . rintro rfl;exact hA c
    . rintro rfl;exact hZ c
    . exact df0 q ha c hi) (λ_ z=>z)
mutual
theorem Rep.frz:∀(t:T){v:V}{A:av},Rep K cn H Z t v A->(∀a,Z a->Z' a)->(∀a∈A,Z' a)->Rep K cn H Z' (frz t) v []
 |.non,_,_,h,_,_=>by simp only[Rep,TL.frz]at h⊢;exact⟨h.1,trivial⟩
 |.bl _,_,_,h,_,_=>by simp only[Rep,TL.frz]at h⊢;exact⟨h.1,trivial⟩
 |.int _,_,_,h,_,_=>by simp only[Rep,TL.frz]at h⊢;exact⟨h.1,trivial⟩
 |.str _,_,_,h,_,_=>by simp only[Rep,TL.frz]at h⊢;exact⟨h.1,trivial⟩
 |.ty _,_,_,h,_,_=>by simp only[Rep,TL.frz]at h⊢;exact⟨h.1,trivial⟩
 |.lst true ts,v,A,h,hz,hA=>by simp only[Rep,TL.frz]at h⊢;refine z33 h λa vs B zz zy e r=>?_;clear h;subst zz zy;exact⟨a,vs,rfl,trivial,.inl ⟨e,hA a B7⟩,Reps.frz ts r hz λb hb=>hA b (B5 _ hb)⟩
 |.lst false ts,v,A,h,hz,hA=>by simp only[Rep,TL.frz]at h⊢;refine z23 h λa vs zz zy e r=>?_;clear h;subst zz zy;exact⟨a,vs,rfl,trivial,e.keep (λ_ _ q _=>q) hz,Reps.frz ts r hz hA⟩
 |.tup ts,v,A,h,hz,hA=>by simp only[Rep,TL.frz]at h⊢;refine z22 h λa vs zz e r=>?_;clear h;subst zz;exact⟨a,vs,rfl,e,Reps.frz ts r hz hA⟩
 |.ins true c ns ts,v,A,h,hz,hA=>by simp only[Rep,TL.frz]at h⊢;refine z55 h λa C dx vs B zz zy hc e l r=>?_;clear h;subst zz zy;exact⟨a,C,dx,vs,rfl,trivial,hc,e,hA a B7,l,Reps.frz ts r hz λb hb=>hA b (B5 _ hb)⟩
 |.ins false c ns ts,v,A,h,hz,hA=>by simp only[Rep,TL.frz]at h⊢;refine z46 h λa C dx vs zz zy hc e z l r=>?_;clear h;subst zz zy;exact⟨a,C,dx,vs,rfl,trivial,hc,e,hz a z,l,Reps.frz ts r hz hA⟩
theorem Reps.frz:∀(ts:aw){vs:a_}{A:av},Reps K cn H Z ts vs A->(∀a,Z a->Z' a)->(∀a∈A,Z' a)->Reps K cn H Z' (frzs ts) vs []
 |[],_,_,h,_,_=>by simp only[Reps,TL.frzs]at h⊢;exact⟨h.1,trivial⟩
 |t::ts,vs,A,h,hz,hA=>by simp only[Reps,TL.frzs]at h⊢;refine z43 h λv r B C zz zy h1 h2=>?_;clear h;subst zz zy;exact⟨v,r,[],[],rfl,rfl,Rep.frz t h1 hz λb hb=>hA b (D9 _ hb),Reps.frz ts h2 hz λb hb=>hA b (C6 _ hb)⟩
end
mutual
theorem Rep.any:∀(t:T){v:V}{A:av},cT t=true->Rep K cn H Z t v A->Rep K cn H Z' t v A
 |.non,_,_,_,h=>by simpa only[Rep]using h
 |.bl _,_,_,_,h=>by simpa only[Rep]using h
 |.int _,_,_,_,h=>by simpa only[Rep]using h
 |.str _,_,_,_,h=>by simpa only[Rep]using h
 |.ty _,_,_,_,h=>by simpa only[Rep]using h
 |.lst true ts,v,A,c,h=>by simp only[Rep,cT,U9]at h c⊢;refine z33 h λa vs B zz zy e r=>?_;clear h;subst zz zy;exact⟨a,vs,B,rfl,rfl,e,Reps.any ts c r⟩
 |.lst false ts,v,A,c,h=>by simp[cT]at c
 |.tup ts,v,A,c,h=>by simp only[Rep,cT]at h c⊢;refine z22 h λa vs zz e r=>?_;clear h;subst zz;exact⟨a,vs,rfl,e,Reps.any ts c r⟩
 |.ins true cc ns ts,v,A,c,h=>by simp only[Rep,cT,U9]at h c⊢;refine z55 h λa C dx vs B zz zy hc e l r=>?_;clear h;subst zz zy;exact⟨a,C,dx,vs,B,rfl,rfl,hc,e,l,Reps.any ts c r⟩
 |.ins false cc ns ts,v,A,c,h=>by simp[cT]at c
theorem Reps.any:∀(ts:aw){vs:a_}{A:av},dD ts=true->Reps K cn H Z ts vs A->Reps K cn H Z' ts vs A
 |[],_,_,_,h=>by simpa only[Reps]using h
 |t::ts,vs,A,c,h=>by simp only[Reps,dD,G8]at h c⊢;refine z43 h λv r B C zz zy h1 h2=>?_;clear h;subst zz zy;exact⟨v,r,B,C,rfl,rfl,Rep.any t c.1 h1,Reps.any ts c.2 h2⟩
end
mutual
theorem Rep.bare:∀(t:T){v:V}{A:av},cP t=true->Rep K cn H Z t v A->A=[]
 |.non,_,_,_,h=>by simp only[Rep]at h;exact h.2
 |.bl _,_,_,_,h=>by simp only[Rep]at h;exact h.2
 |.int _,_,_,_,h=>by simp only[Rep]at h;exact h.2
 |.str _,_,_,_,h=>by simp only[Rep]at h;exact h.2
 |.ty _,_,_,_,h=>by simp only[Rep]at h;exact h.2
 |.lst true ts,v,A,c,h=>by simp[cP]at c
 |.lst false ts,v,A,c,h=>by simp only[Rep]at h;refine z23 h λa vs zz zy e r=>?_;clear h;subst zz zy;rfl
 |.tup ts,v,A,c,h=>by simp only[Rep,cP]at h c;refine z22 h λa vs zz e r=>?_;clear h;subst zz;exact Reps.bare ts c r
 |.ins true cc ns ts,v,A,c,h=>by simp[cP]at c
 |.ins false cc ns ts,v,A,c,h=>by simp only[Rep]at h;refine z42 h λa C dx vs zz zy _=>?_;clear h;subst zz zy;rfl
theorem Reps.bare:∀(ts:aw){vs:a_}{A:av},bB ts=true->Reps K cn H Z ts vs A->A=[]
 |[],_,_,_,h=>by simp only[Reps]at h;exact h.2
 |t::ts,vs,A,c,h=>by simp only[Reps,bB,G8]at h c;refine z43 h λv r B C zz zy h1 h2=>?_;clear h;subst zz zy;rw[Rep.bare t c.1 h1,Reps.bare ts c.2 h2];rfl
end
mutual
theorem Rep.dom:∀(t:T){v:V}{A:av},Rep K cn H Z t v A->∀a∈A,∃o,H a=some o/\tY o=false
 |.non,_,_,h=>by simp only[Rep]at h;rw[h.2];intro a ha;cases ha
 |.bl _,_,_,h=>by simp only[Rep]at h;rw[h.2];intro a ha;cases ha
 |.int _,_,_,h=>by simp only[Rep]at h;rw[h.2];intro a ha;cases ha
 |.str _,_,_,h=>by simp only[Rep]at h;rw[h.2];intro a ha;cases ha
 |.ty _,_,_,h=>by simp only[Rep]at h;rw[h.2];intro a ha;cases ha
 |.lst true ts,v,A,h=>by
  simp only[Rep]at h;refine z33 h λa vs B zz zy e r=>?_;clear h;subst zz zy;intro b hb;rcases C4.mp hb with rfl|hb
  . exact⟨_,e,rfl⟩
  . exact Reps.dom ts r b hb
 |.lst false ts,v,A,h=>by simp only[Rep]at h;refine z23 h λa vs zz zy e r=>?_;clear h;subst zz zy;intro a ha;cases ha
 |.tup ts,v,A,h=>by simp only[Rep]at h;refine z22 h λa vs zz e r=>?_;clear h;subst zz;exact Reps.dom ts r
 |.ins true cc ns ts,v,A,h=>by
  simp only[Rep]at h;refine z55 h λa C dx vs B zz zy hc e l r=>?_;clear h;subst zz zy;intro b hb;rcases C4.mp hb with rfl|hb
  . exact⟨_,e,rfl⟩
  . exact Reps.dom ts r b hb
 |.ins false cc ns ts,v,A,h=>by simp only[Rep]at h;refine z42 h λa C dx vs zz zy _=>?_;clear h;subst zz zy;intro a ha;cases ha
theorem Reps.dom:∀(ts:aw){vs:a_}{A:av},Reps K cn H Z ts vs A->∀a∈A,∃o,H a=some o/\tY o=false
 |[],_,_,h=>by simp only[Reps]at h;rw[h.2];intro a ha;cases ha
 |t::ts,vs,A,h=>by
  simp only[Reps]at h;refine z43 h λv r B C zz zy h1 h2=>?_;clear h;subst zz zy;intro a ha;rcases A9.mp ha with ha|ha
  . exact Rep.dom t h1 a ha
  . exact Reps.dom ts h2 a ha
end
theorem Reps.length:∀(ts:aw){vs:a_}{A:av},Reps K cn H Z ts vs A->vs.length=ts.length
 |[],_,_,h=>by simp only[Reps]at h;rw[h.1];rfl
 |t::ts,vs,A,h=>by simp only[Reps]at h;refine z43 h λv r B C zz zy h1 h2=>?_;clear h;subst zz zy;simp[Reps.length ts h2]
theorem Reps.get:∀(ts:aw){vs:a_}{A:av}{i:Nat}{t:T},Reps K cn H Z ts vs A->ts[i]?=some t->∃v B,vs[i]?=some v/\Rep K cn H Z t v B/\(∀b∈B,b∈A)/\B.Sublist A
 |[],_,_,_,_,h,e=>by simp at e
 |t::ts,vs,A,0,t',h,e=>by simp only[Reps]at h;refine z43 h λv r B C zz zy h1 h2=>?_;clear h;subst zz zy;simp at e;subst e;exact⟨v,B,rfl,h1,λb hb=>D9 _ hb,W4 _ _⟩
 |t::ts,vs,A,i+1,t',h,e=>by simp only[Reps]at h;refine z43 h λv r B C zz zy h1 h2=>?_;clear h;subst zz zy;obtain⟨v',B',e1,e2,e3,e4⟩:=Reps.get ts (i:=i) h2 (by simpa using e);exact⟨v',B',by simpa using e1,e2,λb hb=>C6 _ (e3 b hb),e4.trans (List.sublist_append_right _ _)⟩
theorem Reps.append:∀(ts:aw){us:aw}{vs ws:a_}{A B:av},Reps K cn H Z ts vs A->Reps K cn H Z us ws B->Reps K cn H Z (ts++us) (vs++ws) (A++B)
 |[],us,vs,ws,A,B,h,h'=>by simp only[Reps]at h;obtain⟨rfl,rfl⟩:=h;exact h'
 |t::ts,us,vs,ws,A,B,h,h'=>by simp only[Reps,List.cons_append]at h⊢;refine z43 h λv r C D zz zy h1 h2=>?_;clear h;subst zz zy;exact⟨v,r++ws,C,D++B,rfl,X4,h1,Reps.append ts h2 h'⟩
def Reps.one(h:Rep K cn H Z t v B):Reps K cn H Z [t] [v] B:=by simp only[Reps];exact⟨v,[],B,[],rfl,X4,h,rfl,rfl⟩
def Reps.nil:Reps K cn H Z [] [] []:=by simp[Reps]
theorem Reps.take:∀(n:Nat)(ts:aw){vs:a_},Reps K cn H Z ts vs []->Reps K cn H Z (ts.take n) (vs.take n) []
 |0,ts,vs,h=>by simp[Reps]
 |n+1,[],vs,h=>by simp only[Reps]at h;obtain⟨rfl,_⟩:=h;simp[Reps]
 |n+1,t::ts,vs,h=>by
  simp only[Reps]at h;refine z43 h λv r B C zz e h1 h2=>?_;clear h;subst zz;have eb:B=[]/\C=[]:=by simpa using e.symm
  obtain⟨rfl,rfl⟩:=eb;simp only[List.take_succ_cons,Reps];exact⟨v,r.take n,[],[],rfl,rfl,h1,Reps.take n ts h2⟩
theorem Reps.drop:∀(n:Nat)(ts:aw){vs:a_},Reps K cn H Z ts vs []->Reps K cn H Z (ts.drop n) (vs.drop n) []
 |0,ts,vs,h=>h
 |n+1,[],vs,h=>by simp only[Reps]at h;obtain⟨rfl,_⟩:=h;simp[Reps]
 |n+1,t::ts,vs,h=>by
  simp only[Reps]at h;refine z43 h λv r B C zz e h1 h2=>?_;clear h;subst zz;have eb:B=[]/\C=[]:=by simpa using e.symm
  obtain⟨rfl,rfl⟩:=eb;simpa using Reps.drop n ts h2
end
open L2
abbrev St:=L2.St
def bu8(h:H p=none)(o:HO):Same H (L2.upd H p o):=λb u q=>by rw[dJ (iZ q h)];exact q
def fH{α:Type}{P:α->Prop}:∀b∈([]:List α),P b:=λ_ h=>nomatch h
def Slot(K:A5)(cn:aa)(H:Hp)(Z:aq)(o:bc)(w:Option V)(A:av):Prop:=
 match o with
 |none=>A=[]
 |some t=>∃v,w=some v/\Rep K cn H Z t v A
def Slots(K:A5)(cn:aa)(H:Hp)(Z:aq):Fr->St->List (List Addr)->Prop
 |[],O,As=>O=[]/\As=[]
 |o::U,O,As=>∃w σ' A As',O=w::σ'/\As=A::As'/\Slot K cn H Z o w A/\Slots K cn H Z U σ' As'
abbrev gX:=List (Nat×V)
structure Frm (Jn:gX) (K:A5) (cn:aa) (H:Hp) (Z:aq) (U:Fr) (O:St) (As:ag):Prop where
 sl:Slots K cn H Z U O As
 nd:As.flatten.Nodup
 nz:∀a∈As.flatten,¬Z a
 zi:∀a,Z a->H a≠none
 pn:∀p∈Jn,O[p.1]?=some (some p.2)
structure Ev (As:ag) (H:Hp) (Z:aq) (As':ag) (H':Hp) (Z':aq):Prop where
 keep:∀a o,H a=some o->a∉As.flatten->H' a=some o
 own:∀a∈As'.flatten,a∈As.flatten\/H a=none
 zz:∀a,Z a->Z' a
 zn:∀a,Z' a->Z a\/a∈As.flatten\/H a=none
 dom:∀a,H' a=none->H a=none
def Ev.refl:Ev As H Z As H Z:=
 ⟨λ_ _ h _=>h,λ_ h=>.inl h,λ_ h=>h,λ_ h=>.inl h,λ_ h=>h⟩
def Ev.trans(a:Ev As H Z As1 H1 Z1)(b:Ev As1 H1 Z1 As2 H2 Z2):Ev As H Z As2 H2 Z2 where
 keep:=λx o h n=>b.keep x o (a.keep x o h n) λq=>by
  rcases a.own x q with q|q
  . exact n q
  . rw[h]at q;cases q
 own:=λx h=>by
  rcases b.own x h with q|q
  . exact a.own x q
  . exact .inr (a.dom x q)
 zz:=λx h=>b.zz x (a.zz x h)
 zn:=λx h=>by
  rcases b.zn x h with q|q|q
  . exact a.zn x q
  . exact .inr (a.own x q)
  . exact .inr (.inr (a.dom x q))
 dom:=λx h=>a.dom x (b.dom x h)
structure Post (K:A5) (cn:aa) (As:ag) (H:Hp) (Z:aq) (mv:az) (H':Hp) (Z':aq) (t:T) (v:V) (B:av):Prop where
 same:Same H H'
 zz:∀a,Z a->Z' a
 zn:∀a,Z' a->Z a\/H a=none
 zi:∀a,Z' a->H' a≠none
 rep:Rep K cn H' Z' t v B
 nd:B.Nodup
 bz:∀b∈B,¬Z' b
 bn:∀b∈B,H b=none\/∃i∈mv,b∈As.getD i []
structure PostB (K:A5) (cn:aa) (H:Hp) (Z:aq) (H':Hp) (Z':aq) (t:T) (v:V) (B:av):Prop where
 same:Same H H'
 zz:∀a,Z a->Z' a
 zn:∀a,Z' a->Z a\/H a=none
 zi:∀a,Z' a->H' a≠none
 rep:Rep K cn H' Z' t v B
structure fz0 (K:A5) (cn:aa) (As:ag) (H:Hp) (Z:aq) (x:Exc) (C:Addr) (a:br) (H':Hp) (Z':aq):Prop where
 ev:Ev As H Z [] H' Z'
 cls:cn x.c=some C
 zi:∀a,Z' a->H' a≠none
 flds:∃dx vs,a=some dx/\H' dx=some (.xd (x.ns.zip vs))/\x.ns.length=vs.length/\Reps K cn H' Z' x.xs vs []
section
variable(Jn:gX)(K:A5)(cn:aa)(E:XK)
def WpX(As:ag)(H:Hp)(Z:aq)(x:Exc):Prop:=∀C a H' Z',fz0 K cn As H Z x C a H' Z'->E (.ref C) a H'
def WpE(As:ag)(H:Hp)(Z:aq)(mv:az)(Q:VK):Res T->Prop
 |.ok t=>∀v H' Z' B,Post K cn As H Z mv H' Z' t v B->Q v H'
 |.ex x=>WpX K cn E As H Z x
 |.no=>False
def WpB(As:ag)(H:Hp)(Z:aq)(Q:VK):Res T->Prop
 |.ok t=>∀v H' Z' B,PostB K cn H Z H' Z' t v B->Q v H'
 |.ex x=>WpX K cn E As H Z x
 |.no=>False
structure PostT (H:Hp) (Z:aq) (H':Hp) (Z':aq):Prop where
 same:Same H H'
 zz:∀a,Z a->Z' a
 zn:∀a,Z' a->Z a\/H a=none
 zi:∀a,Z' a->H' a≠none
def WpT(As:ag)(H:Hp)(Z:aq)(Q:b_):Res Bool->Prop
 |.ok b=>∀H' Z',PostT H Z H' Z'->Q b H'
 |.ex x=>WpX K cn E As H Z x
 |.no=>False
structure fg1 (As:ag) (H:Hp) (Z:aq) (t:T) (v:V) (H':Hp) (Z':aq) (B:av):Prop where
 ev:Ev As H Z [B] H' Z'
 rep:Rep K cn H' Z' t v B
 nd:B.Nodup
 bz:∀b∈B,¬Z' b
 zi:∀a,Z' a->H' a≠none
def Wp(As:ag)(H:Hp)(Z:aq)(D:aa8):bS->Prop
 |.nx U=>∀σ' As' H' Z',Frm Jn K cn H' Z' U σ' As'->Ev As H Z As' H' Z'->D.nx σ' H'
 |.bk U=>∀σ' As' H' Z',Frm Jn K cn H' Z' U σ' As'->Ev As H Z As' H' Z'->D.bk σ' H'
 |.ct U=>∀σ' As' H' Z',Frm Jn K cn H' Z' U σ' As'->Ev As H Z As' H' Z'->D.ct σ' H'
 |.rt t=>∀v H' Z' B,fg1 K cn As H Z t v H' Z' B->D.rt v H'
 |.rm U t=>∀v σ' As' H' Z',Frm Jn K cn H' Z' U σ' As'->Ev As H Z As' H' Z'->Rep K cn H' Z' t v []->D.rt v H'
 |.ex x=>WpX K cn E As H Z x
 |.no=>False
def RE(mv:az)(te:TE)(d:a8):Prop:=∀As H Z U O,Frm Jn K cn H Z U O As->∀Q,WpE K cn E As H Z mv Q (d U)->te O H Q
def RB(te:TE)(d:a8):Prop:=∀As H Z U O,Frm Jn K cn H Z U O As->∀Q,WpB K cn E As H Z Q (d U)->te O H Q
def RT(tt:TT)(d:bx):Prop:=∀As H Z U O,Frm Jn K cn H Z U O As->∀Q,WpT K cn E As H Z Q (d U)->tt O H Q
def RS(ts:TS)(d:Fr->bS):Prop:=∀As H Z U O,Frm Jn K cn H Z U O As->∀D,Wp Jn K cn E As H Z D (d U)->ts D O H
end
section
variable{Jn:gX}{K:A5}{cn:aa}{E:XK}{As As1:ag}{H H1:Hp}{Z Z1:aq}{U:Fr}{O:St}
theorem WpX.ev(h:WpX K cn E As H Z x)(e:Ev As H Z As1 H1 Z1):WpX K cn E As1 H1 Z1 x:=λC a H' Z' p=>h C a H' Z' ⟨e.trans p.ev,p.cls,p.zi,p.flds⟩
theorem Wp.ev(h:Wp Jn K cn E As H Z D o)(e:Ev As H Z As1 H1 Z1):Wp Jn K cn E As1 H1 Z1 D o:=by
 cases o with
 |nx U=>exact λσ' As' H' Z' f q=>h σ' As' H' Z' f (e.trans q)
 |bk U=>exact λσ' As' H' Z' f q=>h σ' As' H' Z' f (e.trans q)
 |ct U=>exact λσ' As' H' Z' f q=>h σ' As' H' Z' f (e.trans q)
 |rt t=>exact λv H' Z' B p=>h v H' Z' B ⟨e.trans p.ev,p.rep,p.nd,p.bz,p.zi⟩
 |rm U t=>exact λv σ' As' H' Z' f q r=>h v σ' As' H' Z' f (e.trans q) r
 |ex x=>exact WpX.ev h e
 |no=>exact h
structure Mo (H:Hp) (Z:aq) (H':Hp) (Z':aq):Prop where
 same:Same H H'
 zz:∀a,Z a->Z' a
 zn:∀a,Z' a->Z a\/H a=none
 zi:∀a,Z' a->H' a≠none
def Mo.ev(m:Mo H Z H' Z'):Ev As H Z As H' Z':=
 ⟨λa o h _=>m.same a o h,λ_ h=>.inl h,m.zz,λa h=>(m.zn a h).imp_right .inr,λa h=>m.same.free h⟩
theorem Mo.trans(a:Mo H Z H1 Z1)(b:Mo H1 Z1 H2 Z2):Mo H Z H2 Z2:=
 ⟨a.same.trans b.same,λx h=>b.zz x (a.zz x h),λx h=>by
  rcases b.zn x h with q|q
  . exact a.zn x q
  . exact .inr (a.same.free q),b.zi⟩
def Frm.mo0(F:Frm Jn K cn H Z U O As):Mo H Z H Z:=⟨Same.refl _,λ_ h=>h,λ_ h=>.inl h,F.zi⟩
def Post.mo(p:Post K cn As H Z mv H' Z' t v B):Mo H Z H' Z':=⟨p.same,p.zz,p.zn,p.zi⟩
def PostB.mo(p:PostB K cn H Z H' Z' t v B):Mo H Z H' Z':=⟨p.same,p.zz,p.zn,p.zi⟩
def PostT.mo(p:PostT H Z H' Z'):Mo H Z H' Z':=⟨p.same,p.zz,p.zn,p.zi⟩
def Mo.postT(p:Mo H Z H' Z'):PostT H Z H' Z':=⟨p.same,p.zz,p.zn,p.zi⟩
theorem Slot.mo(h:Slot K cn H Z o w A)(s:Same H H')(hz:∀a,Z a->Z' a):Slot K cn H' Z' o w A:=by
 cases o with
 |none=>exact h
 |some t=>obtain⟨v,e,r⟩:=h;exact⟨v,e,r.same s hz⟩
theorem Slots.mo(s:Same H H')(hz:∀a,Z a->Z' a):∀{U:Fr}{O:St}{As:ag},Slots K cn H Z U O As->Slots K cn H' Z' U O As
 |[],_,_,h=>h
 |o::U,_,_,h=>by refine z43 h λw σ' A As' zz zy h1 h2=>?_;clear h;subst zz zy;exact⟨w,σ',A,As',rfl,rfl,h1.mo s hz,Slots.mo s hz h2⟩
theorem Slots.dom:∀{U:Fr}{O:St}{As:ag},Slots K cn H Z U O As->∀a∈As.flatten,∃o,H a=some o/\tY o=false
 |[],_,_,h,a,ha=>by obtain⟨rfl,rfl⟩:=h;simp at ha
 |o::U,_,_,h,a,ha=>by
  refine z43 h λw σ' A As' zz zy h1 h2=>?_;clear h;subst zz zy;rw[D0,A9]at ha;rcases ha with ha|ha
  . cases o with
    |none=>have:A=[]:=h1;subst this;cases ha
    |some t=>obtain⟨v,e,r⟩:=h1;exact r.dom t a ha
  . exact Slots.dom h2 a ha
theorem Frm.mo(F:Frm Jn K cn H Z U O As)(m:Mo H Z H' Z'):Frm Jn K cn H' Z' U O As:=by
 refine⟨F.sl.mo m.same m.zz,F.nd,λa ha z=>?_,m.zi,F.pn⟩;rcases m.zn a z with q|q
 . exact F.nz a ha q
 . obtain⟨o,e,_⟩:=F.sl.dom a ha;rw[e]at q;cases q
theorem WpE.mo(F:Frm Jn K cn H Z U O As)(h:WpE K cn E As H Z mv Q r)(m:Mo H Z H' Z'):WpE K cn E As H' Z' mv Q r:=by
 cases r with
 |ok t=>exact λv H2 Z2 B p=>h v H2 Z2 B ⟨m.same.trans p.same,λa q=>p.zz a (m.zz a q),(m.trans p.mo).zn,p.zi,p.rep,p.nd,p.bz,λb hb=>(p.bn b hb).imp_left m.same.free⟩
 |ex x=>exact WpX.ev h m.ev
 |no=>exact h
theorem WpT.mo(h:WpT K cn E As H Z Q r)(m:Mo H Z H' Z'):WpT K cn E As H' Z' Q r:=by
 cases r with
 |ok b=>exact λH2 Z2 p=>h H2 Z2 (m.trans p.mo).postT
 |ex x=>exact WpX.ev h m.ev
 |no=>exact h
theorem Slots.get:∀{U:Fr}{O:St}{As:ag}{i:Nat}{t:T},Slots K cn H Z U O As->U[i]?=some (some t)->∃v,O[i]?=some (some v)/\Rep K cn H Z t v (As.getD i [])
 |[],_,_,_,_,h,e=>by simp at e
 |o::U,_,_,0,t,h,e=>by refine z43 h λw σ' A As' zz zy h1 h2=>?_;clear h;subst zz zy;simp at e;subst e;obtain⟨v,rfl,r⟩:=h1;exact⟨v,rfl,r⟩
 |o::U,_,_,i+1,t,h,e=>by refine z43 h λw σ' A As' zz zy h1 h2=>?_;clear h;subst zz zy;obtain⟨v,e1,e2⟩:=Slots.get (i:=i) h2 (by simpa using e);exact⟨v,by simpa using e1,by simpa using e2⟩
theorem Slots.set(r:Rep K cn H Z t v B):∀{U:Fr}{O:St}{As:ag}(i:Nat),Slots K cn H Z U O As->Slots K cn H Z (U.set i (some t)) (O.set i (some v)) (As.set i B)
 |[],_,_,_,h=>by obtain⟨rfl,rfl⟩:=h;exact⟨rfl,rfl⟩
 |o::U,_,_,0,h=>by refine z43 h λw σ' A As' zz zy h1 h2=>?_;clear h;subst zz zy;exact⟨some v,σ',B,As',rfl,rfl,⟨v,rfl,r⟩,h2⟩
 |o::U,_,_,i+1,h=>by refine z43 h λw σ' A As' zz zy h1 h2=>?_;clear h;subst zz zy;exact⟨w,σ'.set i (some v),A,As'.set i B,rfl,rfl,h1,Slots.set r i h2⟩
theorem Slots.kill:∀{U:Fr}{O:St}{As:ag}(i:Nat),Slots K cn H Z U O As->Slots K cn H Z (U.set i none) O (As.set i [])
 |[],_,_,_,h=>by obtain⟨rfl,rfl⟩:=h;exact⟨rfl,rfl⟩
 |o::U,_,_,0,h=>by refine z43 h λw σ' A As' zz zy h1 h2=>?_;clear h;subst zz zy;exact⟨w,σ',[],As',rfl,rfl,rfl,h2⟩
 |o::U,_,_,i+1,h=>by refine z43 h λw σ' A As' zz zy h1 h2=>?_;clear h;subst zz zy;exact⟨w,σ',A,As'.set i [],rfl,rfl,h1,Slots.kill i h2⟩
theorem Slots.kill2(o:Option V):∀{U:Fr}{O:St}{As:ag}(i:Nat),Slots K cn H Z U O As->Slots K cn H Z (U.set i none) (O.set i o) (As.set i [])
 |[],_,_,_,h=>by obtain⟨rfl,rfl⟩:=h;exact⟨rfl,rfl⟩
 |o::U,_,_,0,h=>by refine z43 h λw σ' A As' zz zy h1 h2=>?_;clear h;subst zz zy;exact⟨_,σ',[],As',rfl,rfl,rfl,h2⟩
 |o::U,_,_,i+1,h=>by refine z43 h λw σ' A As' zz zy h1 h2=>?_;clear h;subst zz zy;exact⟨w,_,A,As'.set i [],rfl,rfl,h1,Slots.kill2 _ i h2⟩
theorem eW:∀{As:ag}{i:Nat},a∈(As.set i B).flatten->a∈B\/a∈As.flatten
 |[],_,h=>by simp at h
 |A::As,0,h=>by rw[M5,D0,A9]at h;rw[D0,A9];exact h.imp_right .inr
 |A::As,i+1,h=>by
  rw[M6,D0,A9]at h;rw[D0,A9];rcases h with h|h
  . exact .inr (.inl h)
  . exact(eW h).imp_right .inr
theorem qL(hB:B.Nodup):∀{As:ag}{i:Nat},As.flatten.Nodup->(∀b∈B,b∈As.flatten->b∈As.getD i [])->(As.set i B).flatten.Nodup
 |[],_,h,_=>h
 |A::As,0,h,d=>by rw[D0,D8]at h;rw[M5,D0,D8];refine⟨hB,h.2.1,λb hb c hc e=>?_⟩;subst e;have q:=d b hb (by rw[D0,A9];exact .inr hc);exact h.2.2 b (by simpa using q) b hc rfl
 |A::As,i+1,h,d=>by
  rw[D0,D8]at h;rw[M6,D0,D8];have d':∀b∈B,b∈As.flatten->b∈As.getD i []:=λb hb hc=>by have q:=d b hb (by rw[D0,A9];exact .inr hc);simpa using q
  refine⟨h.1,qL hB h.2.1 d',λa ha c hc e=>?_⟩;subst e;rcases eW hc with q|q
  . have z:=d a q (by rw[D0,A9];exact .inl ha);have z':a∈As.getD i []:=by simpa using z
    have z2:a∈As.flatten:=by
     rw[A8]at z';cases e:As[i]? with
     |none=>rw[e]at z';cases z'
     |some C=>rw[e]at z';exact List.mem_flatten.mpr ⟨C,D4 e,z'⟩
    exact h.2.2 a ha a z2 rfl
  . exact h.2.2 a ha a q rfl
theorem bC(h:a∈As.getD i []):a∈As.flatten:=by
 rw[A8]at h;cases e:As[i]? with
 |none=>rw[e]at h;cases h
 |some C=>rw[e]at h;exact List.mem_flatten.mpr ⟨C,D4 e,h⟩
def xM(Jn:gX)(i:Nat):Bool:=Jn.all λp=>!(p.1==i)
def ba5(h:xM Jn i=true)(o:Option V)(q:∀p∈Jn,O[p.1]?=some (some p.2)):∀p∈Jn,(O.set i o)[p.1]?=some (some p.2):=λp hp=>by unfold xM at h;rw[K4]at h;have:=h p hp;rw[J9 (by intro z;simp[z]at this)];exact q p hp
theorem Frm.set(F:Frm Jn K cn H Z U O As)(r:Rep K cn H Z t v B)(nd:B.Nodup)(bz:∀b∈B,¬Z b)(i:Nat)(fr:∀b∈B,b∈As.flatten->b∈As.getD i [])(hJ:xM Jn i=true):Frm Jn K cn H Z (U.set i (some t)) (O.set i (some v)) (As.set i B):=
 ⟨F.sl.set r i,qL nd F.nd fr,λa ha=>(eW ha).elim (bz a) (F.nz a),F.zi,ba5 hJ _ F.pn⟩
theorem Frm.kill(F:Frm Jn K cn H Z U O As)(i:Nat):Frm Jn K cn H Z (U.set i none) O (As.set i []):=
 ⟨F.sl.kill i,qL J2 F.nd (λb hb=>by cases hb),λa ha=>(eW ha).elim (λq=>by cases q) (F.nz a),F.zi,F.pn⟩
def kills:List Nat->Fr->Fr
 |[],U=>U
 |i::is,U=>kills is (U.set i none)
def gQ:List Nat->List (List Addr)->List (List Addr)
 |[],As=>As
 |i::is,As=>gQ is (As.set i [])
theorem Frm.kills(mv:az):∀{U:Fr}{As:ag},Frm Jn K cn H Z U O As->Frm Jn K cn H Z (TL.kills mv U) O (gQ mv As):=by
 induction mv with
 |nil=>exact λF=>F
 |cons i is ih=>exact λF=>ih (F.kill i)
theorem gJ:∀{As:ag},a∈(gQ mv As).flatten->a∈As.flatten:=by
 induction mv with
 |nil=>exact λh=>h
 |cons i is ih=>exact λh=>(eW (ih h)).elim (λq=>by cases q) id
theorem vX:∀{As:ag},As.flatten.Nodup->i∈mv->a∈As.getD i []->a∉(gQ mv As).flatten:=by
 induction mv with
 |nil=>exact λ_ h=>by cases h
 |cons j js ih=>
  intro As nd hi ha hm;by_cases e:i=j
  . subst e;have h1:=gJ (mv:=js) (As:=As.set i []) hm;have:∀{As:ag}{i:Nat},As.flatten.Nodup->a∈As.getD i []->a∉(As.set i []).flatten:=by
     intro As;induction As with
     |nil=>intro i _ h;simp at h
     |cons A As ih2=>
      intro i nd h hm;rw[D0,D8]at nd;cases i with
      |zero=>rw[M5,D0,M9]at hm;exact nd.2.2 a (by simpa using h) a hm rfl
      |succ i=>
       rw[M6,D0,A9]at hm;have h':a∈As.getD i []:=by simpa using h
       rcases hm with hm|hm
       . exact nd.2.2 a hm a (bC h') rfl
       . exact ih2 nd.2.1 h' hm
    exact this nd ha h1
  . have hi':i∈js:=(C4.mp hi).resolve_left e;refine ih (As:=As.set j []) (qL J2 nd (λb hb=>by cases hb)) hi' ?_ hm;rw[A8,J9 (N6 e),<-A8];exact ha
def el9(i:Nat)(U:Fr):Fr:=match U[i]? with
 |some (some t)=>U.set i (some (frz t))
 |_=>U
end
open L2
section
variable{Jn:gX}{K:A5}{cn:aa}{E:XK}
theorem WpB.wpE(w:WpB K cn E As H Z Q r):WpE K cn E As H Z mv Q r:=by
 cases r with
 |ok t=>exact λv H' Z' B p=>w v H' Z' B ⟨p.same,p.zz,p.zn,p.zi,p.rep⟩
 |ex x=>exact w
 |no=>exact w
def RE.rb(h:RE Jn K cn E mv te d):RB Jn K cn E te d:=λAs H Z U O F Q w=>h As H Z U O F Q w.wpE
def aB(i:Nat):Fr->Res T:=λU=>match U[i]? with
 |some (some t)=>.ok t
 |_=>.no
theorem eh4(i:Nat):RB Jn K cn E (am4 i) (aB i):=λAs H Z U O F Q w=>by
 unfold aB at w;cases e:U[i]? with
 |none=>rw[e]at w;exact False.elim w
 |some o=>
  rw[e]at w;cases o with
  |none=>exact False.elim w
  |some t=>obtain⟨v,es,r⟩:=F.sl.get e;exact⟨v,es,w v H Z _ ⟨Same.refl _,λ_ h=>h,λ_ h=>.inl h,F.zi,r⟩⟩
theorem fa0(i:Nat):RE Jn K cn E [i] (am4 i) (aB i):=λAs H Z U O F Q w=>by
 unfold aB at w;cases e:U[i]? with
 |none=>rw[e]at w;exact False.elim w
 |some o=>
  rw[e]at w;cases o with
  |none=>exact False.elim w
  |some t=>
   obtain⟨v,es,r⟩:=F.sl.get e;refine⟨v,es,w v H Z _ ⟨Same.refl _,λ_ h=>h,λ_ h=>.inl h,F.zi,r,?_,λb hb=>F.nz b (bC hb),λb hb=>.inr ⟨i,B7,hb⟩⟩⟩;have nd:=F.nd;rw[A8];cases q:As[i]? with
   |none=>exact J2
   |some C=>exact List.Nodup.sublist (List.sublist_flatten_of_mem (D4 q)) nd
def aU(d:a8):Fr->Res T:=λU=>(d U).bind λt=>if cP t=true then .ok t else .no
theorem RB.chk(h:RB Jn K cn E te d):RE Jn K cn E [] te (aU d):=λAs H Z U O F Q w=>h As H Z U O F Q (by
 unfold aU at w;cases e:d U with
 |ok t=>
  rw[e]at w;intro v H' Z' B p;by_cases c:cP t=true
  . simp only[Res.bind,E3 c]at w;have:=p.rep.bare t c;subst this;exact w v H' Z' [] ⟨p.same,p.zz,p.zn,p.zi,p.rep,J2,fH,fH⟩
  . simp only[Res.bind,D7 c]at w;exact False.elim w
 |ex x=>rw[e]at w;exact w
 |no=>rw[e]at w;exact w)
def by7(d:a8):Fr->Res T:=λU=>(d U).bind λt=>.ok (frz t)
theorem RE.frz{te:TE}{d:a8}(h:RE Jn K cn E [] te d):RE Jn K cn E [] te (by7 d):=λAs H Z U O F Q w=>h As H Z U O F Q (by
 unfold by7 at w;cases e:d U with
 |ok t=>
  rw[e]at w;intro v H' Z' B p;refine w v H' (λa=>Z' a\/a∈B) [] ⟨p.same,λa h=>.inl (p.zz a h),λa h=>?_,λa h=>?_,Rep.frz t p.rep (λa h=>.inl h) (λa h=>.inr h),J2,fH,fH⟩
  . rcases h with h|h
    . exact p.zn a h
    . rcases p.bn a h with q|⟨i,q,_⟩
      . exact .inr q
      . cases q
  . rcases h with h|h
    . exact p.zi a h
    . obtain⟨o,q,_⟩:=p.rep.dom t a h;rw[q];exact(λz=>nomatch z)
 |ex x=>rw[e]at w;exact w
 |no=>rw[e]at w;exact w)
def dC(t:T):Fr->Res T:=λ_=>.ok t
def bf8(h:∀H Z,Rep K cn H Z t v []):RE Jn K cn E [] (tC v) (dC t):=λAs H Z U O F Q w=>
 w v H Z [] ⟨Same.refl _,λ_ h=>h,λ_ h=>.inl h,F.zi,h H Z,J2,fH,fH⟩
def er7:RE Jn K cn E [] (tC (.int i)) (dC (.int i)):=bf8 λH Z=>by simp[Rep]
def eg8:RE Jn K cn E [] (tC (.str i)) (dC (.str i)):=bf8 λH Z=>by simp[Rep]
def fe1:RE Jn K cn E [] (tC (.bl i)) (dC (.bl i)):=bf8 λH Z=>by simp[Rep]
def ej8:RE Jn K cn E [] (tC .non) (dC .non):=bf8 λH Z=>by simp[Rep]
def fm2:RE Jn K cn E [] (tC (.ty n)) (dC (.ty n)):=bf8 λH Z=>by simp[Rep]
def qC(K:A5)(cn:aa)(r:R2)(f:T->T->Res T):Prop:=
 ∀(E:XK)(As:ag)(H:Hp)(Z:aq)(t u:T)(x y:V)(A B:av)(Q:VK),(∀a,Z a->H a≠none)->Rep K cn H Z t x A->Rep K cn H Z u y B->WpE K cn E As H Z [] Q (f t u)->r x y H Q
def aE(f:T->T->Res T)(a b:a8):Fr->Res T:=λU=>(a U).bind λx=>(b U).bind λy=>f x y
theorem es8(hr:qC K cn r f)(ha:RB Jn K cn E ta a)(hb:RB Jn K cn E tb b):RE Jn K cn E [] (tOp r ta tb) (aE f a b):=λAs H Z U O F Q w=>by
 unfold aE at w;refine ha As H Z U O F _ ?_;cases e:a U with
 |ok t=>
  rw[e]at w;intro v H1 Z1 B p;refine hb As H1 Z1 U O (F.mo p.mo) _ ?_;simp only[Res.bind]at w;cases e2:b U with
  |ok u=>rw[e2]at w;intro v2 H2 Z2 B2 p2;exact hr E As H2 Z2 t u v v2 B B2 Q p2.zi (p.rep.same p2.same p2.zz) p2.rep (w.mo F (p.mo.trans p2.mo))
  |ex x=>rw[e2]at w;exact WpX.ev w p.mo.ev
  |no=>rw[e2]at w;exact w
 |ex x=>rw[e]at w;exact w
 |no=>rw[e]at w;exact w
def fE(f:T->Res T)(a:a8):Fr->Res T:=λU=>(a U).bind f
def R1R(K:A5)(cn:aa)(r:dl)(f:T->Res T):Prop:=
 ∀(E:XK)(As:ag)(H:Hp)(Z:aq)(t:T)(x:V)(A:av)(Q:VK),(∀a,Z a->H a≠none)->Rep K cn H Z t x A->WpE K cn E As H Z [] Q (f t)->r x H Q
theorem fk1(hr:R1R K cn r f)(ha:RB Jn K cn E ta a):RE Jn K cn E [] (tUn r ta) (fE f a):=λAs H Z U O F Q w=>by
 unfold fE at w;refine ha As H Z U O F _ ?_;cases e:a U with
 |ok t=>rw[e]at w;exact λv H1 Z1 B p=>hr E As H1 Z1 t v B Q p.zi p.rep (WpE.mo F w p.mo)
 |ex x=>rw[e]at w;exact w
 |no=>rw[e]at w;exact w
def nN(f g:T->T->Res T)(a b c:a8):Fr->Res T:=λU=>(a U).bind λx=>(b U).bind λy=>(f x y).bind λk=>match k with
 |.bl true=>(c U).bind λz=>g y z
 |.bl false=>.ok (.bl false)
 |_=>.no
theorem WpE.bl(w:WpE K cn E As H Z [] Q (.ok (.bl b)))(zi:∀a,Z a->H a≠none):Q (.bl b) H:=
 w (.bl b) H Z [] ⟨Same.refl _,λ_ h=>h,λ_ h=>.inl h,zi,by simp[Rep],J2,fH,fH⟩
theorem dj4(hr:qC K cn r f)(hr':qC K cn r' g)(ha:RB Jn K cn E ta a)(hb:RB Jn K cn E tb b)(hc:RB Jn K cn E tc c):RE Jn K cn E [] (bl9 r r' ta tb tc) (nN f g a b c):=λAs H Z U O F Q w=>by
 unfold nN at w;refine ha As H Z U O F _ ?_;cases e:a U with
 |ok t=>
  rw[e]at w;intro v H1 Z1 B p;refine hb As H1 Z1 U O (F.mo p.mo) _ ?_;simp only[Res.bind]at w;cases e2:b U with
  |ok u=>
   rw[e2]at w;intro v2 H2 Z2 B2 p2;refine hr E As H2 Z2 t u v v2 B B2 _ p2.zi (p.rep.same p2.same p2.zz) p2.rep ?_;simp only at w;cases e3:f t u with
   |ok k=>
    rw[e3]at w;intro v3 H3 Z3 B3 p3;have m3:=(p.mo.trans p2.mo).trans p3.mo;cases k with
    |bl k=>
     have q:=p3.rep;simp only[Rep]at q;obtain⟨rfl,rfl⟩:=q;refine⟨k,rfl,?_⟩;cases k with
     |true=>
      rw[E3 rfl];refine hc As H3 Z3 U O (F.mo m3) _ ?_;simp only at w;cases e4:c U with
      |ok z=>rw[e4]at w;intro v4 H4 Z4 B4 p4;exact hr' E As H4 Z4 u z v2 v4 B2 B4 Q p4.zi (p2.rep.same (p3.same.trans p4.same) (λa h=>p4.zz a (p3.zz a h))) p4.rep (WpE.mo F w (m3.trans p4.mo))
      |ex x=>rw[e4]at w;exact WpX.ev w m3.ev
      |no=>rw[e4]at w;exact w
     |false=>rw[D7 X5];exact WpE.bl (WpE.mo F w m3) p3.zi
    |_=>exact False.elim w
   |ex x=>rw[e3]at w;exact WpX.ev w (p.mo.trans p2.mo).ev
   |no=>rw[e3]at w;exact w
  |ex x=>rw[e2]at w;exact WpX.ev w p.mo.ev
  |no=>rw[e2]at w;exact w
 |ex x=>rw[e]at w;exact w
 |no=>rw[e]at w;exact w
def pA(a b:a8):Fr->Res T:=λU=>(a U).bind λx=>match x with
 |.bl true=>b U
 |.bl false=>.ok (.bl false)
 |_=>.no
def fg3(a b:a8):Fr->Res T:=λU=>(a U).bind λx=>match x with
 |.bl true=>.ok (.bl true)
 |.bl false=>b U
 |_=>.no
def aj9(a:a8):Fr->Res T:=λU=>(a U).bind λx=>match x with
 |.bl b=>.ok (.bl (!b))
 |_=>.no
theorem et1(ha:RB Jn K cn E ta a)(hb:RE Jn K cn E [] tb b):RE Jn K cn E [] (dk8 ta tb) (pA a b):=λAs H Z U O F Q w=>by
 unfold pA at w;refine ha As H Z U O F _ ?_;cases e:a U with
 |ok t=>
  rw[e]at w;intro v H1 Z1 B p;cases t with
  |bl k=>
   have q:=p.rep;simp only[Rep]at q;obtain⟨rfl,rfl⟩:=q;refine⟨k,rfl,?_⟩;cases k with
   |true=>rw[E3 rfl];exact hb As H1 Z1 U O (F.mo p.mo) Q (WpE.mo F w p.mo)
   |false=>rw[D7 X5];exact WpE.bl (WpE.mo F w p.mo) p.zi
  |_=>exact False.elim w
 |ex x=>rw[e]at w;exact w
 |no=>rw[e]at w;exact w
theorem dj9(ha:RB Jn K cn E ta a):RE Jn K cn E [] (dd7 ta) (aj9 a):=λAs H Z U O F Q w=>by
 unfold aj9 at w;refine ha As H Z U O F _ ?_;cases e:a U with
 |ok t=>
  rw[e]at w;intro v H1 Z1 B p;cases t with
  |bl k=>have q:=p.rep;simp only[Rep]at q;obtain⟨rfl,rfl⟩:=q;exact⟨k,rfl,WpE.bl (WpE.mo F w p.mo) p.zi⟩
  |_=>exact False.elim w
 |ex x=>rw[e]at w;exact w
 |no=>rw[e]at w;exact w
def dIf(c:bx)(a b:a8):Fr->Res T:=λU=>(c U).bind λk=>if k=true then a U else b U
theorem fo0(hc:RT Jn K cn E tt c)(ha:RE Jn K cn E [] ta a)(hb:RE Jn K cn E [] tb b):RE Jn K cn E [] (tIf tt ta tb) (dIf c a b):=λAs H Z U O F Q w=>by
 unfold dIf at w;refine hc As H Z U O F _ ?_;cases e:c U with
 |ok k=>
  rw[e]at w;intro H1 Z1 p;simp only[Res.bind]at w;split
  . next h=>rw[E3 h]at w;exact ha As H1 Z1 U O (F.mo p.mo) Q (WpE.mo F w p.mo)
  . next h=>rw[D7 h]at w;exact hb As H1 Z1 U O (F.mo p.mo) Q (WpE.mo F w p.mo)
 |ex x=>rw[e]at w;exact w
 |no=>rw[e]at w;exact w
def toB:T->Res Bool
 |.bl b=>.ok b
 |_=>.no
def bH(a:a8):Fr->Res Bool:=λU=>(a U).bind toB
theorem cw4(ha:RB Jn K cn E ta a):RT Jn K cn E (bl7 ta) (bH a):=λAs H Z U O F Q w=>by
 unfold bH at w;refine ha As H Z U O F _ ?_;cases e:a U with
 |ok t=>
  rw[e]at w;intro v H1 Z1 B p;cases t with
  |bl k=>have q:=p.rep;simp only[Rep]at q;obtain⟨rfl,rfl⟩:=q;exact⟨k,rfl,w H1 Z1 p.mo.postT⟩
  |_=>exact False.elim w
 |ex x=>rw[e]at w;exact w
 |no=>rw[e]at w;exact w
def ac0:T->Res Bool
 |.non=>.ok false
 |.bl b=>.ok b
 |.int i=>.ok (i !=0)
 |.str x=>if x.length<=sizeLine then .ok ((x.length:Int) !=0)else .no
 |.lst _ xs=>.ok (!xs.isEmpty)
 |.tup xs=>.ok (!xs.isEmpty)
 |_=>.no
def fK(a:a8):Fr->Res Bool:=λU=>(a U).bind ac0
theorem Reps.isEmpty(r:Reps K cn H Z ts vs A):vs.isEmpty=ts.isEmpty:=by have h:=Reps.length ts r;cases ts<;>cases vs<;>simp_all
theorem ep0(r:Rep K cn H Z t v B)(h:ac0 t=.ok k):bh9 K v H k:=by
 cases t with
 |non=>simp only[Rep]at r;obtain⟨rfl,_⟩:=r;cases h;rfl
 |bl b=>simp only[Rep]at r;obtain⟨rfl,_⟩:=r;cases h;rfl
 |int b=>simp only[Rep]at r;obtain⟨rfl,_⟩:=r;cases h;rfl
 |str b=>
  simp only[Rep]at r;obtain⟨rfl,_⟩:=r;simp only[ac0]at h;split at h
  . cases h;exact⟨by assumption,rfl⟩
  . cases h
 |lst o xs=>
  cases h;cases o with
  |true=>simp only[Rep]at r;obtain⟨a,vs,B,rfl,rfl,e,r⟩:=r;exact .inl ⟨vs,SqL.of e,by rw[r.isEmpty]⟩
  |false=>simp only[Rep]at r;obtain⟨a,vs,rfl,rfl,e,r⟩:=r;exact .inl ⟨vs,e.sq,by rw[r.isEmpty]⟩
 |tup xs=>cases h;simp only[Rep]at r;obtain⟨a,vs,rfl,e,r⟩:=r;exact .inr (.inl ⟨vs,e,by rw[r.isEmpty]⟩)
 |ty _=>cases h
 |ins _ _ _ _=>cases h
def cg8(h:ac0 t=.ex x):False:=by cases t<;>simp only[ac0]at h<;>first|cases h|(split at h<;>cases h)
theorem es5(ha:RB Jn K cn E ta a):RT Jn K cn E (λO H Q=>ta O H λx H'=>∃k,bh9 K x H' k/\Q k H') (fK a):=λAs H Z U O F Q w=>by
 unfold fK at w;refine ha As H Z U O F _ ?_;cases e:a U with
 |ok t=>
  rw[e]at w;intro v H1 Z1 B p;simp only[Res.bind]at w;cases e2:ac0 t with
  |ok k=>rw[e2]at w;exact⟨k,ep0 p.rep e2,w H1 Z1 p.mo.postT⟩
  |ex x=>exact(cg8 e2).elim
  |no=>rw[e2]at w;exact w.elim
 |ex x=>rw[e]at w;exact w
 |no=>rw[e]at w;exact w
def fG(c:bx):Fr->Res Bool:=λU=>(c U).bind λk=>.ok (!k)
def mG(c d:bx):Fr->Res Bool:=λU=>(c U).bind λk=>if k=true then d U else .ok false
def sF(c d:bx):Fr->Res Bool:=λU=>(c U).bind λk=>if k=true then .ok true else d U
theorem ea6(hc:RT Jn K cn E tt c):RT Jn K cn E (ee3 tt) (fG c):=λAs H Z U O F Q w=>by
 unfold fG at w;refine hc As H Z U O F _ ?_;cases e:c U with
 |ok k=>rw[e]at w;exact λH1 Z1 p=>w H1 Z1 p
 |ex x=>rw[e]at w;exact w
 |no=>rw[e]at w;exact w
theorem en5(hc:RT Jn K cn E tt c)(hd:RT Jn K cn E uu d):RT Jn K cn E (ep4 tt uu) (mG c d):=λAs H Z U O F Q w=>by
 unfold mG at w;refine hc As H Z U O F _ ?_;cases e:c U with
 |ok k=>
  rw[e]at w;intro H1 Z1 p;cases k with
  |true=>rw[E3 rfl];exact hd As H1 Z1 U O (F.mo p.mo) Q (WpT.mo w p.mo)
  |false=>rw[D7 X5];exact w H1 Z1 p
 |ex x=>rw[e]at w;exact w
 |no=>rw[e]at w;exact w
theorem ej9(hc:RT Jn K cn E tt c)(hd:RT Jn K cn E uu d):RT Jn K cn E (tOr tt uu) (sF c d):=λAs H Z U O F Q w=>by
 unfold sF at w;refine hc As H Z U O F _ ?_;cases e:c U with
 |ok k=>
  rw[e]at w;intro H1 Z1 p;cases k with
  |false=>rw[D7 X5];exact hd As H1 Z1 U O (F.mo p.mo) Q (WpT.mo w p.mo)
  |true=>rw[E3 rfl];exact w H1 Z1 p
 |ex x=>rw[e]at w;exact w
 |no=>rw[e]at w;exact w
structure ed9 (K:A5) (cn:aa) (As:ag) (H:Hp) (Z:aq) (mv:az) (H':Hp) (Z':aq) (ts:aw) (vs:a_) (B:av):Prop where
 mo:Mo H Z H' Z'
 rep:Reps K cn H' Z' ts vs B
 nd:B.Nodup
 bz:∀b∈B,¬Z' b
 bn:∀b∈B,H b=none\/∃i∈mv,b∈As.getD i []
def WpA(K:A5)(cn:aa)(E:XK)(As:ag)(H:Hp)(Z:aq)(mv:az)(Q:ck):Res (List T)->Prop
 |.ok ts=>∀vs H' Z' B,ed9 K cn As H Z mv H' Z' ts vs B->Q vs H'
 |.ex x=>WpX K cn E As H Z x
 |.no=>False
def fs3(K:A5)(cn:aa)(E:XK)(As:ag)(H:Hp)(Z:aq)(Q:ck):Res (List T)->Prop
 |.ok ts=>∀vs H' Z' B,Mo H Z H' Z'->Reps K cn H' Z' ts vs B->Q vs H'
 |.ex x=>WpX K cn E As H Z x
 |.no=>False
def RA(Jn:gX)(K:A5)(cn:aa)(E:XK)(mv:az)(ta:TA)(d:bb):Prop:=∀As H Z U O,Frm Jn K cn H Z U O As->∀Q,WpA K cn E As H Z mv Q (d U)->ta O H Q
def RAB(Jn:gX)(K:A5)(cn:aa)(E:XK)(ta:TA)(d:bb):Prop:=∀As H Z U O,Frm Jn K cn H Z U O As->∀Q,fs3 K cn E As H Z Q (d U)->ta O H Q
def aH:Fr->Res (List T):=λ_=>.ok []
def aD(a:a8)(r:bb):Fr->Res (List T):=λU=>(a U).bind λt=>(r U).bind λts=>.ok (t::ts)
def ev5:RA Jn K cn E [] al8 aH:=λAs H Z U O F Q w=>w [] H Z [] ⟨F.mo0,Reps.nil,J2,fH,fH⟩
def er0:RAB Jn K cn E al8 aH:=λAs H Z U O F Q w=>w [] H Z [] F.mo0 Reps.nil
theorem yH{As:ag}{a:Addr}:∀{i j:Nat},As.flatten.Nodup->a∈As.getD i []->a∈As.getD j []->i=j:=by
 induction As with
 |nil=>intro i j _ h;simp at h
 |cons A As ih=>
  intro i j nd h1 h2;rw[D0,D8]at nd;cases i with
  |zero=>
   cases j with
   |zero=>rfl
   |succ j=>exact E8 rfl (nd.2.2 a (by simpa using h1) a (bC (by simpa using h2)))
  |succ i=>
   cases j with
   |zero=>exact E8 rfl (nd.2.2 a (by simpa using h2) a (bC (by simpa using h1)))
   |succ j=>exact N1 (· +1) (ih (i:=i) (j:=j) nd.2.1 (by simpa using h1) (by simpa using h2))
theorem el1{mv mw:az}{te:TE}{tr:TA}{a:a8}{r:bb}(ha:RE Jn K cn E mv te a)(hr:RA Jn K cn E mw tr r)(hd:(mv.all λi=>!mw.contains i)=true:=by rfl):RA Jn K cn E (mv++mw) (xJ te tr) (aD a r):=λAs H Z U O F Q w=>by
 unfold aD at w;refine ha As H Z U O F _ ?_;cases e:a U with
 |ok t=>
  rw[e]at w;intro v H1 Z1 B p;refine hr As H1 Z1 U O (F.mo p.mo) _ ?_;simp only[Res.bind]at w;cases e2:r U with
  |ok ts=>
   rw[e2]at w;intro vs H2 Z2 B2 p2;refine w (v::vs) H2 Z2 (B++B2) ⟨p.mo.trans p2.mo,?_,?_,?_,?_⟩
   . simp only[Reps];exact⟨v,vs,B,B2,rfl,rfl,p.rep.same p2.mo.same p2.mo.zz,p2.rep⟩
   . rw[D8];refine⟨p.nd,p2.nd,λb hb c hc z=>?_⟩;subst z;obtain⟨o,ho,_⟩:=p.rep.dom t b hb;rcases p2.bn b hc with q|⟨j,hj,q⟩
     . rw[ho]at q;cases q
     . rcases p.bn b hb with z|⟨i,hi,z⟩
       . obtain⟨o',ho',_⟩:=F.sl.dom b (bC q);rw[ho']at z;cases z
       . have eij:=yH F.nd z q;subst eij;have hh:=K4.mp hd i hi;simp at hh;exact hh hj
   . intro b hb;rcases A9.mp hb with hb|hb
     . intro z;rcases p2.mo.zn b z with z|z
       . exact p.bz b hb z
       . obtain⟨o,ho,_⟩:=p.rep.dom t b hb;rw[ho]at z;cases z
     . exact p2.bz b hb
   . intro b hb;rcases A9.mp hb with hb|hb
     . exact(p.bn b hb).imp_right λ⟨i,hi,z⟩=>⟨i,D9 _ hi,z⟩
     . rcases p2.bn b hb with z|⟨i,hi,z⟩
       . exact .inl (p.same.free z)
       . exact .inr ⟨i,C6 _ hi,z⟩
  |ex x=>rw[e2]at w;exact WpX.ev w p.mo.ev
  |no=>rw[e2]at w;exact w
 |ex x=>rw[e]at w;exact w
 |no=>rw[e]at w;exact w
theorem ds5(ha:RB Jn K cn E te a)(hr:RAB Jn K cn E tr r):RAB Jn K cn E (xJ te tr) (aD a r):=λAs H Z U O F Q w=>by
 unfold aD at w;refine ha As H Z U O F _ ?_;cases e:a U with
 |ok t=>
  rw[e]at w;intro v H1 Z1 B p;refine hr As H1 Z1 U O (F.mo p.mo) _ ?_;simp only[Res.bind]at w;cases e2:r U with
  |ok ts=>rw[e2]at w;intro vs H2 Z2 B2 m2 r2;refine w (v::vs) H2 Z2 (B++B2) (p.mo.trans m2) ?_;simp only[Reps];exact⟨v,vs,B,B2,rfl,rfl,p.rep.same m2.same m2.zz,r2⟩
  |ex x=>rw[e2]at w;exact WpX.ev w p.mo.ev
  |no=>rw[e2]at w;exact w
 |ex x=>rw[e]at w;exact w
 |no=>rw[e]at w;exact w
def eK(r:bb):Fr->Res T:=λU=>(r U).bind λts=>if ts.length<=sizeLine then .ok (.lst true ts)else .no
def dF(r:bb):Fr->Res T:=λU=>(r U).bind λts=>if ts.length<=sizeLine then .ok (.tup ts)else .no
def Mo.new(o:HO)(hp:H p=none)(zi:∀a,Z a->H a≠none):Mo H Z (L2.upd H p o) Z:=
 ⟨bu8 hp o,λ_ h=>h,λ_ h=>.inl h,λa h=>by
  by_cases e:a=p
  . subst e;rw[gC];exact(λz=>nomatch z)
  . rw[dJ e];exact zi a h⟩
theorem ez3(h:RA Jn K cn E mv ta r):RE Jn K cn E mv (ex4 ta) (eK r):=λAs H Z U O F Q w=>by
 unfold eK at w;refine h As H Z U O F _ ?_;cases e:r U with
 |ok ts=>
  rw[e]at w;intro vs H1 Z1 B p;simp only[Res.bind]at w;split at w
  . next hl=>
    refine⟨by rw[Reps.length ts p.rep];exact hl,λq hq=>?_⟩;have hZ:¬Z1 q:=λz=>p.mo.zi q z hq;have m:=Mo.new (.lst vs) hq p.mo.zi;refine w (.ref q) _ Z1 (q::B) ⟨(p.mo.trans m).same,(p.mo.trans m).zz,(p.mo.trans m).zn,m.zi,?_,?_,?_,?_⟩
    . simp only[Rep];exact⟨q,vs,B,rfl,rfl,gC,p.rep.same m.same m.zz⟩
    . refine G6.mpr ⟨λhb=>?_,p.nd⟩;obtain⟨o,ho,_⟩:=Reps.dom ts p.rep q hb;rw[ho]at hq;cases hq
    . intro b hb;rcases C4.mp hb with rfl|hb
      . exact hZ
      . exact p.bz b hb
    . intro b hb;rcases C4.mp hb with rfl|hb
      . exact .inl (p.mo.same.free hq)
      . exact p.bn b hb
  . exact w.elim
 |ex x=>rw[e]at w;exact w
 |no=>rw[e]at w;exact w
theorem em4(h:RA Jn K cn E mv ta r):RE Jn K cn E mv (ei3 ta) (dF r):=λAs H Z U O F Q w=>by
 unfold dF at w;refine h As H Z U O F _ ?_;cases e:r U with
 |ok ts=>
  rw[e]at w;intro vs H1 Z1 B p;simp only[Res.bind]at w;split at w
  . next hl=>
    refine⟨by rw[Reps.length ts p.rep];exact hl,λq hq=>?_⟩;have m:=Mo.new (.tup vs) hq p.mo.zi;refine w (.ref q) _ Z1 B ⟨(p.mo.trans m).same,(p.mo.trans m).zz,(p.mo.trans m).zn,m.zi,?_,p.nd,p.bz,p.bn⟩;simp only[Rep];exact⟨q,vs,rfl,SqT.of gC,p.rep.same m.same m.zz⟩
  . exact w.elim
 |ex x=>rw[e]at w;exact w
 |no=>rw[e]at w;exact w
def xY(K:A5)(cn:aa)(r:cq)(f:bt):Prop:=
 ∀(E:XK)(As:ag)(H:Hp)(Z:aq)(ts:aw)(xs:a_)(A:av)(Q:VK),(∀a,Z a->H a≠none)->Reps K cn H Z ts xs A->WpE K cn E As H Z [] Q (f ts)->r xs H Q
def bU(f:bt)(r:bb):Fr->Res T:=λU=>(r U).bind f
theorem ew8(hr:xY K cn r f)(ha:RAB Jn K cn E ta a):RE Jn K cn E [] (tCB r ta) (bU f a):=λAs H Z U O F Q w=>by
 unfold bU at w;refine ha As H Z U O F _ ?_;cases e:a U with
 |ok ts=>rw[e]at w;exact λvs H1 Z1 B m p=>hr E As H1 Z1 ts vs B Q m.zi p (WpE.mo F w m)
 |ex x=>rw[e]at w;exact w
 |no=>rw[e]at w;exact w
def RMR(K:A5)(cn:aa)(ty:String)(r:bh)(f:T->List T->Res T):Prop:=
 ∀(E:XK)(As:ag)(H:Hp)(Z:aq)(t:T)(ts:aw)(x:V)(xs:a_)(A B:av)(Q:VK),(∀a,Z a->H a≠none)->Rep K cn H Z t x A->Reps K cn H Z ts xs B->WpE K cn E As H Z [] Q (f t ts)->r x xs H Q
def dBM(ok:T->Bool)(f:T->List T->Res T)(o:a8)(r:bb):Fr->Res T:=λU=>(o U).bind λt=>if ok t=true then(r U).bind λts=>f t ts else .no
def bm8:T->Bool
 |.str _=>true
 |_=>false
def bh0:T->Bool
 |.lst _ _=>true
 |_=>false
theorem do0(h:bm8 t=true)(r:Rep K cn H Z t v B):tyV K "str" v H:=by
 cases t with
 |str x=>simp only[Rep]at r;obtain⟨rfl,_⟩:=r;rfl
 |_=>cases h
theorem Rep.lstSq(r:Rep K cn H Z (.lst o ts) v B):∃a vs C,v=.ref a/\SqS K H a vs/\Reps K cn H Z ts vs C/\C.Sublist B:=by
 cases o with
 |true=>simp only[Rep]at r;obtain⟨a,vs,C,rfl,rfl,e,r⟩:=r;exact⟨a,vs,C,rfl,.inl (.inl e),r,V4 _ _⟩
 |false=>simp only[Rep]at r;obtain⟨a,vs,rfl,rfl,e,r⟩:=r;exact⟨a,vs,[],rfl,e.sqS,r,List.Sublist.slnil⟩
theorem dk0(h:bh0 t=true)(r:Rep K cn H Z t v B):tyV K "list" v H:=by
 cases t with
 |lst o xs=>refine z32 r.lstSq λa vs C zz s _=>?_;subst zz;exact .inl ⟨rfl,vs,s.sq⟩
 |_=>cases h
theorem de7(hty:∀{H:Hp}{Z:aq}{t:T}{v:V}{B:av},ok t=true->Rep K cn H Z t v B->tyV K ty v H)(hr:RMR K cn ty r f)
 (ho:RB Jn K cn E to o)(ha:RAB Jn K cn E ta a):RE Jn K cn E [] (tBM K ty r to ta) (dBM ok f o a):=λAs H Z U O F Q w=>by
 unfold dBM at w;refine ho As H Z U O F _ ?_;cases e:o U with
 |ok t=>
  rw[e]at w;intro v H1 Z1 B p;simp only[Res.bind]at w;split at w
  . next hok=>
    refine⟨hty hok p.rep,ha As H1 Z1 U O (F.mo p.mo) _ ?_⟩;cases e2:a U with
    |ok ts=>rw[e2]at w;exact λvs H2 Z2 B2 m r2=>hr E As H2 Z2 t ts v vs B B2 Q m.zi (p.rep.same m.same m.zz) r2 (WpE.mo F w (p.mo.trans m))
    |ex x=>rw[e2]at w;exact WpX.ev w p.mo.ev
    |no=>rw[e2]at w;exact w
  . exact w.elim
 |ex x=>rw[e]at w;exact w
 |no=>rw[e]at w;exact w
def bO(K:A5)(cn:aa)(n:Nat)(F:bt):Sp:=λvs H Q E=>vs.length=n/\∃ts Z,(∀a,Z a->H a≠none)/\Reps K cn H Z ts vs []/\WpE K cn E [] H Z [] Q (F ts)
def aW(n:Nat)(F:bt)(r:bb):Fr->Res T:=λU=>(r U).bind λts=>if ts.length=n then match F (frzs ts)with
 |.ok t=>if(cT t||bB ts)=true then .ok t else .no
 |_=>.no else .no
theorem ek7(ha:RAB Jn K cn E ta a):RE Jn K cn E [] (cl6 (bO K cn n G) ta) (aW n G a):=λAs H Z U O F Q w=>by
 unfold aW at w;refine ha As H Z U O F _ ?_;cases e:a U with
 |ok ts=>
  rw[e]at w;intro vs H1 Z1 B m r1;simp only[Res.bind]at w;split at w
  . next hn=>
    refine⟨by rw[Reps.length ts r1,hn],frzs ts,(λa=>Z1 a\/a∈B),λa h=>?_,Reps.frz ts r1 (λa h=>.inl h) (λa h=>.inr h),?_⟩
    . rcases h with h|h
      . exact m.zi a h
      . obtain⟨o,q,_⟩:=Reps.dom ts r1 a h;rw[q];exact(λz=>nomatch z)
    cases e2:G (frzs ts)with
    |ok t=>
     rw[e2]at w;intro v H2 Z2 C p;simp only at w;split at w
     . next hc=>
       rw[V8]at hc;have bn:∀b∈C,H1 b=none:=λb hb=>(p.bn b hb).resolve_right (λ⟨i,hi,_⟩=>by cases hi);by_cases hcl:cT t=true
       . refine w v H2 Z1 C ⟨m.same.trans p.same,m.zz,λa h=>m.zn a h,λa h=>?_,Rep.any t hcl p.rep,p.nd,λb hb z=>?_,λb hb=>.inl (m.same.free (bn b hb))⟩
         . intro q;exact m.zi a h (p.same.free q)
         . exact m.zi b z (bn b hb)
       . have hno:=hc.resolve_left hcl;have hB:=Reps.bare ts hno r1;subst hB;refine w v H2 Z2 C ⟨m.same.trans p.same,λa h=>p.zz a (.inl (m.zz a h)),λa h=>?_,p.zi,p.rep,p.nd,p.bz,λb hb=>.inl (m.same.free (bn b hb))⟩;rcases p.zn a h with(h|h)|h
         . exact m.zn a h
         . cases h
         . exact .inr (m.same.free h)
     . exact w.elim
    |ex x=>rw[e2]at w;exact w.elim
    |no=>rw[e2]at w;exact w.elim
  . exact w.elim
 |ex x=>rw[e]at w;exact w
 |no=>rw[e]at w;exact w
def WpO(K:A5)(cn:aa)(E:XK)(As:ag)(H:Hp)(Z:aq)(Q:Option Int->Hp->Prop):Res (Option Int)->Prop
 |.ok o=>∀H' Z',Mo H Z H' Z'->Q o H'
 |.ex x=>WpX K cn E As H Z x
 |.no=>False
def RO(Jn:gX)(K:A5)(cn:aa)(E:XK)(t:TO)(d:da):Prop:=∀As H Z U O,Frm Jn K cn H Z U O As->∀Q,WpO K cn E As H Z Q (d U)->t O H Q
def lD:Fr->Res (Option Int):=λ_=>.ok none
def toI:T->Res (Option Int)
 |.int i=>.ok (some i)
 |_=>.no
def lH(a:a8):Fr->Res (Option Int):=λU=>(a U).bind toI
def df9:RO Jn K cn E cs4 lD:=λAs H Z U O F Q w=>w H Z F.mo0
theorem ex0(ha:RB Jn K cn E te a):RO Jn K cn E (dy7 te) (lH a):=λAs H Z U O F Q w=>by
 unfold lH at w;refine ha As H Z U O F _ ?_;cases e:a U with
 |ok t=>
  rw[e]at w;intro v H1 Z1 B p;cases t with
  |int i=>have q:=p.rep;simp only[Rep]at q;obtain⟨rfl,rfl⟩:=q;exact⟨i,rfl,w H1 Z1 p.mo⟩
  |_=>exact False.elim w
 |ex x=>rw[e]at w;exact w
 |no=>rw[e]at w;exact w
def RSR(K:A5)(cn:aa)(r:b8)(f:dc):Prop:=
 ∀(E:XK)(As:ag)(H:Hp)(Z:aq)(t:T)(x:V)(A:av)(lo hi:a9)(Q:VK),(∀a,Z a->H a≠none)->Rep K cn H Z t x A->WpE K cn E As H Z [] Q (f t lo hi)->r x lo hi H Q
def yA(f:dc)(a:a8)(l h:da):Fr->Res T:=λU=>(a U).bind λt=>(l U).bind λlo=>(h U).bind λhi=>f t lo hi
theorem fv1(hr:RSR K cn r f)(ha:RB Jn K cn E te a)(hl:RO Jn K cn E tl l)(hh:RO Jn K cn E th h):RE Jn K cn E [] (tSl r te tl th) (yA f a l h):=λAs H Z U O F Q w=>by
 unfold yA at w;refine ha As H Z U O F _ ?_;cases e:a U with
 |ok t=>
  rw[e]at w;intro v H1 Z1 B p;refine hl As H1 Z1 U O (F.mo p.mo) _ ?_;simp only[Res.bind]at w;cases e2:l U with
  |ok lo=>
   rw[e2]at w;intro H2 Z2 m2;have m12:=p.mo.trans m2;refine hh As H2 Z2 U O (F.mo m12) _ ?_;simp only at w;cases e3:h U with
   |ok hi=>rw[e3]at w;intro H3 Z3 m3;exact hr E As H3 Z3 t v B lo hi Q m3.zi (p.rep.same (m2.same.trans m3.same) λa h=>m3.zz a (m2.zz a h)) (WpE.mo F w (m12.trans m3))
   |ex x=>rw[e3]at w;exact WpX.ev w m12.ev
   |no=>rw[e3]at w;exact w
  |ex x=>rw[e2]at w;exact WpX.ev w p.mo.ev
  |no=>rw[e2]at w;exact w
 |ex x=>rw[e]at w;exact w
 |no=>rw[e]at w;exact w
def SqF(fz k:Bool)(K:A5)(H:Hp)(Z:aq)(l:Addr)(xs:a_):Prop:=cond k (SqT K H l xs) (if fz=true then FzL K H Z l xs else SqL K H l xs)
def lW(ts us:aw):List T:=List.zipWith (λt u=>T.tup [t,u]) ts us
def ad6(ts:aw):List T:=List.zipWith (λi t=>T.tup [.int (i:Nat),t]) (List.range ts.length) ts
def Src(K:A5)(cn:aa)(fz:Bool)(H:Hp)(Z:aq)(J:It)(ts:aw):Prop:=
 (∃a vs,J=Itl K a/\(if fz=true then FzL K H Z a vs else SqL K H a vs)/\Reps K cn H Z ts vs [])\/
 (∃a vs,J=Itt K a/\SqT K H a vs/\Reps K cn H Z ts vs [])\/
 (∃(lo:Int)(n:Nat),J=Itr lo n/\ts=(List.range n).map λi=>T.int (lo+(i:Nat)))\/
 (∃z:Str,J=Its z/\ts=z.cps.toList.map λc=>T.str ⟨#[c]⟩)\/
 (∃k1 k2 l1 l2 vs ws us us',J=Itz K k1 k2 l1 l2/\SqF fz k1 K H Z l1 vs/\SqF fz k2 K H Z l2 ws/\Reps K cn H Z us vs []/\Reps K cn H Z us' ws []/\ts=lW us us')\/
 (∃l vs us,J=Ite K l/\SqF fz false K H Z l vs/\Reps K cn H Z us vs []/\ts=ad6 us)
theorem bk2(h:if fz=true then FzL K H Z a vs else SqL K H a vs):SqL K H a vs:=by
 cases fz with
 |true=>rw[E3 rfl]at h;exact h.sq
 |false=>rw[D7 X5]at h;exact h
theorem SqF.sq(h:SqF fz k K H Z l xs):SqK k K H l xs:=by
 cases k with
 |true=>exact h
 |false=>exact bk2 h
theorem bf5:∀{us us':aw}{i:Nat},(lW us us')[i]?=some t->∃t1 t2,us[i]?=some t1/\us'[i]?=some t2/\t=.tup [t1,t2]:=by
 intro us us' i h;unfold lW at h;rw[List.getElem?_zipWith]at h;cases h1:us[i]? with
 |none=>rw[h1]at h;cases h
 |some t1=>
  cases h2:us'[i]? with
  |none=>rw[h1,h2]at h;cases h
  |some t2=>rw[h1,h2]at h;exact⟨t1,t2,rfl,rfl,(G0 h).symm⟩
def ac4(us us':aw):(lW us us').length=min us.length us'.length:=by simp[lW]
def bv4(us:aw):(ad6 us).length=us.length:=by simp[ad6]
theorem bn5{t:T}{us:aw}{i:Nat}(h:(ad6 us)[i]?=some t):∃t2,us[i]?=some t2/\t=.tup [.int i,t2]:=by
 unfold ad6 at h;rw[List.getElem?_zipWith]at h;cases h2:us[i]? with
 |none=>rw[h2]at h;cases q:(List.range us.length)[i]?<;>rw[q]at h<;>cases h
 |some t2=>have hi:=(D3.mp h2).1;rw[h2,G7 hi]at h;exact⟨t2,rfl,(G0 h).symm⟩
def bd8(ex:x=.ref p)(hp:H p=some (.tup [v1,v2]))(h1:Rep K cn H Z t1 v1 [])(h2:Rep K cn H Z t2 v2 []):Rep K cn H Z (.tup [t1,t2]) x []:=by simp only[Rep];refine⟨p,[v1,v2],ex,SqT.of hp,?_⟩;simp only[Reps];exact⟨v1,[v2],[],[],rfl,rfl,h1,v2,[],[],[],rfl,rfl,h2,rfl,rfl⟩
def Src.turn{fz:Bool}{H:Hp}{Z:aq}{J:It}{ts:aw}{i:Nat}{t:T}(h:Src K cn fz H Z J ts)(zi:∀a,Z a->H a≠none)(e:ts[i]?=some t):J.go i H/\∀x H',J.yld i H x H'->Mo H Z H' Z/\Rep K cn H' Z t x []:=by
 have m0:Mo H Z H Z:=⟨Same.refl _,λ_ h=>h,λ_ h=>.inl h,zi⟩;rcases h with⟨a,vs,rfl,hs,r⟩|⟨a,vs,rfl,hs,r⟩|⟨lo,n,rfl,rfl⟩|⟨z,rfl,rfl⟩|⟨k1,k2,l1,l2,vs,ws,us,us',rfl,q1,q2,r1,r2,rfl⟩|⟨l,vs,us,rfl,q1,r1,rfl⟩
 . refine z23 (Reps.get ts r e) λv B ev rv hB _=>?_;have hs:=bk2 hs;have eB:B=[]:=N3.mpr λb hb=>by cases hB b hb
   subst eB;refine⟨⟨vs,v,hs,ev⟩,λx H' ⟨e1,e2⟩=>⟨e1▸m0,?_⟩⟩;subst e1;have:=e2 vs hs;rw[ev]at this;cases this;exact rv
 . refine z23 (Reps.get ts r e) λv B ev rv hB _=>?_;have eB:B=[]:=N3.mpr λb hb=>by cases hB b hb
   subst eB;refine⟨⟨vs,v,hs,ev⟩,λx H' ⟨e1,e2⟩=>⟨e1▸m0,?_⟩⟩;subst e1;have:=e2 vs hs;rw[ev]at this;cases this;exact rv
 . rw[C8]at e;cases q:(List.range n)[i]? with
   |none=>rw[q]at e;cases e
   |some j=>rw[q]at e;obtain⟨h1,h2⟩:=D3.mp q;simp at h1 h2;subst h2;cases e;refine⟨h1,λx H' ⟨e1,e2⟩=>⟨e1▸m0,?_⟩⟩;subst e1;subst e2;simp[Rep]
 . rw[C8]at e;cases q:z.cps.toList[i]? with
   |none=>rw[q]at e;cases e
   |some c=>rw[q]at e;cases e;have h1:=(D3.mp q).1;refine⟨show i<z.cps.size by simpa using h1,λx H' ⟨e1,c',e2,e3⟩=>⟨e1▸m0,?_⟩⟩;subst e1;rw[<-Q5]at e2;rw[q]at e2;cases e2;subst e3;simp[Rep]
 . refine z22 (bf5 e) λt1 t2 e1 e2 zz=>?_;subst zz;refine z23 (Reps.get us r1 e1) λv1 B1 ev1 rv1 hB1 _=>?_;refine z23 (Reps.get us' r2 e2) λv2 B2 ev2 rv2 hB2 _=>?_;have n1:B1=[]:=N3.mpr λb hb=>by cases hB1 b hb
   have n2:B2=[]:=N3.mpr λb hb=>by cases hB2 b hb
   subst n1 n2;refine⟨⟨vs,ws,v1,v2,q1.sq,q2.sq,ev1,ev2⟩,λx H' ⟨p,hp,ex,h⟩=>?_⟩;refine z22 (h vs ws q1.sq q2.sq) λy1 y2 f1 f2 zz=>?_;subst zz;rw[ev1]at f1;rw[ev2]at f2;cases f1;cases f2;have m:=Mo.new (.tup [v1,v2]) hp zi;exact⟨m,bd8 ex gC (rv1.same m.same m.zz) (rv2.same m.same m.zz)⟩
 . obtain⟨t2,e2,rfl⟩:=bn5 e;refine z23 (Reps.get us r1 e2) λv2 B2 ev2 rv2 hB2 _=>?_;have n2:B2=[]:=N3.mpr λb hb=>by cases hB2 b hb
   subst n2;refine⟨⟨vs,v2,q1.sq,ev2⟩,λx H' ⟨p,hp,ex,h⟩=>?_⟩;obtain⟨y2,f2,rfl⟩:=h vs q1.sq;rw[ev2]at f2;cases f2;have m:=Mo.new (.tup [.int i,v2]) hp zi;exact⟨m,bd8 ex gC (by simp[Rep]) (rv2.same m.same m.zz)⟩
theorem Src.stop(h:Src K cn fz H Z J ts)(e:ts.length<=i):J.stop i H:=by
 rcases h with⟨a,vs,rfl,hs,r⟩|⟨a,vs,rfl,hs,r⟩|⟨lo,n,rfl,rfl⟩|⟨z,rfl,rfl⟩|⟨k1,k2,l1,l2,vs,ws,us,us',rfl,q1,q2,r1,r2,rfl⟩|⟨l,vs,us,rfl,q1,r1,rfl⟩
 . exact⟨vs,bk2 hs,by rw[Reps.length ts r];exact e⟩
 . exact⟨vs,hs,by rw[Reps.length ts r];exact e⟩
 . show n<=i;simpa using e
 . have:z.cps.size<=i:=by simpa using e
   exact this
 . refine⟨vs,ws,q1.sq,q2.sq,?_⟩;rw[Reps.length us r1,Reps.length us' r2];rw[ac4]at e;omega
 . refine⟨vs,q1.sq,?_⟩;rw[Reps.length us r1];rw[bv4]at e;exact e
def Same.sqT(e:Same H H')(h:SqT K H a xs):SqT K H' a xs:=SqT.keep h λb o q _=>e b o q
theorem SqF.mo(h:SqF fz k K H Z l xs)(m:Mo H Z H' Z'):SqF fz k K H' Z' l xs:=by
 cases k with
 |true=>exact Same.sqT m.same h
 |false=>
  cases fz with
  |true=>exact FzL.keep (show FzL K H Z l xs from h) (λb o q _=>m.same b o q) m.zz
  |false=>exact m.same.seq (show SqL K H l xs from h)
theorem SqF.kept(h:SqF true k K H Z l xs)(kz:∀b o,H b=some o->(Z b\/tY o=true)->H' b=some o)(hz:∀a,Z a->Z' a):SqF true k K H' Z' l xs:=by
 cases k with
 |true=>exact SqT.keep (show SqT K H l xs from h) λb o q c=>kz b o q (.inr c)
 |false=>exact FzL.keep (show FzL K H Z l xs from h) kz hz
theorem Src.mo(h:Src K cn fz H Z J ts)(m:Mo H Z H' Z'):Src K cn fz H' Z' J ts:=by
 rcases h with⟨a,vs,rfl,hs,r⟩|⟨a,vs,rfl,hs,r⟩|h|h|⟨k1,k2,l1,l2,vs,ws,us,us',rfl,q1,q2,r1,r2,rfl⟩|⟨l,vs,us,rfl,q1,r1,rfl⟩
 . refine .inl ⟨a,vs,rfl,?_,r.same m.same m.zz⟩;cases fz with
   |true=>rw[E3 rfl]at hs⊢;exact hs.keep (λb o q _=>m.same b o q) m.zz
   |false=>rw[D7 X5]at hs⊢;exact m.same.seq hs
 . exact .inr (.inl ⟨a,vs,rfl,Same.sqT m.same hs,r.same m.same m.zz⟩)
 . exact .inr (.inr (.inl h))
 . exact .inr (.inr (.inr (.inl h)))
 . exact .inr (.inr (.inr (.inr (.inl ⟨k1,k2,l1,l2,vs,ws,us,us',rfl,q1.mo m,q2.mo m,r1.same m.same m.zz,r2.same m.same m.zz,rfl⟩))))
 . exact .inr (.inr (.inr (.inr (.inr ⟨l,vs,us,rfl,q1.mo m,r1.same m.same m.zz,rfl⟩))))
def Src.ev(h:Src K cn true H Z J ts)(F:Frm Jn K cn H Z U O As)(e:Ev As H Z As' H' Z'):Src K cn true H' Z' J ts:=by
 have kz:∀b o,H b=some o->(Z b\/tY o=true)->H' b=some o:=λb o q c=>e.keep b o q λhb=>by
  rcases c with c|c
  . exact F.nz b hb c
  . obtain⟨o',q',i'⟩:=F.sl.dom b hb;rw[q]at q';cases q';rw[c]at i';cases i'
 rcases h with⟨a,vs,rfl,hs,r⟩|⟨a,vs,rfl,hs,r⟩|h|h|⟨k1,k2,l1,l2,vs,ws,us,us',rfl,q1,q2,r1,r2,rfl⟩|⟨l,vs,us,rfl,q1,r1,rfl⟩
 . rw[E3 rfl]at hs;refine .inl ⟨a,vs,rfl,?_,Reps.keep ts r (λb o q c=>kz b o q (c.resolve_left ((λz=>nomatch z)))) e.zz⟩;rw[E3 rfl];exact hs.keep kz e.zz
 . exact .inr (.inl ⟨a,vs,rfl,SqT.keep hs (λb o q c=>kz b o q (.inr c)),Reps.keep ts r (λb o q c=>kz b o q (c.resolve_left ((λz=>nomatch z)))) e.zz⟩)
 . exact .inr (.inr (.inl h))
 . exact .inr (.inr (.inr (.inl h)))
 . exact .inr (.inr (.inr (.inr (.inl ⟨k1,k2,l1,l2,vs,ws,us,us',rfl,q1.kept kz e.zz,q2.kept kz e.zz,Reps.keep us r1 (λb o q c=>kz b o q (c.resolve_left ((λz=>nomatch z)))) e.zz,Reps.keep us' r2 (λb o q c=>kz b o q (c.resolve_left ((λz=>nomatch z)))) e.zz,rfl⟩))))
 . exact .inr (.inr (.inr (.inr (.inr ⟨l,vs,us,rfl,q1.kept kz e.zz,Reps.keep us r1 (λb o q c=>kz b o q (c.resolve_left ((λz=>nomatch z)))) e.zz,rfl⟩))))
def WpI(K:A5)(cn:aa)(E:XK)(fz:Bool)(As:ag)(H:Hp)(Z:aq)(R:It->Hp->Prop):Res (List T)->Prop
 |.ok ts=>∀J H' Z',Mo H Z H' Z'->Src K cn fz H' Z' J ts->R J H'
 |.ex x=>WpX K cn E As H Z x
 |.no=>False
def RI(Jn:gX)(K:A5)(cn:aa)(E:XK)(fz:Bool)(wi:TI)(d:bb):Prop:=∀As H Z U O,Frm Jn K cn H Z U O As->∀R,WpI K cn E fz As H Z R (d U)->wi O H R
noncomputable def gate{α:Type}(p:Prop)(a:Res α):Res α:=@ite _ p (Classical.propDecidable p) a .no
def eO(h:p):gate p a=a:=by unfold gate;rw[E3 h]
theorem WpI.gate(w:WpI K cn E fz As H Z R (TL.gate p r)):p/\WpI K cn E fz As H Z R r:=by
 unfold TL.gate at w;split at w
 . exact⟨by assumption,w⟩
 . exact w.elim
theorem WpE.gate(w:WpE K cn E As H Z mv Q (TL.gate p r)):p/\WpE K cn E As H Z mv Q r:=by
 unfold TL.gate at w;split at w
 . exact⟨by assumption,w⟩
 . exact w.elim
def cK(lo:Int)(n:Nat):List T:=(List.range n).map λi=>T.int (lo+(i:Nat))
noncomputable def eZ:List T->Res (List T)
 |[.int j]=>gate (-(2^62)<=j/\j<2^62) (.ok (cK 0 j.toNat))
 |_=>.no
noncomputable def co5:List T->Res (List T)
 |[.int i,.int j]=>gate (-(2^62)<=i/\i<2^62/\-(2^62)<=j/\j<2^62) (.ok (cK i (j-i).toNat))
 |_=>.no
def fP(f:List T->Res (List T))(a:bb):Fr->Res (List T):=λU=>(a U).bind f
def Reps.ints1(r:Reps K cn H Z [.int i] vs A):vs=[.int i]:=by simp only[Reps,Rep]at r;obtain⟨v,w,B,C,rfl,rfl,⟨rfl,rfl⟩,rfl,rfl⟩:=r;rfl
def Reps.ints2(r:Reps K cn H Z [.int i,.int j] vs A):vs=[.int i,.int j]:=by simp only[Reps,Rep]at r;obtain⟨v,w,B,C,rfl,rfl,⟨rfl,rfl⟩,v2,w2,B2,C2,rfl,rfl,⟨rfl,rfl⟩,rfl,rfl⟩:=r;rfl
theorem dc9(ha:RAB Jn K cn E ta a):RI Jn K cn E fz (dc7 ta) (fP eZ a):=λAs H Z U O F R w=>by
 unfold fP at w;refine ha As H Z U O F _ ?_;cases e:a U with
 |ok ts=>
  rw[e]at w;intro vs H1 Z1 B m r;simp only[Res.bind]at w;unfold eZ at w;split at w
  . next j=>
    obtain⟨hb,w⟩:=w.gate;exact⟨j,r.ints1,hb.1,hb.2,w (Itr 0 j.toNat) H1 Z1 m (.inr (.inr (.inl ⟨0,j.toNat,rfl,rfl⟩)))⟩
  . exact w.elim
 |ex x=>rw[e]at w;exact w
 |no=>rw[e]at w;exact w
theorem ev0(ha:RAB Jn K cn E ta a):RI Jn K cn E fz (dr7 ta) (fP co5 a):=λAs H Z U O F R w=>by
 unfold fP at w;refine ha As H Z U O F _ ?_;cases e:a U with
 |ok ts=>
  rw[e]at w;intro vs H1 Z1 B m r;simp only[Res.bind]at w;unfold co5 at w;split at w
  . next i j=>
    obtain⟨hb,w⟩:=w.gate;exact⟨i,j,r.ints2,hb,w (Itr i (j-i).toNat) H1 Z1 m (.inr (.inr (.inl ⟨i,_,rfl,rfl⟩)))⟩
  . exact w.elim
 |ex x=>rw[e]at w;exact w
 |no=>rw[e]at w;exact w
def iV(K:A5)(tl:TE):TI:=λO H R=>tl O H λx H1=>(∃a,x=.ref a/\(((∃xs,SqL K H1 a xs)/\R (Itl K a) H1)\/((∃xs,SqT K H1 a xs)/\R (Itt K a) H1)))\/∃z,x=.str z/\R (Its z) H1
def jJ:T->Res (List T)
 |.lst _ ts=>if bB ts=true then .ok ts else .no
 |.tup ts=>if bB ts=true then .ok ts else .no
 |.str z=>.ok (z.cps.toList.map λc=>T.str ⟨#[c]⟩)
 |_=>.no
def vS:T->Res (List T)
 |.lst o ts=>if(!o&&bB ts)=true then .ok ts else .no
 |.tup ts=>if bB ts=true then .ok ts else .no
 |.str z=>.ok (z.cps.toList.map λc=>T.str ⟨#[c]⟩)
 |_=>.no
def gS(f:T->Res (List T))(a:a8):Fr->Res (List T):=λU=>(a U).bind f
def Reps.bareE(r:Reps K cn H Z ts vs A)(h:bB ts=true):Reps K cn H Z ts vs []:=by have:=Reps.bare ts h r;subst this;exact r
theorem fa3(ha:RB Jn K cn E tl a):RI Jn K cn E false (iV K tl) (gS jJ a):=λAs H Z U O F R w=>by
 unfold gS at w;refine ha As H Z U O F _ ?_;cases e:a U with
 |ok t=>
  rw[e]at w;intro v H1 Z1 B p;simp only[Res.bind]at w;cases t with
  |lst o ts=>
   simp only[jJ]at w;split at w
   . next hn=>
     refine z33 p.rep.lstSq λb vs C zz hs r _=>?_;subst zz;have hs:=hs.sq;exact .inl ⟨b,rfl,.inl ⟨⟨vs,hs⟩,w _ H1 Z1 p.mo (.inl ⟨b,vs,rfl,by rw[D7 X5];exact hs,r.bareE hn⟩)⟩⟩
   . exact w.elim
  |tup ts=>
   simp only[jJ]at w;split at w
   . next hn=>
     have q:=p.rep;simp only[Rep]at q;refine z22 q λb vs zz hs r=>?_;clear q;subst zz;exact .inl ⟨b,rfl,.inr ⟨⟨vs,hs⟩,w _ H1 Z1 p.mo (.inr (.inl ⟨b,vs,rfl,hs,r.bareE hn⟩))⟩⟩
   . exact w.elim
  |str z=>have q:=p.rep;simp only[Rep]at q;obtain⟨rfl,_⟩:=q;exact .inr ⟨z,rfl,w _ H1 Z1 p.mo (.inr (.inr (.inr (.inl ⟨z,rfl,rfl⟩))))⟩
  |_=>exact w.elim
 |ex x=>rw[e]at w;exact w
 |no=>rw[e]at w;exact w
theorem fc4(ha:RB Jn K cn E tl a):RI Jn K cn E true (iV K tl) (gS vS a):=λAs H Z U O F R w=>by
 unfold gS at w;refine ha As H Z U O F _ ?_;cases e:a U with
 |ok t=>
  rw[e]at w;intro v H1 Z1 B p;simp only[Res.bind]at w;cases t with
  |lst o ts=>
   simp only[vS]at w;split at w
   . next hn=>
     rw[G8]at hn;cases o with
     |true=>exact E8 hn.1 X5
     |false=>have q:=p.rep;simp only[Rep]at q;refine z23 q λb vs zz zy hs r=>?_;clear q;subst zz zy;exact .inl ⟨b,rfl,.inl ⟨⟨vs,hs.sq⟩,w _ H1 Z1 p.mo (.inl ⟨b,vs,rfl,by rw[E3 rfl];exact hs,r⟩)⟩⟩
   . exact w.elim
  |tup ts=>
   simp only[vS]at w;split at w
   . next hn=>
     have q:=p.rep;simp only[Rep]at q;refine z22 q λb vs zz hs r=>?_;clear q;subst zz;exact .inl ⟨b,rfl,.inr ⟨⟨vs,hs⟩,w _ H1 Z1 p.mo (.inr (.inl ⟨b,vs,rfl,hs,r.bareE hn⟩))⟩⟩
   . exact w.elim
  |str z=>have q:=p.rep;simp only[Rep]at q;obtain⟨rfl,_⟩:=q;exact .inr ⟨z,rfl,w _ H1 Z1 p.mo (.inr (.inr (.inr (.inl ⟨z,rfl,rfl⟩))))⟩
  |_=>exact w.elim
 |ex x=>rw[e]at w;exact w
 |no=>rw[e]at w;exact w
def ax7(fz:Bool):T->Option (List T)
 |.lst o ts=>if((!fz||!o)&&bB ts)=true then some ts else none
 |.tup ts=>if bB ts=true then some ts else none
 |_=>none
def bz8(fz:Bool):List T->Res (List T)
 |[t,u]=>match ax7 fz t,ax7 fz u with
  |some ts,some us=>.ok (lW ts us)
  |_,_=>.no
 |_=>.no
def cr5(fz:Bool):List T->Res (List T)
 |[.lst o ts]=>if((!fz||!o)&&bB ts)=true then .ok (ad6 ts)else .no
 |_=>.no
theorem ck4(r:Rep K cn H Z (.lst o ts) v A)(hc:((!fz||!o)&&bB ts)=true):∃l vs,v=.ref l/\SqF fz false K H Z l vs/\Reps K cn H Z ts vs []:=by
 rw[G8]at hc;cases o with
 |true=>
  simp only[Rep]at r;obtain⟨a,vs,B,rfl,rfl,e,r⟩:=r;cases fz with
  |true=>simp at hc
  |false=>exact⟨a,vs,rfl,SqL.of e,r.bareE hc.2⟩
 |false=>
  simp only[Rep]at r;obtain⟨a,vs,rfl,rfl,e,r⟩:=r;cases fz with
  |true=>exact⟨a,vs,rfl,e,r⟩
  |false=>exact⟨a,vs,rfl,e.sq,r⟩
theorem ca5(r:Rep K cn H Z t v A)(h:ax7 fz t=some ts):∃k l vs,v=.ref l/\SqF fz k K H Z l vs/\Reps K cn H Z ts vs []:=by
 cases t with
 |lst o us=>
  simp only[ax7]at h;split at h
  . next hc=>
    cases h;exact⟨false,ck4 r hc⟩
  . cases h
 |tup us=>
  simp only[ax7]at h;split at h
  . next hc=>
    cases h;simp only[Rep]at r;obtain⟨a,vs,rfl,e,r⟩:=r;exact⟨true,a,vs,rfl,e,r.bareE hc⟩
  . cases h
 |_=>simp[ax7]at h
theorem eu6(ha:RAB Jn K cn E ta a):RI Jn K cn E fz (dg2 K ta) (fP (bz8 fz) a):=λAs H Z U O F R w=>by
 unfold fP at w;refine ha As H Z U O F _ ?_;cases e:a U with
 |ok ts=>
  rw[e]at w;intro vs H1 Z1 B m r1;simp only[Res.bind]at w;unfold bz8 at w;split at w
  . next t u=>
    split at w
    . next p q h1 h2=>
      simp only[Reps]at r1;obtain⟨v,r',B1,C1,rfl,rfl,ra,v2,r2,B2,C2,rfl,rfl,rb,rfl,rfl⟩:=r1;refine z32 (ca5 ra h1) λk1 l1 us zz s1 p1=>?_;subst zz;refine z32 (ca5 rb h2) λk2 l2 us' zz s2 p2=>?_;subst zz;exact⟨k1,k2,l1,l2,rfl,⟨_,s1.sq⟩,⟨_,s2.sq⟩,w _ H1 Z1 m (.inr (.inr (.inr (.inr (.inl ⟨k1,k2,l1,l2,us,us',_,_,rfl,s1,s2,p1,p2,rfl⟩)))))⟩
    . exact w.elim
  . exact w.elim
 |ex x=>rw[e]at w;exact w
 |no=>rw[e]at w;exact w
theorem ez2(ha:RAB Jn K cn E ta a):RI Jn K cn E fz (cv5 K ta) (fP (cr5 fz) a):=λAs H Z U O F R w=>by
 unfold fP at w;refine ha As H Z U O F _ ?_;cases e:a U with
 |ok ts=>
  rw[e]at w;intro vs H1 Z1 B m r1;simp only[Res.bind]at w;unfold cr5 at w;split at w
  . next o ts=>
    split at w
    . next hc=>
      simp only[Reps]at r1;refine z44 r1 λv r' B1 C1 zz zy ra zx zw=>?_;clear r1;subst zz zy zx zw;refine z22 (ck4 (fz:=fz) ra hc) λl1 us zz s1 p1=>?_;subst zz;exact⟨l1,rfl,⟨_,s1.sq⟩,w _ H1 Z1 m (.inr (.inr (.inr (.inr (.inr ⟨l1,us,_,rfl,s1,p1,rfl⟩)))))⟩
    . exact w.elim
  . exact w.elim
 |ex x=>rw[e]at w;exact w
 |no=>rw[e]at w;exact w
def RG(Jn:gX)(K:A5)(cn:aa)(ks:az)(g:TG)(b:bq):Prop:=
 ∀As H Z U O t v B,Frm Jn K cn H Z U O As->Rep K cn H Z t v B->B.Nodup->(∀x∈B,¬Z x)->(∀x∈B,x∉As.flatten)->∀(Q:c7) ρ',b t U=some ρ'->
  (∀σ' As',Frm Jn K cn H Z ρ' σ' As'->(∀a∈As'.flatten,a∈As.flatten\/a∈B)->σ'.length=O.length->(∀i,i∉ks->σ'[i]?=O[i]?)->Q σ' H)->g v O H Q
structure RGs (Jn:gX) (K:A5) (cn:aa) (ks:az) (n:Nat) (g:TGs) (b:cj):Prop where
 len:∀ts U ρ',b ts U=some ρ'->ts.length=n
 run:∀As H Z U O ts vs B,Frm Jn K cn H Z U O As->Reps K cn H Z ts vs B->B.Nodup->(∀x∈B,¬Z x)->(∀x∈B,x∉As.flatten)->∀(Q:c7) ρ',b ts U=some ρ'->
  (∀σ' As',Frm Jn K cn H Z ρ' σ' As'->(∀a∈As'.flatten,a∈As.flatten\/a∈B)->σ'.length=O.length->(∀i,i∉ks->σ'[i]?=O[i]?)->Q σ' H)->g vs O H Q
def aI(i:Nat):T->Fr->Option Fr:=λt U=>some (U.set i (some t))
def fF:List T->Fr->Option Fr
 |[],U=>some U
 |_::_,_=>none
def bE(b:bq)(bs:cj):List T->Fr->Option Fr
 |[],_=>none
 |t::ts,U=>match b t U with
  |some ρ1=>bs ts ρ1
  |none=>none
def eX(bs:cj):T->Fr->Option Fr
 |.tup ts,U=>bs ts U
 |_,_=>none
def cm4(i:Nat)(hJ:xM Jn i=true:=by rfl):RG Jn K cn [i] (ag6 i) (aI i):=λAs H Z U O t v B F r nd bz bo Q ρ' e h=>by cases e;refine h _ (As.set i B) (F.set r nd bz i (λb hb hA=>E8 hA (bo b hb)) hJ) (λa ha=>(eW ha).symm) (by rw[N7]) λj hj=>?_;rw[J9 (λz=>hj (by rw[z];exact B7))]
def ei2:RGs Jn K cn [] 0 eg7 fF where
 len:=λts U ρ' e=>by
  cases ts with
  |nil=>rfl
  |cons _ _=>cases e
 run:=λAs H Z U O ts vs B F r nd bz bo Q ρ' e h=>by
  cases ts with
  |nil=>cases e;simp only[Reps]at r;exact⟨r.1,h O As F (λa ha=>.inl ha) rfl λ_ _=>rfl⟩
  |cons _ _=>cases e
def dr3(h1:RG Jn K cn ks g b)(h2:RGs Jn K cn ls n gs bs):RGs Jn K cn (ks++ls) (n+1) (ck6 g gs) (bE b bs) where
 len:=λts U ρ' e=>by
  cases ts with
  |nil=>cases e
  |cons t ts=>
   simp only[bE]at e;cases e1:b t U with
   |none=>rw[e1]at e;cases e
   |some ρ1=>rw[e1]at e;rw[G5,h2.len ts ρ1 ρ' e]
 run:=λAs H Z U O ts vs B F r nd bz bo Q ρ' e h=>by
  cases ts with
  |nil=>cases e
  |cons t ts=>
   simp only[bE]at e;cases e1:b t U with
   |none=>rw[e1]at e;cases e
   |some ρ1=>
    rw[e1]at e;simp only[Reps]at r;refine z43 r λv vs' B1 B2 zz zy r1 r2=>?_;clear r;subst zz zy;rw[D8]at nd;refine⟨v,vs',rfl,h1 As H Z U O t v B1 F r1 nd.1 (λx hx=>bz x (D9 _ hx)) (λx hx=>bo x (D9 _ hx)) _ ρ1 e1 λσ1 As1 F1 o1 l1 k1=>?_⟩;refine h2.run As1 H Z ρ1 σ1 ts vs' B2 F1 r2 nd.2.1 (λx hx=>bz x (C6 _ hx)) (λx hx hA=>?_) Q ρ' e λσ2 As2 F2 o2 l2 k2=>?_
    . rcases o1 x hA with z|z
      . exact bo x (C6 _ hx) z
      . exact nd.2.2 x z x hx rfl
    . refine h σ2 As2 F2 (λa ha=>?_) (l2.trans l1) λi hi=>?_
      . rcases o2 a ha with z|z
        . exact(o1 a z).imp_right (D9 _)
        . exact .inr (C6 _ z)
      . rw[k2 i (λz=>hi (C6 _ z)),k1 i (λz=>hi (D9 _ z))]
theorem eo6(h:RGs Jn K cn ks n gs bs):RG Jn K cn ks (db6 K n gs) (eX bs):=λAs H Z U O t v B F r nd bz bo Q ρ' e h'=>by
 cases t with
 |tup ts=>simp only[eX]at e;simp only[Rep]at r;obtain⟨a,vs,rfl,hs,r⟩:=r;exact⟨a,vs,rfl,hs,by rw[Reps.length ts r];exact h.len ts U ρ' e,h.run As H Z U O ts vs B F r nd bz bo Q ρ' e h'⟩
 |_=>cases e
def cC(b:bq)(c:bx)(d:a8)(U:Fr):List T->Res (List T)
 |[]=>.ok []
 |t::ts=>match b t U with
  |none=>.no
  |some ρ1=>(c ρ1).bind λk=>if k=true then(d ρ1).bind λu=>(cC b c d U ts).bind λus=>.ok (u::us)else cC b c d U ts
def dM(ks:az)(di:bb)(b:bq)(c:bx)(d:a8):Fr->Res T:=λU=>
 (di U).bind λts=>if ts.length<=sizeLine then(cC b c d (kills ks U) ts).bind λus=>.ok (.lst true us)else .no
def bY:Fr->Res Bool:=λ_=>.ok true
def en8:RT Jn K cn E eh3 bY:=λAs H Z U O F Q w=>w H Z F.mo0.postT
theorem Slots.clr(ks:az):∀{U:Fr}{O:St}{As:ag},Slots K cn H Z U O As->Slots K cn H Z (kills ks U) (L2.clr ks O) (gQ ks As):=by
 induction ks with
 |nil=>exact λh=>h
 |cons k ks ih=>exact λh=>ih (h.kill2 none k)
def au0(Jn:gX)(ks:az):Bool:=ks.all (xM Jn)
theorem az9:∀(ks:az){O:St},au0 Jn ks=true->(∀p∈Jn,O[p.1]?=some (some p.2))->∀p∈Jn,(L2.clr ks O)[p.1]?=some (some p.2)
 |[],_,_,q=>q
 |k::ks,O,h,q=>by unfold au0 at h;rw[U8,G8]at h;exact az9 ks h.2 (ba5 h.1 none q)
theorem Frm.clr(ks:az)(F:Frm Jn K cn H Z U O As)(hk:au0 Jn ks=true):Frm Jn K cn H Z (TL.kills ks U) (L2.clr ks O) (gQ ks As):=
 ⟨F.sl.clr ks,(F.kills ks).nd,(F.kills ks).nz,F.zi,az9 ks hk F.pn⟩
def da9(hg:RG Jn K cn ks g b)(hc:RT Jn K cn E tc c)(he:RE Jn K cn E [] te d)(hk:au0 Jn ks=true)
 (F:Frm Jn K cn H Z U O As)(hs:Src K cn false H Z J ts)(hl:ts.length<=sizeLine)
 (w:WpE K cn E As H Z [] Q ((cC b c d (kills ks U) ts).bind λus=>.ok (.lst true us))):CGo ks g tc te O (λD H'=>Q (.ref D) H') J H:=by
 let R (us:aw) (rest:aw):Res T:=(cC b c d (kills ks U) rest).bind λus'=>.ok (.lst true (us++us'));refine⟨λi m ys H'=>m=ts.length-i/\i<=ts.length/\∃us Z' B,Mo H Z H' Z'/\Reps K cn H' Z' us ys B/\B.Nodup/\(∀x∈B,¬Z' x/\H x=none)/\us.length<=i/\WpE K cn E As H Z [] Q (R us (ts.drop i)),⟨ts.length,X4,R7 _,[],Z,[],F.mo0,Reps.nil,J2,fH,C9 _,?_⟩,?_⟩
 . simpa[R]using w
 rintro i m ys H1 ⟨rfl,hi,us,Z1,B,m1,r1,nd,bz,hul,w⟩;have hyl:=Reps.length us r1;have s1:=hs.mo m1;by_cases hlt:i<ts.length
 . obtain⟨t,et⟩:∃t,ts[i]?=some t:=⟨ts[i],A6 hlt⟩;obtain⟨go,yl⟩:=s1.turn m1.zi et;have ed:ts.drop i=t::ts.drop (i+1):=by have:=D3.mp et;obtain⟨h1,h2⟩:=this;rw[<-h2];exact List.drop_eq_getElem_cons hlt
   refine .inr ⟨go,W9,_,λys' H' p'=>⟨ts.length-(i+1),W9,p'⟩,λx H' y=>?_⟩;obtain⟨my,rx⟩:=yl x H' y;have r1:=r1.same my.same my.zz;have m1:=m1.trans my;have F1:=(F.mo m1).clr ks hk;rw[ed]at w;simp only[R,cC]at w;cases eb:b t (kills ks U)with
   |none=>rw[eb]at w;exact w.elim
   |some ρ1=>
    rw[eb]at w;simp only at w;refine hg (gQ ks As) H' Z1 (kills ks U) (L2.clr ks O) t x [] F1 rx J2 (fH) (fH) _ ρ1 eb λσ2 As2 F2 o2 l2 k2=>⟨⟨?_,λj v hj=>?_⟩,?_⟩
    . rw[l2,sZ]
    . have:=(bu1 ks O hj).2;rw[k2 j this,hj]
    refine hc As2 H' Z1 ρ1 σ2 F2 _ ?_;have toX:∀{x:Exc}{H2:Hp}{Z2:aq},Mo H' Z1 H2 Z2->WpX K cn E As H Z x->WpX K cn E As2 H2 Z2 x:=by
     intro x H2 Z2 m2 h;refine h.ev (m1.trans m2).ev|>.ev ⟨λ_ _ q _=>q,λa ha=>?_,λ_ q=>q,λ_ q=>.inl q,λ_ q=>q⟩
     rcases o2 a ha with z|z
     . exact .inl (gJ z)
     . cases z
    cases ec:c ρ1 with
    |ok k=>
     rw[ec]at w;intro H2 Z2 p2;simp only[Res.bind]at w;cases k with
     |true=>
      rw[E3 rfl]at w;rw[E3 rfl];refine he As2 H2 Z2 ρ1 σ2 (F2.mo p2.mo) _ ?_;cases ee:d ρ1 with
      |ok u=>
       rw[ee]at w;intro v H3 Z3 C p3;have m3:=(m1.trans p2.mo).trans p3.mo;have bnC:∀y∈C,H2 y=none:=λy hy=>(p3.bn y hy).resolve_right (λ⟨i,hi,_⟩=>by cases hi);refine⟨rfl,hlt,us++[u],Z3,B++C,m3,Reps.append us (r1.same (p2.same.trans p3.same) (λa h=>p3.zz a (p2.zz a h))) (Reps.one p3.rep),?_,?_,by simp;omega,?_⟩
       . rw[D8];refine⟨nd,p3.nd,λx hx y hy e=>?_⟩;subst e;obtain⟨o,ho,_⟩:=Reps.dom us r1 x hx;have:=bnC x hy;rw[p2.same x o ho]at this;cases this
       . intro x hx;rcases A9.mp hx with hx|hx
         . refine⟨λz=>?_,(bz x hx).2⟩;obtain⟨o,ho,_⟩:=Reps.dom us r1 x hx;rcases(p2.mo.trans p3.mo).zn x z with z|z
           . exact(bz x hx).1 z
           . rw[ho]at z;cases z
         . exact⟨p3.bz x hx,(m1.trans p2.mo).same.free (bnC x hx)⟩
       . simp only[R];have:∀r:Res (List T),((r.bind λus'=>Res.ok (u::us')).bind λus'=>Res.ok (T.lst true (us++us')))=r.bind λus'=>Res.ok (T.lst true (us++[u]++us')):=by intro r;cases r<;>simp[Res.bind]
         simp only at w;rw[<-this];exact w
      |ex x=>rw[ee]at w;exact toX p2.mo w
      |no=>rw[ee]at w;exact w.elim
     |false=>
      rw[D7 X5]at w;rw[D7 X5];refine⟨rfl,hlt,us,Z2,B,m1.trans p2.mo,r1.same p2.same p2.zz,nd,λx hx=>⟨λz=>?_,(bz x hx).2⟩,W9,w⟩;obtain⟨o,ho,_⟩:=Reps.dom us r1 x hx;rcases p2.zn x z with z|z
      . exact(bz x hx).1 z
      . rw[ho]at z;cases z
    |ex x=>rw[ec]at w;exact toX ⟨Same.refl _,λ_ h=>h,λ_ h=>.inl h,m1.zi⟩ w
    |no=>rw[ec]at w;exact w.elim
 . have ei:i=ts.length:=W9
   subst ei;refine .inl ⟨s1.stop (C9 _),λD hD=>?_⟩;rw[List.drop_length]at w;simp only[R,cC,Res.bind,K8]at w;have hm:=m1.trans (Mo.new (.lst ys) hD m1.zi);refine w (.ref D) _ Z1 (D::B) ⟨hm.same,hm.zz,hm.zn,hm.zi,?_,?_,?_,?_⟩
   . simp only[Rep];exact⟨D,ys,B,rfl,rfl,gC,r1.same (bu8 hD _) (λ_ h=>h)⟩
   . refine G6.mpr ⟨λhb=>?_,nd⟩;obtain⟨o,ho,_⟩:=Reps.dom us r1 D hb;rw[ho]at hD;cases hD
   . intro x hx;rcases C4.mp hx with rfl|hx
     . exact λz=>m1.zi _ z hD
     . exact(bz x hx).1
   . intro x hx;rcases C4.mp hx with rfl|hx
     . exact .inl (m1.same.free hD)
     . exact .inl (bz x hx).2
theorem ce4(hi:RI Jn K cn E false wi di)(hg:RG Jn K cn ks g b)(hc:RT Jn K cn E tc c)(he:RE Jn K cn E [] te d)(hk:au0 Jn ks=true:=by rfl):
 RE Jn K cn E [] (cq5 ks wi g tc te) (dM ks di b c d):=λAs H Z U O F Q w=>by
 unfold dM at w;refine hi As H Z U O F _ ?_;cases e:di U with
 |ok ts=>
  rw[e]at w;intro J H1 Z1 m s;simp only[Res.bind]at w;split at w
  . next hl=>exact da9 hg hc he hk (F.mo m) s hl (WpE.mo F w m)
  . exact w.elim
 |ex x=>rw[e]at w;exact w
 |no=>rw[e]at w;exact w
def aP(a b:Fr->bS):Fr->bS:=λU=>match a U with
 |.nx ρ'=>b ρ'
 |o=>o
def bQ:Fr->bS:=λU=>.nx U
def ef2:RS Jn K cn E dn7 bQ:=λAs H Z U O F D w=>w O As H Z F Ev.refl
theorem en3(ha:RS Jn K cn E t a)(hb:RS Jn K cn E u b):RS Jn K cn E (et4 t u) (aP a b):=λAs H Z U O F D w=>by
 unfold aP at w;refine ha As H Z U O F _ ?_;cases e:a U with
 |nx ρ'=>rw[e]at w;exact λσ' As' H' Z' F' ev=>hb As' H' Z' ρ' σ' F' D (Wp.ev w ev)
 |bk ρ'=>rw[e]at w;exact w
 |ct ρ'=>rw[e]at w;exact w
 |rt t=>rw[e]at w;exact w
 |rm ρ' t=>rw[e]at w;exact w
 |ex x=>rw[e]at w;exact w
 |no=>rw[e]at w;exact w
def aY(mv:az)(d:a8)(b:bq):Fr->bS:=λU=>match d U with
 |.ok t=>match b t (kills mv U)with
  |some ρ'=>.nx ρ'
  |none=>.no
 |.ex x=>.ex x
 |.no=>.no
def Post.out(F:Frm Jn K cn H Z U O As)(p:Post K cn As H Z mv H' Z' t v B):∀x∈B,x∉(gQ mv As).flatten:=λx hx hA=>by
 rcases p.bn x hx with z|⟨i,hi,z⟩
 . obtain⟨o,ho,_⟩:=F.sl.dom x (gJ hA);rw[ho]at z;cases z
 . exact vX F.nd hi z hA
def Post.inA(p:Post K cn As H Z mv H' Z' t v B):∀x∈B,x∈As.flatten\/H x=none:=λx hx=>by
 rcases p.bn x hx with z|⟨i,hi,z⟩
 . exact .inr z
 . exact .inl (bC z)
theorem cj9(he:RE Jn K cn E mv te d)(hg:RG Jn K cn ks g b):RS Jn K cn E (bw2 te g) (aY mv d b):=λAs H Z U O F D w=>by
 unfold aY at w;refine he As H Z U O F _ ?_;cases e:d U with
 |ok t=>
  rw[e]at w;intro v H1 Z1 B p;simp only at w;cases eb:b t (kills mv U)with
  |none=>rw[eb]at w;exact w.elim
  |some ρ'=>
   rw[eb]at w;refine hg (gQ mv As) H1 Z1 (kills mv U) O t v B ((F.mo p.mo).kills mv) p.rep p.nd p.bz (p.out F) _ ρ' eb λσ' As' F' o' _ _=>?_;refine w σ' As' H1 Z1 F' ⟨λa o h _=>p.same a o h,λa ha=>?_,p.zz,λa h=>(p.zn a h).imp_right .inr,λa h=>p.same.free h⟩;rcases o' a ha with z|z
   . exact .inl (gJ z)
   . exact p.inA a z
 |ex x=>rw[e]at w;exact w
 |no=>rw[e]at w;exact w
def ci7(hi:RI Jn K cn E false wi di)(hg:RG Jn K cn ks g b)(hc:RT Jn K cn E tc c)(he:RE Jn K cn E [] te d)(hk:au0 Jn ks=true:=by rfl)(hJ:xM Jn k=true:=by rfl):
 RS Jn K cn E (at7 k ks wi g tc te) (aY [] (dM ks di b c d) (aI k)):=λAs H Z U O F D w=>
 cj9 (ce4 hi hg hc he hk) (cm4 k hJ) As H Z U O F D w
def bG(mv:az)(d:a8):Fr->bS:=λU=>match d U with
 |.ok t=>.rt t
 |.ex x=>.ex x
 |.no=>.no
theorem ed3(he:RE Jn K cn E mv te d):RS Jn K cn E (dv2 te) (bG mv d):=λAs H Z U O F D w=>by
 unfold bG at w;refine he As H Z U O F _ ?_;cases e:d U with
 |ok t=>rw[e]at w;intro v H1 Z1 B p;refine w v H1 Z1 B ⟨⟨λa o h _=>p.same a o h,λa ha=>?_,p.zz,λa h=>(p.zn a h).imp_right .inr,λa h=>p.same.free h⟩,p.rep,p.nd,p.bz,p.zi⟩;rw[D0,List.flatten_nil,K8]at ha;exact p.inA a ha
 |ex x=>rw[e]at w;exact w
 |no=>rw[e]at w;exact w
def cZ(c:bx)(a b:Fr->bS):Fr->bS:=λU=>match c U with
 |.ok k=>if k=true then a U else b U
 |.ex x=>.ex x
 |.no=>.no
theorem fo2(hc:RT Jn K cn E tt c)(ha:RS Jn K cn E t a)(hb:RS Jn K cn E u b):RS Jn K cn E (eb5 tt t u) (cZ c a b):=λAs H Z U O F D w=>by
 unfold cZ at w;refine hc As H Z U O F _ ?_;cases e:c U with
 |ok k=>
  rw[e]at w;intro H1 Z1 p;simp only at w;split
  . next h=>rw[E3 h]at w;exact ha As H1 Z1 U O (F.mo p.mo) D (Wp.ev w p.mo.ev)
  . next h=>rw[D7 h]at w;exact hb As H1 Z1 U O (F.mo p.mo) D (Wp.ev w p.mo.ev)
 |ex x=>rw[e]at w;exact w
 |no=>rw[e]at w;exact w
def bu7(d:a8):Fr->bS:=λU=>match d U with
 |.ok _=>.nx U
 |.ex x=>.ex x
 |.no=>.no
theorem dq9(he:RE Jn K cn E [] te d):RS Jn K cn E (bm7 te) (bu7 d):=λAs H Z U O F D w=>by
 unfold bu7 at w;refine he As H Z U O F _ ?_;cases e:d U with
 |ok t=>rw[e]at w;exact λv H1 Z1 B p=>w O As H1 Z1 (F.mo p.mo) p.mo.ev
 |ex x=>rw[e]at w;exact w
 |no=>rw[e]at w;exact w
def eg5:Fr->bS:=λU=>.bk U
def ev8:Fr->bS:=λU=>.ct U
def dI(b:bq)(body:Fr->bS):List T->Fr->bS
 |[],U=>.nx U
 |t::ts,U=>match b t U with
  |none=>.no
  |some ρ1=>match body ρ1 with
   |.nx ρ2=>dI b body ts ρ2
   |.ct ρ2=>dI b body ts ρ2
   |.bk ρ2=>.nx ρ2
   |o=>o
def fR(di:bb)(b:bq)(body:Fr->bS):Fr->bS:=λU=>match di U with
 |.ok ts=>dI b body ts U
 |.ex x=>.ex x
 |.no=>.no
theorem et3(hi:RI Jn K cn E true wi di)(hg:RG Jn K cn ks g b)(hb:RS Jn K cn E tb body):RS Jn K cn E (ei4 wi g tb) (fR di b body):=λAs H Z U O F D w=>by
 unfold fR at w;refine hi As H Z U O F _ ?_;cases e:di U with
 |ok ts=>
  rw[e]at w;intro J H1 Z1 m s;refine⟨λi k σ' H'=>k=ts.length-i/\i<=ts.length/\∃ρ' Z' As',Frm Jn K cn H' Z' ρ' σ' As'/\Src K cn true H' Z' J ts/\Wp Jn K cn E As' H' Z' D (dI b body (ts.drop i) ρ'),⟨ts.length,X4,R7 _,U,Z1,As,F.mo m,s,Wp.ev w m.ev⟩,?_⟩;rintro i k σ1 H2 ⟨rfl,hle,ρ1,Z2,As1,F1,s1,w1⟩;by_cases hlt:i<ts.length
  . obtain⟨t,et⟩:∃t,ts[i]?=some t:=⟨ts[i],A6 hlt⟩;obtain⟨go,yl⟩:=s1.turn F1.zi et;have ed:ts.drop i=t::ts.drop (i+1):=by obtain⟨h1,h2⟩:=D3.mp et;rw[<-h2];exact List.drop_eq_getElem_cons hlt
    refine .inr ⟨go,_,λσ' H' p'=>⟨ts.length-(i+1),W9,p'⟩,λx H' y=>?_⟩;obtain⟨my,rx⟩:=yl x H' y;have F1:=F1.mo my;have s1:=s1.mo my;have w1:=Wp.ev w1 (my.ev (As:=As1));rw[ed]at w1;simp only[dI]at w1;cases eb:b t ρ1 with
    |none=>rw[eb]at w1;exact w1.elim
    |some ρ2=>
     rw[eb]at w1;simp only at w1;refine hg As1 H' Z2 ρ1 σ1 t x [] F1 rx J2 (fH) (fH) _ ρ2 eb λσ2 As2 F2 o2 _ _=>?_;have ev2:Ev As1 H' Z2 As2 H' Z2:=⟨λ_ _ q _=>q,λa ha=>.inl ((o2 a ha).resolve_right ((λz=>nomatch z))),λ_ q=>q,λ_ q=>.inl q,λ_ q=>q⟩;refine hb As2 H' Z2 ρ2 σ2 F2 _ ?_;have w2:=Wp.ev w1 ev2;cases eo:body ρ2 with
     |nx ρ3=>rw[eo]at w2;exact λσ' As' H'' Z' F' ev=>⟨rfl,hlt,ρ3,Z',As',F',(s1.ev F1 ev2).ev F2 ev,Wp.ev w2 ev⟩
     |ct ρ3=>rw[eo]at w2;exact λσ' As' H'' Z' F' ev=>⟨rfl,hlt,ρ3,Z',As',F',(s1.ev F1 ev2).ev F2 ev,Wp.ev w2 ev⟩
     |bk ρ3=>rw[eo]at w2;exact w2
     |rt t=>rw[eo]at w2;exact w2
     |rm ρ3 t=>rw[eo]at w2;exact w2
     |ex x=>rw[eo]at w2;exact w2
     |no=>rw[eo]at w2;exact w2
  . have ei:i=ts.length:=W9
    subst ei;rw[List.drop_length]at w1;exact .inl ⟨s1.stop (C9 _),w1 σ1 As1 H2 Z2 F1 Ev.refl⟩
 |ex x=>rw[e]at w;exact w
 |no=>rw[e]at w;exact w
def tH(c:bx)(body:Fr->bS):Nat->Fr->bS
 |0,_=>.no
 |n+1,U=>match c U with
  |.ok k=>if k=true then match body U with
   |.nx ρ2=>tH c body n ρ2
   |.ct ρ2=>tH c body n ρ2
   |.bk ρ2=>.nx ρ2
   |o=>o
   else .nx U
  |.ex x=>.ex x
  |.no=>.no
def cj4:∃n:Nat,10^12<=n:=⟨_,C9 _⟩
noncomputable def yY:Nat:=Classical.choose cj4
def do9:10^12<=yY:=Classical.choose_spec cj4
noncomputable def ab5(c:bx)(body:Fr->bS):Fr->bS:=tH c body yY
theorem du2(hc:RT Jn K cn E tc c)(hb:RS Jn K cn E tb body):RS Jn K cn E (dd0 tc tb) (ab5 c body):=λAs H Z U O F D w=>by
 unfold ab5 at w;refine⟨λn σ' H'=>∃ρ' Z' As',Frm Jn K cn H' Z' ρ' σ' As'/\Wp Jn K cn E As' H' Z' D (tH c body n ρ'),⟨yY,U,Z,As,F,w⟩,?_⟩;rintro n σ1 H1 ⟨ρ1,Z1,As1,F1,w1⟩;cases n with
 |zero=>exact w1.elim
 |succ n=>
  refine hc As1 H1 Z1 ρ1 σ1 F1 _ ?_;simp only[tH]at w1;cases ec:c ρ1 with
  |ok k=>
   rw[ec]at w1;intro H2 Z2 p2;simp only at w1;cases k with
   |true=>
    rw[E3 rfl]at w1;rw[E3 rfl];refine⟨λσ' H'=>∃ρ' Z' As',Frm Jn K cn H' Z' ρ' σ' As'/\Wp Jn K cn E As' H' Z' D (tH c body n ρ'),λσ' H' p'=>⟨n,Q7 _,p'⟩,?_⟩;refine hb As1 H2 Z2 ρ1 σ1 (F1.mo p2.mo) _ ?_;have w2:=Wp.ev w1 p2.mo.ev;cases eo:body ρ1 with
    |nx ρ3=>rw[eo]at w2;exact λσ' As' H'' Z' F' ev=>⟨ρ3,Z',As',F',Wp.ev w2 ev⟩
    |ct ρ3=>rw[eo]at w2;exact λσ' As' H'' Z' F' ev=>⟨ρ3,Z',As',F',Wp.ev w2 ev⟩
    |bk ρ3=>rw[eo]at w2;exact w2
    |rt t=>rw[eo]at w2;exact w2
    |rm ρ3 t=>rw[eo]at w2;exact w2
    |ex x=>rw[eo]at w2;exact w2
    |no=>rw[eo]at w2;exact w2
   |false=>rw[D7 X5]at w1;rw[D7 X5];exact w1 σ1 As1 H2 Z2 (F1.mo p2.mo) p2.mo.ev
  |ex x=>rw[ec]at w1;exact w1
  |no=>rw[ec]at w1;exact w1
def kR(t':T):List Nat->T->Option T
 |[],_=>some t'
 |k::p,.lst o ts=>match ts[k]? with
  |some t=>(kR t' p t).map λu=>.lst o (ts.set k u)
  |none=>none
 |k::p,.tup ts=>match ts[k]? with
  |some t=>(kR t' p t).map λu=>.tup (ts.set k u)
  |none=>none
 |k::p,.ins o c ns ts=>match ts[k]? with
  |some t=>(kR t' p t).map λu=>.ins o c ns (ts.set k u)
  |none=>none
 |_::_,_=>none
structure Plug (K:A5) (cn:aa) (H:Hp) (Z:aq) (t0:T) (v0:V) (A0:av) (p:az) (u:T) (v:V) (B:av):Prop where
 rep:Rep K cn H Z u v B
 sub:B.Sublist A0
 plug:∀H' Z' u' B',(∀a,Z a->Z' a)->(∀b o,H b=some o->((b∈A0/\b∉B)\/Z b\/tY o=true)->H' b=some o)->Rep K cn H' Z' u' v B'->B'.Nodup->(∀x∈B',x∈A0->x∈B)->
  ∃t' A',kR u' p t0=some t'/\Rep K cn H' Z' t' v0 A'/\A'.Nodup/\∀x∈A',(x∈A0/\x∉B)\/x∈B'
def Plug.mo(h:Plug K cn H Z t0 v0 A0 p u v B)(s:Same H H1)(zz:∀a,Z a->Z1 a):Plug K cn H1 Z1 t0 v0 A0 p u v B:=
 ⟨h.rep.same s zz,h.sub,λH' Z' u' B' z k=>h.plug H' Z' u' B' (λa q=>z a (zz a q)) λb o q c=>k b o (s b o q) (by
  rcases c with c|c|c
  . exact .inl c
  . exact .inr (.inl (zz b c))
  . exact .inr (.inr c))⟩
def Plug.root(h:Rep K cn H Z t0 v0 A0):Plug K cn H Z t0 v0 A0 [] t0 v0 A0:=
 ⟨h,List.Sublist.refl _,λH' Z' u' B' z k r nd _=>⟨u',B',rfl,r,nd,λx hx=>.inr hx⟩⟩
theorem Reps.splice:∀(ts:aw){vs:a_}{A:av}{k:Nat}{t:T},Reps K cn H Z ts vs A->ts[k]?=some t->∃v B1 B B2,vs[k]?=some v/\A=B1++B++B2/\Rep K cn H Z t v B/\
 ∀H' Z' t' B',(∀a,Z a->Z' a)->(∀b o,H b=some o->(b∈B1\/b∈B2\/Z b\/tY o=true)->H' b=some o)->Rep K cn H' Z' t' v B'->Reps K cn H' Z' (ts.set k t') vs (B1++B'++B2)
 |[],_,_,_,_,h,e=>by simp at e
 |t::ts,vs,A,0,t',h,e=>by simp only[Reps]at h;refine z43 h λv r B C zz zy h1 h2=>?_;clear h;subst zz zy;simp at e;subst e;refine⟨v,[],B,C,rfl,X4,h1,λH' Z' u B' z k q=>?_⟩;simp only[List.set_cons_zero,Reps];exact⟨v,r,B',C,rfl,X4,q,Reps.keep ts h2 (λb o e c=>k b o e (.inr c)) z⟩
 |t::ts,vs,A,k+1,t',h,e=>by
  simp only[Reps]at h;refine z43 h λv r B C zz zy h1 h2=>?_;clear h;subst zz zy;obtain⟨v',B1,B',B2,e1,rfl,e3,e4⟩:=Reps.splice ts (k:=k) h2 (by simpa using e);refine⟨v',B++B1,B',B2,by simpa using e1,X4,e3,λH' Z' u C' z kk q=>?_⟩;simp only[List.set_cons_succ,Reps];refine⟨v,r,B,B1++C'++B2,rfl,X4,Rep.keep t h1 (λb o e c=>kk b o e ?_) z,e4 H' Z' u C' z (λb o e c=>kk b o e ?_) q⟩
  . rcases c with c|c
    . exact .inl (D9 _ c)
    . exact .inr (.inr c)
  . rcases c with c|c
    . exact .inl (C6 _ c)
    . exact .inr c
def fN:List Nat->T->Option T
 |[],t=>some t
 |k::p,.lst _ ts=>(ts[k]?).bind (fN p)
 |k::p,.tup ts=>(ts[k]?).bind (fN p)
 |k::p,.ins _ _ _ ts=>(ts[k]?).bind (fN p)
 |_::_,_=>none
theorem wP:∀(p:az)(t0 u:T),fN p t0=some u->kR t' [k] u=some u2->kR t' (p++[k]) t0=kR u2 p t0
 |[],t0,u,h,e=>by cases h;exact e
 |j::p,t0,u,h,e=>by
  cases t0 with
  |lst o ts=>
   simp only[fN]at h;cases q:ts[j]? with
   |none=>rw[q]at h;cases h
   |some t=>rw[q]at h;simp only[List.cons_append,kR,q];rw[wP p t u h e]
  |tup ts=>
   simp only[fN]at h;cases q:ts[j]? with
   |none=>rw[q]at h;cases h
   |some t=>rw[q]at h;simp only[List.cons_append,kR,q];rw[wP p t u h e]
  |ins o c ns ts=>
   simp only[fN]at h;cases q:ts[j]? with
   |none=>rw[q]at h;cases h
   |some t=>rw[q]at h;simp only[List.cons_append,kR,q];rw[wP p t u h e]
  |_=>cases h
theorem uF:∀(p:az)(t0 u u2:T),fN p t0=some u->fN [k] u=some u2->fN (p++[k]) t0=some u2
 |[],t0,u,u2,h,e=>by cases h;exact e
 |j::p,t0,u,u2,h,e=>by
  cases t0 with
  |lst o ts=>
   simp only[fN,List.cons_append]at h⊢;cases q:ts[j]? with
   |none=>rw[q]at h;cases h
   |some t=>rw[q]at h;exact uF p t u u2 h e
  |tup ts=>
   simp only[fN,List.cons_append]at h⊢;cases q:ts[j]? with
   |none=>rw[q]at h;cases h
   |some t=>rw[q]at h;exact uF p t u u2 h e
  |ins o c ns ts=>
   simp only[fN,List.cons_append]at h⊢;cases q:ts[j]? with
   |none=>rw[q]at h;cases h
   |some t=>rw[q]at h;exact uF p t u u2 h e
  |_=>cases h
def ab6(u:T)(ts:aw):T:=match u with
 |.lst o _=>.lst o ts
 |.ins o c ns _=>.ins o c ns ts
 |_=>.tup ts
def Plug.step(h:Plug K cn H Z t0 v0 A0 p u v B)(nd:A0.Nodup)(hn:fN p t0=some u)(r:Reps K cn H Z ts vs C)(hC:C.Sublist B)(e:ts[k]?=some u2)
 (hs:∀t',kR t' [k] u=some (ab6 u (ts.set k t')))
 (back:∀H' Z' t' C',(∀a,Z a->Z' a)->(∀b o,H b=some o->((b∈B/\b∉C)\/Z b\/tY o=true)->H' b=some o)->Reps K cn H' Z' (ts.set k t') vs C'->C'.Nodup->(∀x∈C',x∈B->x∈C)->∃B',Rep K cn H' Z' (ab6 u (ts.set k t')) v B'/\B'.Nodup/\∀x∈B',(x∈B/\x∉C)\/x∈C'):
 ∃w D,vs[k]?=some w/\Plug K cn H Z t0 v0 A0 (p++[k]) u2 w D:=by
 refine z43 (Reps.splice ts r e) λw B1 D B2 ew zz rw' put=>?_;subst zz;have ndB:B.Nodup:=nd.sublist h.sub;have ndC:=ndB.sublist hC;have dsub:D.Sublist (B1++D++B2):=(List.sublist_append_right B1 D).trans (W4 _ B2);have hDB:∀x∈D,x∈B:=λx hx=>hC.mem (dsub.mem hx);refine⟨w,D,ew,rw',dsub.trans (hC.trans h.sub),λH' Z' u' D' z kk q ndD hD=>?_⟩;have nd1:=ndC;rw[K0,D8]at nd1;obtain⟨n1,n2,n3⟩:=nd1;rw[D8]at n2;obtain⟨n4,n5,n6⟩:=n2;have inC1:∀x∈B1,x∈B1++D++B2:=λx hx=>D9 _ (D9 _ hx);have inC2:∀x∈B2,x∈B1++D++B2:=λx hx=>C6 _ hx;have o1:∀x∈B1,x∈A0/\x∉D:=λx hx=>⟨h.sub.mem (hC.mem (inC1 x hx)),λhd=>n3 x hx x (D9 _ hd) rfl⟩;have o2:∀x∈B2,x∈A0/\x∉D:=λx hx=>⟨h.sub.mem (hC.mem (inC2 x hx)),λhd=>n6 x hd x hx rfl⟩;have rs:=put H' Z' u' D' z (λb o q c=>kk b o q (by
  rcases c with c|c|c
  . exact .inl (o1 b c)
  . exact .inl (o2 b c)
  . exact .inr c)) q
 have ndN:(B1++D'++B2).Nodup:=by
  rw[K0,D8];refine⟨n1,?_,λx hx y hy e=>?_⟩
  . rw[D8];refine⟨ndD,n5,λx hx y hy e=>?_⟩;subst e;exact(o2 x hy).2 (hD x hx (o2 x hy).1)
  . subst e;rcases A9.mp hy with hy|hy
    . exact(o1 x hx).2 (hD x hy (o1 x hx).1)
    . exact n3 x hx x (C6 _ hy) rfl
 obtain⟨B',rB,ndB',hB'⟩:=back H' Z' u' _ z (λb o q c=>kk b o q (by
  rcases c with⟨c1,c2⟩|c
  . exact .inl ⟨h.sub.mem c1,λhd=>c2 (dsub.mem hd)⟩
  . exact .inr c)) rs ndN (λx hx hb=>by
    rcases A9.mp hx with hx|hx
    . rcases A9.mp hx with hx|hx
      . exact inC1 x hx
      . exact dsub.mem (hD x hx (h.sub.mem hb))
    . exact inC2 x hx)
 obtain⟨t',A',e1,r1,nd',hA'⟩:=h.plug H' Z' _ B' z (λb o q c=>kk b o q (by
  rcases c with⟨c1,c2⟩|c
  . exact .inl ⟨c1,λhd=>c2 (hDB b hd)⟩
  . exact .inr c)) rB ndB' (λx hx ha=>by
    rcases hB' x hx with⟨q,_⟩|q
    . exact q
    . rcases A9.mp q with q|q
      . rcases A9.mp q with q|q
        . exact hC.mem (inC1 x q)
        . exact hDB x (hD x q ha)
      . exact hC.mem (inC2 x q))
 refine⟨t',A',?_,r1,nd',λx hx=>?_⟩
 . rw[wP p t0 u hn (hs u')];exact e1
 . rcases hA' x hx with⟨q1,q2⟩|q
   . exact .inl ⟨q1,λhd=>q2 (hDB x hd)⟩
   . rcases hB' x q with⟨q1,q2⟩|q
     . exact .inl ⟨h.sub.mem q1,λhd=>q2 (dsub.mem hd)⟩
     . rcases A9.mp q with q|q
       . rcases A9.mp q with q|q
         . exact .inl (o1 x q)
         . exact .inr q
       . exact .inl (o2 x q)
def WpP(K:A5)(cn:aa)(E:XK)(As:ag)(H:Hp)(Z:aq)(A0:av)(t0:T)(v0:V)(Q:VK):Res (List Nat)->Prop
 |.ok p=>∀u v B H' Z',Mo H Z H' Z'->fN p t0=some u->Plug K cn H' Z' t0 v0 A0 p u v B->Q v H'
 |.ex x=>WpX K cn E As H Z x
 |.no=>False
def RP(Jn:gX)(K:A5)(cn:aa)(E:XK)(j:Nat)(to:TE)(d:be):Prop:=∀As H Z U O,Frm Jn K cn H Z U O As->∀t0 v0,U[j]?=some (some t0)->O[j]?=some (some v0)->Rep K cn H Z t0 v0 (As.getD j [])->∀Q,WpP K cn E As H Z (As.getD j []) t0 v0 Q (d U)->to O H Q
def dH:Fr->Res (List Nat):=λ_=>.ok []
def eh6(j:Nat):RP Jn K cn E j (am4 j) dH:=λAs H Z U O F t0 v0 e1 e2 r Q w=>⟨v0,e2,w t0 v0 _ H Z F.mo0 rfl (Plug.root r)⟩
def bi3:T->Option (List T)
 |.lst o ts=>if o=true then some ts else none
 |.tup ts=>some ts
 |_=>none
def pIx(j:Nat)(d:be)(i:a8):Fr->Res (List Nat):=λU=>(d U).bind λp=>(i U).bind λx=>match U[j]?,x with
 |some (some t0),.int n=>match(fN p t0).bind bi3 with
  |some ts=>match qG ts.length n with
   |some k=>.ok (p++[k])
   |none=>.no
  |none=>.no
 |_,_=>.no
theorem mL{As:ag}(h:As.flatten.Nodup)(i:Nat):(As.getD i []).Nodup:=by
 rw[A8];cases q:As[i]? with
 |none=>exact J2
 |some C=>exact List.Nodup.sublist (List.sublist_flatten_of_mem (D4 q)) h
def by8(h:qG n i=some k):k<n:=(bi2 h).2.1
def cg4(h:qG xs.length i=some k)(e:xs[k]?=some v):atI xs i=some v:=by unfold atI;rw[h];exact e
theorem fk2{j:Nat}{to ti:TE}{d:be}{i:a8}(hd:RP Jn K cn E j to d)(hi:RB Jn K cn E ti i):RP Jn K cn E j (tOp (rIx K) to ti) (pIx j d i):=λAs H Z U O F t0 v0 e1 e2 r Q w=>by
 have nd:=mL F.nd j;unfold pIx at w;refine hd As H Z U O F t0 v0 e1 e2 r _ ?_;cases ed:d U with
 |ok p=>
  rw[ed]at w;intro u v B H1 Z1 m1 hn pl;refine hi As H1 Z1 U O (F.mo m1) _ ?_;simp only[Res.bind]at w;cases ei:i U with
  |ok x=>
   rw[ei]at w;intro vi H2 Z2 C p2;simp only[e1]at w;cases x with
   |int n=>
    have qi:=p2.rep;simp only[Rep]at qi;obtain⟨rfl,_⟩:=qi;simp only[hn]at w;have m2:=m1.trans p2.mo;have pl2:=pl.mo p2.same p2.zz;cases u with
    |lst o ts=>
     cases o with
     |false=>simp only[Option.bind,bi3,Q0,Q2]at w;exact w.elim
     |true=>
      simp only[Option.bind,bi3,N4]at w;cases ek:qG ts.length n with
      |none=>rw[ek]at w;exact w.elim
      |some k=>
       rw[ek]at w;obtain⟨u2,eu⟩:∃u2,ts[k]?=some u2:=⟨ts[k]'(by8 ek),A6 _⟩;have q:=pl2.rep;simp only[Rep]at q;refine z33 q λa vs B' zz zy ea rs=>?_;clear q;subst zz zy;have ndB:(a::B').Nodup:=nd.sublist pl2.sub;obtain⟨wv,D,ew,pl3⟩:=pl2.step nd hn rs (V4 _ _) eu (λt'=>by simp[kR,eu,ab6]) (λH' Z' t' C' z kk rr ndC hC=>by
        refine⟨a::C',?_,G6.mpr ⟨λha=>(G6.mp ndB).1 (hC a ha B7),ndC⟩,λx hx=>?_⟩
        . simp only[ab6,Rep];exact⟨a,vs,C',rfl,rfl,kk a _ ea (.inl ⟨B7,(G6.mp ndB).1⟩),rr⟩
        . rcases C4.mp hx with rfl|hx
          . exact .inl ⟨B7,(G6.mp ndB).1⟩
          . exact .inr hx)
       refine .inl ⟨a,vs,n,wv,rfl,rfl,SqL.of ea,cg4 (by rw[Reps.length ts rs];exact ek) ew,w u2 wv D H2 Z2 m2 (uF p t0 _ u2 hn (by simp[fN,eu])) pl3⟩
    |tup ts=>
     simp only[Option.bind,bi3]at w;cases ek:qG ts.length n with
     |none=>rw[ek]at w;exact w.elim
     |some k=>rw[ek]at w;obtain⟨u2,eu⟩:∃u2,ts[k]?=some u2:=⟨ts[k]'(by8 ek),A6 _⟩;have q:=pl2.rep;simp only[Rep]at q;refine z22 q λa vs zz ea rs=>?_;clear q;subst zz;obtain⟨wv,D,ew,pl3⟩:=pl2.step nd hn rs (List.Sublist.refl _) eu (λt'=>by simp[kR,eu,ab6]) (λH' Z' t' C' z kk rr ndC hC=>by refine⟨C',?_,ndC,λx hx=>.inr hx⟩;simp only[ab6,Rep];exact⟨a,vs,rfl,SqT.keep ea (λb o q i=>kk b o q (.inr (.inr i))),rr⟩);refine .inr (.inl ⟨a,vs,n,wv,rfl,rfl,ea,cg4 (by rw[Reps.length ts rs];exact ek) ew,w u2 wv D H2 Z2 m2 (uF p t0 _ u2 hn (by simp[fN,eu])) pl3⟩)
    |_=>simp only[Option.bind,bi3]at w;exact w.elim
   |_=>exact w.elim
  |ex x=>rw[ei]at w;exact WpX.ev w m1.ev
  |no=>rw[ei]at w;exact w
 |ex x=>rw[ed]at w;exact w
 |no=>rw[ed]at w;exact w
def al6(j:Nat)(p:az)(us:aw)(U:Fr):bS:=match U[j]? with
 |some (some t0)=>match kR (.lst true us) p t0 with
  |some t'=>.nx (U.set j (some t'))
  |none=>.no
 |_=>.no
def bo8(j:Nat)(p:az)(u:T)(U:Fr):bS:=match U[j]? with
 |some (some t0)=>match kR u p t0 with
  |some t'=>.nx (U.set j (some t'))
  |none=>.no
 |_=>.no
def bg2{As As1:ag}{H H1:Hp}{Z Z1:aq}{ρ1:Fr}{O:St}{j:Nat}{t0:T}{v0:V}{p:az}{u u':T}{v:V}{B:av}{D:aa8}
 (F1:Frm Jn K cn H1 Z1 ρ1 O As1)(e1:ρ1[j]?=some (some t0))(e2:O[j]?=some (some v0))(pl:Plug K cn H1 Z1 t0 v0 (As1.getD j []) p u v B)
 {a:Addr}{o0 o1:HO}{C0 C:av}(ev:v=.ref a)(eB:B=a::C0)(ha:H1 a=some o0)(hi:tY o0=false)(hC:a∉C->¬Z1 a->Rep K cn (L2.upd H1 a o1) Z1 u' (.ref a) (a::C))(ndC:C.Nodup)(hCz:∀x∈C,¬Z1 x)(hCa:∀x∈C,x∈As1.flatten->x∈C0)
 (evl:Ev As H Z As1 H1 Z1)(hCn:∀x∈C,x∈As.flatten\/H x=none)(w:Wp Jn K cn E As H Z D (bo8 j p u' ρ1)):D.nx O (L2.upd H1 a o1):=by
 subst ev eB;have nd:=mL F1.nd j;have ndB:(a::C0).Nodup:=nd.sublist pl.sub;have aA:a∈As1.getD j []:=pl.sub.mem B7;have aZ:¬Z1 a:=F1.nz a (bC aA);have aC:a∉C:=λh=>(G6.mp ndB).1 (hCa a h (bC aA));obtain⟨t',A',es,r',ndA,hA⟩:=pl.plug (L2.upd H1 a o1) Z1 u' (a::C) (λ_ h=>h) (λb o q c=>by
  rw[dJ]
  . exact q
  . rintro rfl;rcases c with c|c|c
    . exact c.2 B7
    . exact aZ c
    . rw[ha]at q;cases q;rw[hi]at c;cases c) (hC aC aZ) (G6.mpr ⟨aC,ndC⟩) (λx hx hxa=>by
    rcases C4.mp hx with rfl|hx
    . exact B7
    . exact B5 _ (hCa x hx (bC hxa)))
 unfold bo8 at w;rw[e1]at w;simp only[es]at w;have hA':∀x∈A',x∈As1.getD j []\/x∈C:=λx hx=>by
  rcases hA x hx with q|q
  . exact .inl q.1
  . rcases C4.mp q with rfl|q
    . exact .inl aA
    . exact .inr q
 have slots:∀{U:Fr}{O:St}{As:ag}{i:Nat},Slots K cn H1 Z1 U O As->As.flatten.Nodup->(∀x∈As.flatten,x=a->x∈As.getD i [])->O[i]?=some (some v0)->Slots K cn (L2.upd H1 a o1) Z1 (U.set i (some t')) O (As.set i A'):=by
  intro U;induction U with
  |nil=>intro O As i h _ _ e;obtain⟨rfl,rfl⟩:=h;simp at e
  |cons o U ih=>
   intro O As i h nd hx e;refine z43 h λw' σ' A As' zz zy h1 h2=>?_;clear h;subst zz zy;rw[D0,D8]at nd;cases i with
   |zero=>
    simp at e;subst e;refine⟨_,σ',A',As',rfl,rfl,⟨v0,rfl,r'⟩,?_⟩;have na:a∉As'.flatten:=λh=>by have:=hx a (by rw[D0,A9];exact .inr h) rfl;exact nd.2.2 a (by simpa using this) a h rfl
    have:∀{U:Fr}{O:St}{As:ag},Slots K cn H1 Z1 U O As->a∉As.flatten->Slots K cn (L2.upd H1 a o1) Z1 U O As:=by
     intro U;induction U with
     |nil=>intro O As h _;exact h
     |cons o U ih=>
      intro O As h hn;refine z43 h λw' σ' A As' zz zy h1 h2=>?_;clear h;subst zz zy;rw[D0,A9,not_or]at hn;refine⟨w',σ',A,As',rfl,rfl,?_,ih h2 hn.2⟩;cases o with
      |none=>exact h1
      |some t=>obtain⟨v,e,r⟩:=h1;exact⟨v,e,r.upd ha hi hn.1 aZ⟩
    exact this h2 na
   |succ i=>
    refine⟨w',σ',A,As'.set i A',rfl,rfl,?_,ih h2 nd.2.1 (λx hx' ex=>?_) (by simpa using e)⟩
    . have na:a∉A:=λh=>by
       have:=hx a (by rw[D0,A9];exact .inl h) rfl;have:a∈As'.getD i []:=by simpa using this
       exact nd.2.2 a h a (bC this) rfl
      cases o with
      |none=>exact h1
      |some t=>obtain⟨v,e,r⟩:=h1;exact⟨v,e,r.upd ha hi na aZ⟩
    . have:=hx x (by rw[D0,A9];exact .inr hx') ex;simpa using this
 refine w O (As1.set j A') _ Z1 ⟨slots F1.sl F1.nd (λx _ ex=>by rw[ex];exact aA) e2,qL ndA F1.nd (λb hb hf=>?_),λb hb z=>?_,λb z=>?_,F1.pn⟩ ?_
 . rcases hA' b hb with q|q
   . exact q
   . exact pl.sub.mem (B5 _ (hCa b q hf))
 . rcases eW hb with q|q
   . rcases hA' b q with q|q
     . exact F1.nz b (bC q) z
     . exact hCz b q z
   . exact F1.nz b q z
 . by_cases e:b=a
   . rw[e,gC];exact(λz=>nomatch z)
   . rw[dJ e];exact F1.zi b z
 . refine⟨λb o q hb=>?_,λb hb=>?_,evl.zz,evl.zn,λb hb=>evl.dom b ?_⟩
   . rw[dJ]
     . exact evl.keep b o q hb
     . rintro rfl;rcases evl.own b (bC aA)with z|z
       . exact hb z
       . rw[q]at z;cases z
   . rcases eW hb with q|q
     . rcases hA' b q with q|q
       . exact evl.own b (bC q)
       . exact hCn b q
     . exact evl.own b q
   . by_cases e:b=a
     . rw[e,gC]at hb;cases hb
     . rw[dJ e]at hb;exact hb
def ba8
 (F1:Frm Jn K cn H1 Z1 ρ1 O As1)(e1:ρ1[j]?=some (some t0))(e2:O[j]?=some (some v0))(pl:Plug K cn H1 Z1 t0 v0 (As1.getD j []) p (.lst true us) v B)
 (ev:v=.ref a)(eB:B=a::C0)(ha:H1 a=some (.lst ws))(hC:Reps K cn H1 Z1 us' ws' C)(ndC:C.Nodup)(hCz:∀x∈C,¬Z1 x)(hCa:∀x∈C,x∈As1.flatten->x∈C0)
 (evl:Ev As H Z As1 H1 Z1)(hCn:∀x∈C,x∈As.flatten\/H x=none)(w:Wp Jn K cn E As H Z D (al6 j p us' ρ1)):D.nx O (L2.upd H1 a (.lst ws')):=by
 subst ev eB;refine bg2 (E:=E) F1 e1 e2 pl rfl rfl ha rfl (u':=.lst true us') (λaC aZ=>?_) ndC hCz hCa evl hCn w;simp only[Rep];exact⟨a,ws',C,rfl,rfl,gC,Reps.upd hC ha rfl aC aZ⟩
def jX(j:Nat)(mv:az)(d:be)(e:a8):Fr->bS:=λU=>match U[j]? with
 |some (some t0)=>match d U with
  |.ok p=>match fN p t0 with
   |some (.lst true us)=>match e U with
    |.ok t=>if us.length<sizeLine then al6 j p (us++[t]) (kills mv U)else .no
    |.ex x=>.ex x
    |.no=>.no
   |_=>.no
  |.ex x=>.ex x
  |.no=>.no
 |_=>.no
theorem ab2:∀(mv:az),mv.contains j=false->∀As:List (List Addr),(gQ mv As).getD j []=As.getD j []
 |[],_,_=>rfl
 |i::is,h,As=>by simp only[W8,Bool.or_eq_false_iff,K2]at h;show(gQ is (As.set i [])).getD j []=_;rw[ab2 is h.2,A8,J9 (N6 h.1),<-A8]
theorem ae4:∀(mv:az),mv.contains j=false->∀U:Fr,(kills mv U)[j]?=U[j]?
 |[],_,_=>rfl
 |i::is,h,U=>by simp only[W8,Bool.or_eq_false_iff,K2]at h;show(kills is (U.set i none))[j]?=_;rw[ae4 is h.2,J9 (N6 h.1)]
theorem eu4{j:Nat}{mv:az}{to te:TE}{d:be}{e:a8}(hd:RP Jn K cn E j to d)(he:RE Jn K cn E mv te e)(hj:mv.contains j=false:=by rfl):RS Jn K cn E (bm7 (tBM K "list" bx2 to (xJ te al8))) (jX j mv d e):=λAs H Z U O F D w=>by
 unfold jX at w;cases e1:U[j]? with
 |none=>rw[e1]at w;exact w.elim
 |some o=>
  rw[e1]at w;cases o with
  |none=>exact w.elim
  |some t0=>
   obtain⟨v0,e2,r0⟩:=F.sl.get e1;refine hd As H Z U O F t0 v0 e1 e2 r0 _ ?_;simp only at w;cases ed:d U with
   |ok p=>
    rw[ed]at w;intro u v B H1 Z1 m1 hn pl;simp only[hn]at w;split at w
    . next us hq=>
      cases hq;have q:=pl.rep;simp only[Rep]at q;refine z33 q λa ws C0 zz zy ea rs=>?_;clear q;subst zz zy;refine⟨.inl ⟨rfl,ws,SqL.of ea⟩,he As H1 Z1 U O (F.mo m1) _ ?_⟩;cases ee:e U with
      |ok t=>
       rw[ee]at w;intro y H2 Z2 C p2;simp only at w;split at w
       . next hlen=>
         have pl2:=pl.mo p2.same p2.zz;have ea2:=p2.same _ _ ea;have rs2:=rs.same p2.same p2.zz;refine⟨a,ws,y,rfl,rfl,ea2,by rw[Reps.length us rs];exact hlen,?_⟩;have m2:=m1.trans p2.mo;have F2:=(F.mo m2).kills mv;have gD:(gQ mv As).getD j []=As.getD j []:=ab2 mv hj As;have pl3:Plug K cn H2 Z2 t0 v0 ((gQ mv As).getD j []) p (.lst true us) (.ref a) (a::C0):=by rw[gD];exact pl2
         have ndB:(a::C0).Nodup:=(mL F.nd j).sublist pl.sub;have c0A:∀x∈C0,x∈As.getD j []:=λx hx=>pl.sub.mem (B5 _ hx);have cOut:∀x∈C,x∉(gQ mv As).flatten:=λx hx hA=>by
          rcases p2.bn x hx with z|⟨i,hi,z⟩
          . obtain⟨o,ho,_⟩:=(F.mo m1).sl.dom x (gJ hA);rw[ho]at z;cases z
          . exact vX F.nd hi z hA
         have c0In:∀x∈C0,x∈(gQ mv As).flatten:=λx hx=>bC (i:=j) (by rw[gD];exact c0A x hx);refine ba8 (As:=As) (H:=H) (Z:=Z) (E:=E) F2 (by rw[ae4 mv hj];exact e1) e2 pl3 rfl rfl ea2 (us':=us++[t]) (ws':=ws++[y]) (C:=C0++C) (Reps.append us rs2 (Reps.one p2.rep)) ?_ ?_ ?_ ?_ ?_ w
         . rw[D8];exact⟨(G6.mp ndB).2,p2.nd,λx hx y hy e=>by subst e;exact cOut x hy (c0In x hx)⟩
         . intro x hx;rcases A9.mp hx with hx|hx
           . exact F2.nz x (c0In x hx)
           . exact p2.bz x hx
         . intro x hx hA;rcases A9.mp hx with hx|hx
           . exact hx
           . exact E8 hA (cOut x hx)
         . exact⟨λb o q _=>m2.same b o q,λb hb=>.inl (gJ hb),m2.zz,λb h=>(m2.zn b h).imp_right .inr,λb h=>m2.same.free h⟩
         . intro x hx;rcases A9.mp hx with hx|hx
           . exact .inl (bC (c0A x hx))
           . rcases p2.bn x hx with z|⟨i,hi,z⟩
             . exact .inr (m1.same.free z)
             . exact .inl (bC z)
       . exact w.elim
      |ex x=>rw[ee]at w;exact WpX.ev w m1.ev
      |no=>rw[ee]at w;exact w
    . exact w.elim
   |ex x=>rw[ed]at w;exact w
   |no=>rw[ed]at w;exact w
def sU(j:Nat)(mv:az)(e:a8)(d:be)(i:a8):Fr->bS:=λU=>match e U with
 |.ok t=>match(kills mv U)[j]? with
  |some (some t0)=>match d (kills mv U)with
   |.ok p=>match fN p t0 with
    |some (.lst true us)=>match i (kills mv U)with
     |.ok (.int n)=>match qG us.length n with
      |some k=>al6 j p (us.set k t) (kills mv U)
      |none=>.no
     |.ok _=>.no
     |.ex x=>.ex x
     |.no=>.no
    |_=>.no
   |.ex x=>.ex x
   |.no=>.no
  |_=>.no
 |.ex x=>.ex x
 |.no=>.no
theorem Reps.put(rt:Rep K cn H Z t y C):∀(us:aw){ws:a_}{A:av}{k:Nat},Reps K cn H Z us ws A->k<us.length->∃B1 Bo B2,A=B1++Bo++B2/\Reps K cn H Z (us.set k t) (ws.set k y) (B1++C++B2)
 |[],_,_,_,_,e=>by simp at e
 |u::us,ws,A,0,r,e=>by simp only[Reps]at r;refine z43 r λv r' P Q' zz zy h1 h2=>?_;clear r;subst zz zy;refine⟨[],P,Q',X4,?_⟩;simp only[List.set_cons_zero,Reps];exact⟨y,r',C,Q',rfl,X4,rt,h2⟩
 |u::us,ws,A,k+1,r,e=>by simp only[Reps]at r;refine z43 r λv r' P Q' zz zy h1 h2=>?_;clear r;subst zz zy;obtain⟨X1,X2,X3,rfl,hr⟩:=Reps.put rt us (k:=k) h2 (by simpa using e);refine⟨P++X1,X2,X3,X4,?_⟩;simp only[List.set_cons_succ,Reps];exact⟨v,r'.set k y,P,X1++C++X3,rfl,X4,h1,hr⟩
theorem ee8{j:Nat}{mv:az}{te to ti:TE}{e:a8}{d:be}{i:a8}(he:RE Jn K cn E mv te e)(hd:RP Jn K cn E j to d)(hi:RB Jn K cn E ti i):RS Jn K cn E (bw2 te (ei5 to ti df8)) (sU j mv e d i):=λAs H Z U O F D w=>by
 unfold sU at w;refine he As H Z U O F _ ?_;cases ee:e U with
 |ok t=>
  rw[ee]at w;intro y H1 Z1 C p1;simp only at w;have F1:=(F.mo p1.mo).kills mv;cases e1:(kills mv U)[j]? with
  |none=>rw[e1]at w;exact w.elim
  |some o=>
   rw[e1]at w;cases o with
   |none=>exact w.elim
   |some t0=>
    obtain⟨v0,e2,r0⟩:=F1.sl.get e1;simp only at w;have ev1:Ev As H Z (gQ mv As) H1 Z1:=⟨λb o q _=>p1.same b o q,λb hb=>.inl (gJ hb),p1.zz,λb h=>(p1.zn b h).imp_right .inr,λb h=>p1.same.free h⟩;refine hd (gQ mv As) H1 Z1 (kills mv U) O F1 t0 v0 e1 e2 r0 _ ?_;cases ed:d (kills mv U)with
    |ok p=>
     rw[ed]at w;intro u v B H2 Z2 m2 hn pl;simp only[hn]at w;split at w
     . next us hq=>
       cases hq;refine hi (gQ mv As) H2 Z2 (kills mv U) O (F1.mo m2) _ ?_;cases ei:i (kills mv U)with
       |ok x=>
        rw[ei]at w;intro vi H3 Z3 Bi p3;cases x with
        |int n=>
         simp only at w;have qi:=p3.rep;simp only[Rep]at qi;obtain⟨rfl,_⟩:=qi;cases ek:qG us.length n with
         |none=>rw[ek]at w;exact w.elim
         |some k=>
          rw[ek]at w;have m3:=m2.trans p3.mo;have pl3:=pl.mo p3.same p3.zz;have q:=pl3.rep;simp only[Rep]at q;refine z33 q λa ws C0 zz zy ea rs=>?_;clear q;subst zz zy;have rt:Rep K cn H3 Z3 t y C:=p1.rep.same m3.same m3.zz;have F3:=F1.mo m3;have lw:=Reps.length us rs;refine z31 (Reps.put rt us rs (by8 ek)) λB1 Bo B2 zz rs'=>?_;subst zz;refine⟨a,ws,n,k,rfl,rfl,ea,by rw[lw];exact ek,?_⟩;have ndB:(a::(B1++Bo++B2)).Nodup:=(mL F1.nd j).sublist pl.sub;have cA:∀x∈B1++Bo++B2,x∈(gQ mv As).getD j []:=λx hx=>pl.sub.mem (B5 _ hx);have i1:∀x∈B1,x∈B1++Bo++B2:=λx hx=>D9 _ (D9 _ hx);have i2:∀x∈B2,x∈B1++Bo++B2:=λx hx=>C6 _ hx;have cOut:=p1.out F;have nd1:=(G6.mp ndB).2;rw[K0,D8]at nd1;obtain⟨n1,n2,n3⟩:=nd1;rw[D8]at n2;refine ba8 (As:=As) (H:=H) (Z:=Z) (E:=E) F3 e1 e2 pl3 rfl rfl ea (us':=us.set k t) (ws':=ws.set k y) (C:=B1++C++B2) rs' ?_ ?_ ?_ (ev1.trans m3.ev) ?_ w
          . rw[K0,D8];refine⟨n1,?_,λx hx z hz e=>?_⟩
            . rw[D8];exact⟨p1.nd,n2.2.1,λx hx z hz e=>by subst e;exact cOut x hx (bC (cA x (i2 x hz)))⟩
            . subst e;rcases A9.mp hz with hz|hz
              . exact cOut x hz (bC (cA x (i1 x hx)))
              . exact n3 x hx x (C6 _ hz) rfl
          . intro x hx;rcases A9.mp hx with hx|hx
            . rcases A9.mp hx with hx|hx
              . exact F3.nz x (bC (cA x (i1 x hx)))
              . intro z;rcases m3.zn x z with z|z
                . exact p1.bz x hx z
                . obtain⟨o,ho,_⟩:=p1.rep.dom t x hx;rw[ho]at z;cases z
            . exact F3.nz x (bC (cA x (i2 x hx)))
          . intro x hx hA;rcases A9.mp hx with hx|hx
            . rcases A9.mp hx with hx|hx
              . exact i1 x hx
              . exact E8 hA (cOut x hx)
            . exact i2 x hx
          . intro x hx;rcases A9.mp hx with hx|hx
            . rcases A9.mp hx with hx|hx
              . exact .inl (gJ (bC (cA x (i1 x hx))))
              . exact p1.inA x hx
            . exact .inl (gJ (bC (cA x (i2 x hx))))
        |_=>exact w.elim
       |ex x=>rw[ei]at w;exact WpX.ev w (ev1.trans m2.ev)
       |no=>rw[ei]at w;exact w
     . exact w.elim
    |ex x=>rw[ed]at w;exact WpX.ev w ev1
    |no=>rw[ed]at w;exact w
 |ex x=>rw[ee]at w;exact w
 |no=>rw[ee]at w;exact w
def bN:bS->Res T
 |.nx _=>.ok .non
 |.rt t=>.ok t
 |.ex x=>.ex x
 |_=>.no
def cD(n:Nat)(ts:aw):Fr:=ts.map some++List.replicate (n-ts.length) none
theorem ah4:∀(m:Nat),Slots K cn H Z (List.replicate m none) (List.replicate m none) (List.replicate m [])
 |0=>⟨rfl,rfl⟩
 |m+1=>⟨none,List.replicate m none,[],List.replicate m [],rfl,rfl,rfl,ah4 m⟩
theorem aq5:∀(ts:aw){vs:a_},Reps K cn H Z ts vs []->Slots K cn H Z (ts.map some++List.replicate m none) (vs.map some++List.replicate m none) (List.replicate (ts.length+m) [])
 |[],vs,h=>by simp only[Reps]at h;obtain⟨rfl,_⟩:=h;simpa using ah4 m
 |t::ts,vs,h=>by
  simp only[Reps]at h;refine z43 h λv r B C zz e h1 h2=>?_;clear h;subst zz;have eb:B=[]/\C=[]:=by simpa using e.symm
  obtain⟨rfl,rfl⟩:=eb;have:=aq5 (m:=m) ts h2;refine⟨some v,_,[],List.replicate (ts.length+m) [],rfl,?_,⟨v,rfl,h1⟩,this⟩;rw[G5,show ts.length+1+m=(ts.length+m)+1 by omega];rfl
theorem mX:∀m:Nat,(List.replicate m ([]:List Addr)).flatten=[]
 |0=>rfl
 |m+1=>by rw[J8,D0,mX m];rfl
theorem bb3{P:G1}{w:World}{mg:ac}{base:Heap}{x qual:Str}{st:Stmt}{f:Addr}{fd:FuncData}{N ps:ax}{k:Nat}{d:Fr->bS}(F:Fun K x qual st f fd)(S:aV N ps (aN st))
 (hbody:∀(cdv:Value)(A:J0)(outer:bm)(s:B8)(H:Hp)(E:XK),Room k (A.deeper (envOfC qual (aN st) s.heap.objs.size f cdv))->
  ∃t,PSs (nW lI P w K mg base N qual (aN st) f cdv A outer s H E).nox (eJ st) t/\RS [] K cn E t d){n:Nat}{G:bt}(hn:ps.length=n)(hG:∀ts,G ts=bN (d (cD N.length ts))):FnOk P w K mg base lI (k+1) f fd ps (bO K cn n G):=by
 have eG:G=λts=>bN (d (cD N.length ts)):=funext hG;subst hn eG;refine F.ok S (λvs H Q E h=>h.1) λcdv A outer s H vs Q E hr h=>?_;obtain⟨hl,ts,Z,zi,r,w⟩:=h;obtain⟨t,hp,ht⟩:=hbody cdv A outer s H E hr;refine⟨t,hp,?_⟩;have lt:=Reps.length ts r;have sl:Slots K cn H Z (cD N.length ts) (L2.start N vs) (List.replicate (ts.length+(N.length-ts.length)) []):=by unfold cD L2.start;rw[lt];exact aq5 ts r
 have F0:Frm [] K cn H Z (cD N.length ts) (L2.start N vs) (List.replicate (ts.length+(N.length-ts.length)) []):=⟨sl,by rw[mX];exact J2,by rw[mX];exact fH,zi,fH⟩;refine ht _ H Z _ _ F0 _ ?_;have bn:∀{B:av}{H':Hp}{Z':aq},Ev (List.replicate (ts.length+(N.length-ts.length)) []) H Z [B] H' Z'->∀b∈B,H b=none:=λ{B H' Z'} e b hb=>by
  rcases e.own b (by simpa using hb)with q|q
  . rw[mX]at q;cases q
  . exact q
 have sm:∀{As':ag}{H':Hp}{Z':aq},Ev (List.replicate (ts.length+(N.length-ts.length)) []) H Z As' H' Z'->Same H H'/\∀a,Z' a->Z a\/H a=none:=λ{As' H' Z'} e=>⟨λb o q=>e.keep b o q (by rw[mX];exact(λz=>nomatch z)),λa z=>by
  rcases e.zn a z with q|q|q
  . exact .inl q
  . rw[mX]at q;cases q
  . exact .inr q⟩
 cases ed:d (cD N.length ts)with
 |nx U=>simp only[ed,bN]at w;intro σ' As' H' Z' F' ev;exact w .non H' Z' [] ⟨(sm ev).1,ev.zz,(sm ev).2,F'.zi,by simp[Rep],J2,fH,fH⟩
 |rt t=>simp only[ed,bN]at w;intro v H' Z' B p;exact w v H' Z' B ⟨(sm p.ev).1,p.ev.zz,(sm p.ev).2,p.zi,p.rep,p.nd,p.bz,λb hb=>.inl (bn p.ev b hb)⟩
 |ex x=>simp only[ed,bN]at w;exact WpX.ev w ⟨λ_ _ q _=>q,λa ha=>(by rw[mX]at ha;exact nomatch ha),λ_ h=>h,λ_ h=>.inl h,λ_ h=>h⟩
 |bk U=>simp only[ed,bN]at w;exact w.elim
 |rm U t=>simp only[ed,bN]at w;exact w.elim
 |ct U=>simp only[ed,bN]at w;exact w.elim
 |no=>simp only[ed,bN]at w;exact w.elim
def bA{P:G1}{w:World}{mg:ac}{base:Heap}{x:Str}{st:Stmt}{N ps:ax}{k:Nat}{d:Fr->bS}(F:dW K mg x st)(S:aV N ps (aN st))
 (hb:∀(kV doc pm:Value)(an:br)(cdv ct:Value)(us:ao),us.length=ps.length->bindArgs (PySem.W.fnOf x x (kK st) (eJ st) (aN st) .none kV doc pm an cdv ct) ⟨us,[]⟩=pure (ps.zip us))
 (hbody:∀(f:Addr)(cdv:Value)(A:J0)(outer:bm)(s:B8)(H:Hp)(E:XK),Room k (A.deeper (envOfC x (aN st) s.heap.objs.size f cdv))->
  ∃t,PSs (nW lI P w K mg base N x (aN st) f cdv A outer s H E).nox (eJ st) t/\RS [] K cn E t d){n:Nat}{G:bt}(hn:ps.length=n)(hG:∀ts,G ts=bN (d (cD N.length ts))):dR P w K mg base (k+1) x ps (bO K cn n G):=by
 refine z21 F.ex λf fd F hm=>?_;exact⟨f,fd,bb3 F S (λcdv A outer s H E hr=>hbody f cdv A outer s H E hr) hn hG,hm,F.kp,F.binds hb⟩
def law_fn(F:FnOk P w K mg base lI k f fd [p] (bO K cn 1 G))
 (h:∀ns:List Int,ns.length<=63->(∀n∈ns,Builtin.Int.intBits n<=1048576)->G [.lst false (ns.map .int)]=.ok (.bl true)):FnOk P w K mg base lI k f fd [p] (bv7 K):=by
 refine F.imp λvs H Q E q=>?_;refine z24 q λa ns zz hs h63 hbits hq=>?_;clear q;subst zz;have rints:∀(Z:aq)(ns:ah),Reps K cn H Z (ns.map T.int) (ns.map V.int) []:=by
  intro Z ns;induction ns with
  |nil=>simp[Reps]
  |cons n ns ih=>simp only[C7,Reps];exact⟨.int n,ns.map V.int,[],[],rfl,rfl,by simp[Rep],ih⟩
 refine⟨rfl,[.lst false (ns.map .int)],λb=>b=a/\H b≠none,λb z=>z.2,Reps.one ?_,?_⟩
 . simp only[Rep];refine⟨a,ns.map V.int,rfl,trivial,?_,rints _ ns⟩;rcases hs with(hs|⟨o,hs⟩)|hs
   . exact .inl ⟨hs,rfl,by rw[hs];exact(λz=>nomatch z)⟩
   . exact .inr (.inl ⟨o,hs⟩)
   . exact .inr (.inr hs)
 . rw[h ns h63 hbits];intro v H' Z' B p;have q:=p.rep;simp only[Rep]at q;rw[q.1];exact hq H'
end
end TL
namespace L2
def EqD(K:A5)(H:Hp):Nat->V->V->Bool->Prop
 |0,x,y,b=>uH x=true/\uH y=true/\b=eqV x y
 |n+1,x,y,b=>(uH x=true/\uH y=true/\b=eqV x y)\/
  (∃p q xs ys,x=.ref p/\y=.ref q/\SqL K H p xs/\SqL K H q ys/\((xs.length≠ys.length/\b=false)\/
   (xs.length=ys.length/\∃es:List Bool,es.length=xs.length/\(∀(j:Nat) x y e,xs[j]?=some x->ys[j]?=some y->es[j]?=some e->EqD K H n x y e)/\b=es.all id)))\/
  (∃p q xs ys,x=.ref p/\y=.ref q/\SqT K H p xs/\SqT K H q ys/\∃es:List Bool,es.length=min xs.length ys.length/\
   (∀(j:Nat) x y e,xs[j]?=some x->ys[j]?=some y->es[j]?=some e->EqD K H n x y e)/\b=(es.all id&&xs.length==ys.length))
theorem bd9:∀{x:V},uH x=true->eqV x x=true
 |.non,_=>rfl
 |.bl b,_=>by simp[eqV]
 |.int i,_=>by simp[eqV]
 |.str s,_=>by simp[eqV]
theorem uN(es:bw):((List.range es.length).all λj=>es.getD j true)=es.all id:=by
 induction es with
 |nil=>rfl
 |cons b es ih=>show(List.range (es.length+1)).all _=_;rw[V5,U8,List.all_map];show(b&&_)=(b&&es.all id);rw[<-ih];rfl
section
variable{X:Cx}{ζ:ad}{O:St}{H:Hp}{s:B8}
theorem EqD.self(I:Inv X ζ O H s):∀(n:Nat)(x:V)(b:Bool),EqD X.K H n x x b->b=true
 |0,x,b,h=>by obtain⟨h1,_,rfl⟩:=h;exact bd9 h1
 |n+1,x,b,h=>by
  rcases h with⟨h1,_,rfl⟩|⟨p,q,xs,ys,e1,e2,s1,s2,h⟩|⟨p,q,xs,ys,e1,e2,s1,s2,es,hl,he,rfl⟩
  . exact bd9 h1
  . rw[e1]at e2;cases e2;have:=I.list_inj s1 s2;subst this;rcases h with⟨h,_⟩|⟨_,es,hl,he,rfl⟩
    . exact E8 rfl h
    . rw[K4];intro e hm;obtain⟨j,hj,rfl⟩:=R1 hm;exact EqD.self I n xs[j] es[j] (he j xs[j] xs[j] es[j] (A6 W9) (A6 W9) (A6 hj))
  . rw[e1]at e2;cases e2;have:=I.tuple_inj s1 s2;subst this;rw[O0,Bool.and_true,K4];intro e hm;obtain⟨j,hj,rfl⟩:=R1 hm;have hx:j<xs.length:=W9
    exact EqD.self I n xs[j] es[j] (he j xs[j] xs[j] es[j] (A6 hx) (A6 hx) (A6 hj))
def iB(r:Vals xs us)(h:j<us.length):∃x,xs[j]?=some x/\RelV x us[j]:=by have l:=r.length;have e1:xs[j]?=some xs[j]:=A6 W9;obtain⟨u,hu,ru⟩:=r.get e1;rw[A6 h]at hu;exact⟨xs[j],e1,by rw[G0 hu];exact ru⟩
theorem uA(I:Inv X ζ O H s):∀(n:Nat){A:J0}{x y:V}{u v:Value}{b:Bool},A.units+n<cLine->RelV x u->RelV y v->EqD X.K H n x y b->SeqAt.EqAt A s u v b
 |0,A,x,y,u,v,b,hu,rx,ry,h=>by obtain⟨h1,h2,rfl⟩:=h;exact ci8 rx ry h1 h2
 |n+1,A,x,y,u,v,b,hu,rx,ry,h=>by
  have h0:=h;rcases h with⟨h1,h2,rfl⟩|⟨p,q,xs,ys,rfl,rfl,s1,s2,h⟩|⟨p,q,xs,ys,rfl,rfl,s1,s2,es,hl,he,rfl⟩
  . exact ci8 rx ry h1 h2
  . cases rx;cases ry;by_cases hpq:p=q
    . subst hpq;rw[EqD.self I (n+1) _ b h0];exact SeqAt.EqAt.same _
    . refine z12 (I.list s1) λits r1 p1 _=>?_;refine z12 (I.list s2) λjts r2 p2 _=>?_;have l1:=r1.length;have l2:=r2.length;refine SeqAt.EqAt.of_refs hpq ?_;rcases h with⟨hne,rfl⟩|⟨heq,es,hl,he,rfl⟩
      . exact SeqAt.RcAt.lists_lengths p1.isList p2.isList (by simp only[B6,bne_iff_ne,ne_eq];omega) W9
      . have:=SeqAt.RcAt.lists (A:=A) (s:=s) (e:=λj=>es.getD j true) p1.isList p2.isList (by simp only[B6];omega) W9 (λj h1 h2=>by
         simp only[B6]at h1 h2;simp only[List.getElem_toArray];obtain⟨x,ex,rx⟩:=iB r1 h1;obtain⟨y,ey,ry⟩:=iB r2 h2;have hj:j<es.length:=W9
         have eg:es.getD j true=es[j]:=by rw[A8,A6 hj];rfl
         rw[eg];exact uA I n (by show A.units+1+n<cLine;omega) rx ry (he j x y es[j] ex ey (A6 hj)))
        rw[B6,show its.length=es.length by omega,uN]at this;exact this
  . cases rx;cases ry;by_cases hpq:p=q
    . subst hpq;rw[EqD.self I (n+1) _ _ h0];exact SeqAt.EqAt.same _
    . refine z12 (I.tuple s1) λits r1 p1 _=>?_;refine z12 (I.tuple s2) λjts r2 p2 _=>?_;have l1:=r1.length;have l2:=r2.length;refine SeqAt.EqAt.of_refs hpq ?_;have:=SeqAt.RcAt.tuples (A:=A) (s:=s) (e:=λj=>es.getD j true) (show s.heap.IsTuple p its.toArray from p1) (show s.heap.IsTuple q jts.toArray from p2) W9 (λj h1 h2=>by
       simp only[B6]at h1 h2;simp only[List.getElem_toArray];obtain⟨x,ex,rx⟩:=iB r1 h1;obtain⟨y,ey,ry⟩:=iB r2 h2;have hj:j<es.length:=W9
       have eg:es.getD j true=es[j]:=by rw[A8,A6 hj];rfl
       rw[eg];exact uA I n (by show A.units+1+n<cLine;omega) rx ry (he j x y es[j] ex ey (A6 hj)))
      simp only[B6]at this;rw[show min its.length jts.length=es.length by omega,uN,<-l1,<-l2]at this;exact this
def ci5(K:A5)(n:Nat):R2:=λx y H Q=>rEq x y H Q\/(∃p q b,x=.ref p/\y=.ref q/\EqD K H n x y b/\Q (.bl b) H)
def ej3(hu:X.A.units+n<cLine):OpR X (compareOp .Eq) (ci5 X.K n):=by
 intro ζ s O H x y v u Q I rx ry h;rcases h with h|⟨p,q,b,rfl,rfl,h,hq⟩
 . exact fp1 s O H x y v u Q I rx ry h
 . cases rx;cases ry;have bN:EP X ζ O Q (.bool b) s:=⟨.bl b,H,I,rfl,hq⟩;cases n with
   |zero=>exact E8 h.1 (λz=>by cases z)
   |succ n=>
    rcases h with⟨h1,_,_⟩|⟨p,q,xs,ys,e1,e2,s1,s2,h⟩|⟨p,q,xs,ys,e1,e2,s1,s2,es,hl,he,rfl⟩
    . exact E8 h1 (λz=>by cases z)
    . cases e1;cases e2;refine z12 (I.list s1) λits r1 p1 _=>?_;refine z12 (I.list s2) λjts r2 p2 _=>?_;have l1:=r1.length;have l2:=r2.length;rcases h with⟨hne,rfl⟩|⟨heq,es,hl,he,rfl⟩
      . exact SeqAt.eq_list_lengthsAt p1.isList p2.isList (by simp only[B6,bne_iff_ne,ne_eq];omega) W9 bN
      . refine SeqAt.eq_listAt (e:=λj=>es.getD j true) p1.isList p2.isList (by simp only[B6];omega) W9 (λj h1 h2=>?_) ?_
        . simp only[B6]at h1 h2;simp only[List.getElem_toArray];obtain⟨x,ex,rx⟩:=iB r1 h1;obtain⟨y,ey,ry⟩:=iB r2 h2;have hj:j<es.length:=W9
          have eg:es.getD j true=es[j]:=by rw[A8,A6 hj];rfl
          rw[eg];exact uA I n (by show X.A.units+1+n<cLine;omega) rx ry (he j x y es[j] ex ey (A6 hj))
        . rw[B6,show its.length=es.length by omega,uN];exact bN
    . cases e1;cases e2;refine z12 (I.tuple s1) λits r1 p1 _=>?_;refine z12 (I.tuple s2) λjts r2 p2 _=>?_;have l1:=r1.length;have l2:=r2.length;refine SeqAt.eq_tupleAt (e:=λj=>es.getD j true) (show s.heap.IsTuple p its.toArray from p1) (show s.heap.IsTuple q jts.toArray from p2) W9 (λj h1 h2=>?_) ?_
      . simp only[B6]at h1 h2;simp only[List.getElem_toArray];obtain⟨x,ex,rx⟩:=iB r1 h1;obtain⟨y,ey,ry⟩:=iB r2 h2;have hj:j<es.length:=W9
        have eg:es.getD j true=es[j]:=by rw[A8,A6 hj];rfl
        rw[eg];exact uA I n (by show X.A.units+1+n<cLine;omega) rx ry (he j x y es[j] ex ey (A6 hj))
      . simp only[B6];rw[show min its.length jts.length=es.length by omega,uN,<-l1,<-l2];exact bN
def du4(K:A5)(n:Nat)(neg:Bool):R2:=λx y H Q=>(∃p ys,y=.ref p/\(SqL K H p ys\/SqT K H p ys)/\∃es:List Bool,es.length=ys.length/\(∀(j:Nat) y e,ys[j]?=some y->es[j]?=some e->EqD K H n y x e)/\Q (.bl (if neg then !es.any id else es.any id)) H)\/
 (∃i j,x=.str i/\y=.str j/\Q (.bl (if neg then !(!(Builtin.Str.occurrences j i 0 j.length 1).isEmpty)else(!(Builtin.Str.occurrences j i 0 j.length 1).isEmpty))) H)
theorem EqD.det(I:Inv X ζ O H s):∀(n:Nat)(x y:V)(b c:Bool),EqD X.K H n x y b->EqD X.K H n x y c->b=c:=by
 intro n;induction n with
 |zero=>intro x y b c h1 h2;rw[h1.2.2,h2.2.2]
 |succ n ih=>
  intro x y b c h1 h2;have flat_ref:∀{p:Addr},uH (.ref p)=true->False:=λh=>by cases h
  rcases h1 with⟨a1,a2,rfl⟩|⟨p,q,xs,ys,rfl,rfl,s1,s2,h1⟩|⟨p,q,xs,ys,rfl,rfl,s1,s2,es,hl,he,rfl⟩
  . rcases h2 with⟨b1,b2,rfl⟩|⟨p,q,xs,ys,rfl,rfl,_⟩|⟨p,q,xs,ys,rfl,rfl,_⟩
    . rfl
    . exact(flat_ref a1).elim
    . exact(flat_ref a1).elim
  . rcases h2 with⟨b1,b2,rfl⟩|⟨p',q',xs',ys',e1,e2,t1,t2,h2⟩|⟨p',q',xs',ys',e1,e2,t1,t2,_⟩
    . exact(flat_ref b1).elim
    . cases e1;cases e2;have z1:=I.list_inj s1 t1;have z2:=I.list_inj s2 t2;subst z1 z2;rcases h1 with⟨n1,rfl⟩|⟨n1,es,hl,he,rfl⟩
      . rcases h2 with⟨n2,rfl⟩|⟨n2,_⟩
        . rfl
        . exact E8 n2 n1
      . rcases h2 with⟨n2,rfl⟩|⟨n2,es',hl',he',rfl⟩
        . exact E8 n1 n2
        . have:es=es':=by apply List.ext_getElem W9;intro j h1 h2;exact ih xs[j] ys[j] es[j] es'[j] (he j _ _ _ (A6 W9) (A6 W9) (A6 h1)) (he' j _ _ _ (A6 W9) (A6 W9) (A6 h2))
          rw[this]
    . cases e1;obtain⟨_,_,⟨o,n',eo,c1,_⟩,_⟩:=I.list s1;obtain⟨_,_,⟨o',eo',c2,_⟩,_⟩:=I.tuple t1;rw[eo]at eo';cases eo';rw[c1]at c2;exact E8 c2 X5
  . rcases h2 with⟨b1,b2,rfl⟩|⟨p',q',xs',ys',e1,e2,t1,t2,h2⟩|⟨p',q',xs',ys',e1,e2,t1,t2,es',hl',he',rfl⟩
    . exact(flat_ref b1).elim
    . cases e1;obtain⟨_,_,⟨o,n',eo,c1,_⟩,_⟩:=I.list t1;obtain⟨_,_,⟨o',eo',c2,_⟩,_⟩:=I.tuple s1;rw[eo]at eo';cases eo';rw[c1]at c2;exact E8 c2 X5
    . cases e1;cases e2;have z1:=I.tuple_inj s1 t1;have z2:=I.tuple_inj s2 t2;subst z1 z2;have:es=es':=by
       apply List.ext_getElem W9;intro j h1 h2;have hx:j<xs.length:=W9
       have hy:j<ys.length:=W9
       exact ih xs[j] ys[j] es[j] es'[j] (he j _ _ _ (A6 hx) (A6 hy) (A6 h1)) (he' j _ _ _ (A6 hx) (A6 hy) (A6 h2))
      rw[this]
def cd7(I:Inv X ζ O H s){n:Nat}{x:V}{ys:a_}{us:ao}{es:bw}(r:Vals ys us)(hl:es.length=ys.length)(he:∀(j:Nat) y e,ys[j]?=some y->es[j]?=some e->EqD X.K H n y x e):
 ∃e:Value->Bool,(∀u∈us,∃y,RelV y u/\EqD X.K H n y x (e u))/\us.any e=es.any id:=by
 refine⟨λu=>@decide (∃y,RelV y u/\EqD X.K H n y x true) (Classical.propDecidable _),?_,?_⟩
 . intro u hu;obtain⟨j,hj,rfl⟩:=R1 hu;obtain⟨y,ey,ry⟩:=iB r hj;have lj:j<es.length:=by rw[hl,r.length];exact hj
   have q:=he j y es[j] ey (A6 lj);refine⟨y,ry,?_⟩;by_cases c:∃y,RelV y us[j]/\EqD X.K H n y x true
   . obtain⟨y',ry',q'⟩:=c;have:=ry.inj ry';subst this;simp only[show(∃y,RelV y us[j]/\EqD X.K H n y x true) from⟨y,ry,q'⟩,decide_true];exact q'
   . simp only[c,decide_false];cases eb:es[j]with
     |false=>rw[eb]at q;exact q
     |true=>rw[eb]at q;exact E8 ⟨y,ry,q⟩ c
 . rw[Q4,Q8,Q8];constructor
   . rintro⟨u,hu,c⟩;obtain⟨j,hj,rfl⟩:=R1 hu;obtain⟨y,ey,ry⟩:=iB r hj;have lj:j<es.length:=by rw[hl,r.length];exact hj
     obtain⟨y',ry',q'⟩:=@of_decide_eq_true _ (Classical.propDecidable _) c;have:=ry.inj ry';subst this;have q:=he j y es[j] ey (A6 lj);exact⟨es[j],K3 lj,EqD.det I n y x es[j] true q q'⟩
   . rintro⟨e,hm,c⟩;obtain⟨j,hj,rfl⟩:=R1 hm;have c':es[j]=true:=c;have lj:j<us.length:=by rw[<-r.length,<-hl];exact hj
     obtain⟨y,ey,ry⟩:=iB r lj;have q:=he j y es[j] ey (A6 hj);rw[c']at q;exact⟨us[j],K3 lj,@F7 _ (Classical.propDecidable _) ⟨y,ry,q⟩⟩
def eg3{n:Nat}(hu:X.A.units+n+1<cLine):OpR X (compareOp .In) (du4 X.K n false):=by
 intro ζ s O H x y v u Q I rx ry h;rcases h with⟨p,ys,rfl,hs,es,hl,he,q⟩|⟨i,j,rfl,rfl,q⟩
 . cases ry;rcases hs with hs|hs
   . refine z12 (I.list hs) λits r pl _=>?_;obtain⟨e,h1,h2⟩:=cd7 I r hl he;refine SeqAt.in_listAt e pl.isList (λy hy=>?_) ?_
     . obtain⟨y',ry',q'⟩:=h1 y (by simpa using hy);exact uA I n (by show X.A.units+1+n<cLine;omega) ry' rx q'
     . exact⟨.bl _,H,I,by rw[List.any_toArray,h2];rfl,q⟩
   . refine z12 (I.tuple hs) λits r pl _=>?_;obtain⟨e,h1,h2⟩:=cd7 I r hl he;refine SeqAt.in_tupleAt e (show s.heap.IsTuple p its.toArray from pl) (λy hy=>?_) ?_
     . obtain⟨y',ry',q'⟩:=h1 y (by simpa using hy);exact uA I n (by show X.A.units+1+n<cLine;omega) ry' rx q'
     . exact⟨.bl _,H,I,by rw[List.any_toArray,h2];rfl,q⟩
 . exact dp1 s O H _ _ v u Q I rx ry ⟨i,j,rfl,rfl,q⟩
def em5:R2:=λx y H Q=>(y=.non/\Q (.bl (decide (x=.non))) H)\/(∃a b,x=.bl a/\y=.bl b/\Q (.bl (a==b)) H)
def ae9:OpR X (compareOp .Is) em5:=by
 intro ζ s O H x y v u Q I rx ry h;rcases h with h|⟨a,b,rfl,rfl,q⟩
 . exact ed5 s O H x y v u Q I rx ry h
 . cases rx;cases ry;exact is_bool ⟨.bl _,H,I,rfl,q⟩
end
def av2(z:Str)(k:Nat):Str:=⟨((List.replicate k z.cps.toList).flatten).toArray⟩
theorem av8(z:Str):∀(k:Nat)(acc:az),List.foldl (λx1 x2=>x1++x2) acc.toArray (List.replicate k z.cps)=(acc++(List.replicate k z.cps.toList).flatten).toArray
 |0,acc=>by simp
 |k+1,acc=>by
  rw[J8,Q3,J8,D0];have e:acc.toArray++z.cps=(acc++z.cps.toList).toArray:=X4
  rw[e,av8 z k,K0]
section
variable{X:Cx}
def dm7(K:A5):R2:=λx y H Q=>∃l b xs zs,x=.ref l/\y=.ref b/\SqS K H l xs/\SqS K H b zs/\xs.length+zs.length<=sizeLine/\∀p,H p=none->Q (.ref p) (upd H p (.lst (xs++zs)))
def op_catS:OpR X (binaryOp .Add) (dm7 X.K):=by
 intro ζ s O H x y v u Q I rx ry h;refine z45 h λl b xs zs zz zy hH hB hz q=>?_;clear h;subst zz zy;cases rx;cases ry;refine z22 (I.listS hH) λits n r e _=>?_;refine z22 (I.listS hB) λits2 n2 r2 e2 _=>?_;have hl:=r.length;have hl2:=r2.length;refine PySem.P.add_list e e2 ?_ (by rw[B6,B6];omega);have ea:its.toArray++its2.toArray=(its++its2).toArray:=X4
 rw[ea];exact⟨.ref _,_,I.lnew (t':=s.toks) (r.append r2) (by rw[E7];omega),rfl,q _ I.fresh⟩
def da8(K:A5):R2:=λx y H Q=>xX (λi j=>.int (i+j)) x y H Q\/fi0 x y H Q\/dm7 K x y H Q\/dj8 K x y H Q
def bF(K:A5)(hK:X.K=K:=by rfl):OpR X (binaryOp .Add) (da8 K):=by subst hK;exact op_add.or (op_add_str.or (op_catS.or eq2))
def dc8:R2:=λx y H Q=>∃z k,x=.str z/\y=.int k/\-(2^63)<=k/\k<2^62/\z.length*k.toNat<=sizeLine/\Q (.str (av2 z k.toNat)) H
def ey1:OpR X (binaryOp .Mult) dc8:=by
 intro ζ s O H x y v u Q I rx ry h;refine z25 h λz k zz zy h1 h2 hz q=>?_;clear h;subst zz zy;obtain⟨t,rfl⟩:=rx;obtain⟨t',rfl⟩:=ry;have hn:=F8;refine PySem.P.mul_str ?_ ?_ ?_ ?_
 . rw[F6 W9,F6 W9];rfl
 . intro hk _;have hk1:1<=k:=W9
   have:((z.length:Int))<=16777216:=by have:z.length*1<=z.length*k.toNat:=Nat.mul_le_mul_left _ W9;omega
   have hq:(2^63-1:Int)/k>=(z.length:Int):=by
    refine(Int.le_ediv_iff_mul_le W9).mpr ?_;have e:(z.length:Int)*k=((z.length*k.toNat:Nat):Int):=by rw[Int.natCast_mul,Int.toNat_of_nonneg W9]
    rw[e];omega
   omega
 . intro _ _;unfold Builtin.Str.tooLong;exact F6 W9
 . split
   . next hk=>
     have e:av2 z k.toNat=Str.empty:=by
      have:k.toNat=0:=W9
      rw[this];rfl
     rw[e]at q;exact⟨X5,.str _,H,I.tok _,⟨_,rfl⟩,q⟩
   . next hk=>
     split
     . next hc=>
       have e:av2 z k.toNat=z:=by
        rw[V8,S5,S5]at hc;rcases hc with hc|hc
        . subst hc;simp[av2]
        . have hz0:z.cps.toList=[]:=by
           have:z.cps.toList.length=0:=by rw[E6];exact hc
           exact List.eq_nil_of_length_eq_zero this
          have:(List.replicate k.toNat z.cps.toList).flatten=[]:=by rw[hz0];simp
          unfold av2;rw[this];obtain⟨⟨l⟩⟩:=z;simp at hz0;rw[hz0]
       rw[e]at q;exact⟨.str _,H,I,⟨_,rfl⟩,q⟩
     . have e:(⟨(List.replicate k.toNat z.cps).foldl (· ++ ·) #[]⟩:Str)=av2 z k.toNat:=by have:=av8 z k.toNat [];rw[M9]at this;unfold av2;rw[<-this]
       rw[e];refine⟨?_,.str _,H,I.tok _,⟨_,rfl⟩,q⟩;show((List.replicate k.toNat z.cps.toList).flatten.toArray).size<=sizeLine;rw[B6,dd9,E6,Nat.mul_comm];exact hz
def do7:R2:=λx y H Q=>ex6 x y H Q\/dc8 x y H Q
def kY:OpR X (binaryOp .Mult) do7:=op_mulB.or ey1
end
end L2
namespace TL
open L2
section
variable{Jn:gX}{K:A5}{cn:aa}{E:XK}{As:ag}{H:Hp}{Z:aq}{Q:VK}
def WpE.val(w:WpE K cn E As H Z [] Q (.ok t))(zi:∀a,Z a->H a≠none)(r:Rep K cn H Z t v []):Q v H:=
 w v H Z [] ⟨Same.refl _,λ_ h=>h,λ_ h=>.inl h,zi,r,J2,fH,fH⟩
def WpE.newL(w:WpE K cn E As H Z [] Q (.ok (.lst true ts)))(zi:∀a,Z a->H a≠none)(r:Reps K cn H Z ts vs [])(p:Addr)(hp:H p=none):Q (.ref p) (L2.upd H p (.lst vs)):=by
 have m:=Mo.new (.lst vs) hp zi;refine w (.ref p) _ Z [p] ⟨m.same,m.zz,m.zn,m.zi,?_,X4,λb hb=>?_,λb hb=>?_⟩
 . simp only[Rep];exact⟨p,vs,[],rfl,rfl,gC,r.same m.same m.zz⟩
 . rw[C5.mp hb];exact λz=>zi p z hp
 . rw[C5.mp hb];exact .inl hp
def WpE.newT(w:WpE K cn E As H Z [] Q (.ok (.tup ts)))(zi:∀a,Z a->H a≠none)(r:Reps K cn H Z ts vs [])(p:Addr)(hp:H p=none):Q (.ref p) (L2.upd H p (.tup vs)):=by have m:=Mo.new (.tup vs) hp zi;refine w (.ref p) _ Z [] ⟨m.same,m.zz,m.zn,m.zi,?_,J2,fH,fH⟩;simp only[Rep];exact⟨p,vs,rfl,SqT.of gC,r.same m.same m.zz⟩
theorem Rep.int{i:Int}{v:V}{A:av}(h:Rep K cn H Z (.int i) v A):v=.int i:=by simp only[Rep]at h;exact h.1
theorem Rep.str{i:Str}{v:V}{A:av}(h:Rep K cn H Z (.str i) v A):v=.str i:=by simp only[Rep]at h;exact h.1
theorem Rep.bl(h:Rep K cn H Z (.bl i) v A):v=.bl i:=by simp only[Rep]at h;exact h.1
theorem Rep.non(h:Rep K cn H Z .non v A):v=.non:=by simp only[Rep]at h;exact h.1
def Rep.tupS(h:Rep K cn H Z (.tup ts) v A):∃a vs,v=.ref a/\SqT K H a vs/\Reps K cn H Z ts vs A:=by simp only[Rep]at h;exact h
def kU(i:Int):Rep K cn H Z (.int i) (.int i) []:=by simp[Rep]
def uJ(i:Bool):Rep K cn H Z (.bl i) (.bl i) []:=by simp[Rep]
def ai4(i:Str):Rep K cn H Z (.str i) (.str i) []:=by simp[Rep]
noncomputable def bR:T->T->Res T
 |.int i,.int j=>.ok (.int (i+j))
 |.str a,.str b=>gate (a.length+b.length<=sizeLine) (.ok (.str (a++b)))
 |.lst _ xs,.lst _ ys=>gate ((bB xs&&bB ys)=true/\xs.length+ys.length<=sizeLine) (.ok (.lst true (xs++ys)))
 |.tup xs,.tup ys=>gate ((bB xs&&bB ys)=true/\xs.length+ys.length<=sizeLine/\xs.isEmpty=false/\ys.isEmpty=false) (.ok (.tup (xs++ys)))
 |_,_=>.no
def ey9:qC K cn (da8 K) bR:=λE As H Z t u x y A B Q zi rt ru w=>by
 unfold bR at w;split at w
 . next i j=>rw[rt.int,ru.int];exact .inl ⟨i,j,rfl,rfl,w.val zi (kU _)⟩
 . next a b=>
   obtain⟨h,w⟩:=w.gate;rw[rt.str,ru.str];exact .inr (.inl ⟨a,b,rfl,rfl,h,w.val zi (ai4 _)⟩)
 . next o xs o' ys=>
   obtain⟨h,w⟩:=w.gate;rw[G8]at h;refine z33 rt.lstSq λa vs C zz hs r1 _=>?_;subst zz;refine z33 ru.lstSq λb ws D zz hs' r2 _=>?_;subst zz;exact .inr (.inr (.inl ⟨a,b,vs,ws,rfl,rfl,hs,hs',by rw[Reps.length xs r1,Reps.length ys r2];exact h.2,λp hp=>w.newL zi (Reps.append xs (r1.bareE h.1.1) (r2.bareE h.1.2)) p hp⟩))
 . next xs ys=>
   obtain⟨h,w⟩:=w.gate;rw[G8]at h;refine z22 rt.tupS λa vs zz hs r1=>?_;subst zz;refine z22 ru.tupS λb ws zz hs' r2=>?_;subst zz;have e1:=r1.isEmpty;have e2:=r2.isEmpty;refine .inr (.inr (.inr ⟨a,b,vs,ws,rfl,rfl,hs,hs',λz=>?_,by rw[Reps.length xs r1,Reps.length ys r2];exact h.2.1,λz=>?_,λ_ p hp=>w.newT zi (Reps.append xs (r1.bareE h.1.1) (r2.bareE h.1.2)) p hp⟩))
   . rw[z,h.2.2.1]at e1;cases e1
   . rw[z,h.2.2.2]at e2;cases e2
 . exact w.elim
def rA(f:Int->Int->Res T):T->T->Res T
 |.int i,.int j=>f i j
 |_,_=>.no
def ci0{g:Int->Int->T}{g':dh}(hg:∀i j H Z,Rep K cn H Z (g i j) (g' i j) []):qC K cn (xX g') (rA λi j=>.ok (g i j)):=λE As H Z t u x y A B Q zi rt ru w=>by
 unfold rA at w;split at w
 . next i j=>rw[rt.int,ru.int];exact⟨i,j,rfl,rfl,w.val zi (hg i j _ _)⟩
 . exact w.elim
def r_i{C:Int->Int->Prop}{g:Int->Int->T}{g':dh}(hg:∀i j H Z,Rep K cn H Z (g i j) (g' i j) []):qC K cn (rI C g') (rA λi j=>gate (C i j) (.ok (g i j))):=λE As H Z t u x y A B Q zi rt ru w=>by
 unfold rA at w;split at w
 . next i j=>
   obtain⟨h,w⟩:=WpE.gate w;rw[rt.int,ru.int];exact⟨i,j,rfl,rfl,h,w.val zi (hg i j _ _)⟩
 . exact w.elim
def cV:=rA λi j=>.ok (.int (i-j))
def ez9:qC K cn (xX λi j=>.int (i-j)) cV:=ci0 λ_ _ _ _=>kU _
def ltT:=rA λi j=>.ok (.bl (decide (i<j)))
def lM:=rA λi j=>.ok (.bl (decide (i<=j)))
def gtT:=rA λi j=>.ok (.bl (decide (j<i)))
def geT:=rA λi j=>.ok (.bl (decide (j<=i)))
def ft3:qC K cn (xX λi j=>.bl (decide (i<j))) ltT:=ci0 λ_ _ _ _=>uJ _
def fl3:qC K cn (xX λi j=>.bl (decide (i<=j))) lM:=ci0 λ_ _ _ _=>uJ _
def fz2:qC K cn (xX λi j=>.bl (decide (j<i))) gtT:=ci0 λ_ _ _ _=>uJ _
def fv3:qC K cn (xX λi j=>.bl (decide (j<=i))) geT:=ci0 λ_ _ _ _=>uJ _
noncomputable def iX:=rA λi j=>gate (ag0 i j) (.ok (.int (i/j)))
def eq3:qC K cn (rI ag0 λi j=>.int (i/j)) iX:=r_i λ_ _ _ _=>kU _
noncomputable def cQ:=rA λi j=>gate (0<j) (.ok (.int (i%j)))
def fs2:qC K cn (rI (λ_ j=>0<j) λi j=>.int (i%j)) cQ:=r_i (C:=λ_ j=>0<j) λ_ _ _ _=>kU _
noncomputable def ah0:=rA λi j=>gate (ak2 i j) (.ok (.int (i^j.toNat)))
def ec9:qC K cn (rI ak2 λi j=>.int (i^j.toNat)) ah0:=r_i λ_ _ _ _=>kU _
def mulOk(i j:Int):Prop:=(-(2^64)<i/\i<2^64)\/(-(2^64)<j/\j<2^64)\/Builtin.Int.intBits i+Builtin.Int.intBits j<=134217728
def mulOk.ok(h:mulOk i j):IntMulOk i j:=by
 rcases h with h|h|h
 . exact em2 h.1 h.2
 . exact eo1 h.1 h.2
 . exact cy6 h
noncomputable def nF:T->T->Res T
 |.int i,.int j=>gate (mulOk i j) (.ok (.int (i*j)))
 |.str z,.int k=>gate (-(2^63)<=k/\k<2^62/\z.length*k.toNat<=sizeLine) (.ok (.str (av2 z k.toNat)))
 |_,_=>.no
def fx0:qC K cn do7 nF:=λE As H Z t u x y A B Q zi rt ru w=>by
 unfold nF at w;split at w
 . next i j=>
   obtain⟨h,w⟩:=w.gate;rw[rt.int,ru.int];exact .inl ⟨i,j,rfl,rfl,h.ok,w.val zi (kU _)⟩
 . next z k=>
   obtain⟨h,w⟩:=w.gate;rw[rt.str,ru.int];exact .inr ⟨z,k,rfl,rfl,h.1,h.2.1,h.2.2,w.val zi (ai4 _)⟩
 . exact w.elim
def yF:T->Res T
 |.int i=>.ok (.int (-i))
 |_=>.no
def fa1:R1R K cn (rU λi=>.int (-i)) yF:=λE As H Z t x A Q zi rt w=>by
 unfold yF at w;split at w
 . next i=>rw[rt.int];exact⟨i,rfl,w.val zi (kU _)⟩
 . exact w.elim
def isT:T->T->Res T
 |.bl a,.bl b=>.ok (.bl (a==b))
 |.non,.non=>.ok (.bl true)
 |_,.non=>.ok (.bl false)
 |_,_=>.no
theorem Rep.notNon(h:Rep K cn H Z t v A)(n:t≠ .non):v≠ .non:=by
 cases t with
 |non=>exact E8 rfl n
 |bl _=>rw[h.bl];exact λz=>nomatch z
 |int _=>rw[h.int];exact λz=>nomatch z
 |str _=>rw[h.str];exact λz=>nomatch z
 |ty _=>simp only[Rep]at h;rw[h.1];exact λz=>nomatch z
 |lst o ts=>refine z31 h.lstSq λa vs C zz _=>?_;subst zz;exact λz=>nomatch z
 |tup ts=>refine z21 h.tupS λa vs zz _=>?_;subst zz;exact λz=>nomatch z
 |ins o c ns ts=>
  cases o with
  |true=>simp only[Rep]at h;refine z51 h λa C dx vs B zz _=>?_;clear h;subst zz;exact λz=>nomatch z
  |false=>simp only[Rep]at h;refine z41 h λa C dx vs zz _=>?_;clear h;subst zz;exact λz=>nomatch z
def fy2:qC K cn em5 isT:=λE As H Z t u x y A B Q zi rt ru w=>by
 unfold isT at w;split at w
 . next a b=>rw[rt.bl,ru.bl];exact .inr ⟨a,b,rfl,rfl,w.val zi (uJ _)⟩
 . rw[rt.non,ru.non];exact .inl ⟨rfl,w.val zi (uJ _)⟩
 . next h1 h2=>rw[ru.non];exact .inl ⟨rfl,by rw[F6 (rt.notNon (by rintro rfl;exact h2 rfl))];exact w.val zi (uJ _)⟩
 . exact w.elim
def iA:T->T->Res T
 |.non,.non=>.ok (.bl false)
 |_,.non=>.ok (.bl true)
 |_,_=>.no
def ef1:qC K cn (λx y H Q=>y=.non/\Q (.bl (!decide (x=.non))) H) iA:=λE As H Z t u x y A B Q zi rt ru w=>by
 unfold iA at w;split at w
 . rw[rt.non,ru.non];exact⟨rfl,w.val zi (uJ _)⟩
 . next h2=>rw[ru.non];exact⟨rfl,by rw[F6 (rt.notNon (by rintro rfl;exact h2 rfl))];exact w.val zi (uJ _)⟩
 . exact w.elim
def cx6:T->Option V
 |.non=>some .non
 |.bl b=>some (.bl b)
 |.int i=>some (.int i)
 |.str z=>some (.str z)
 |_=>none
def qF(t u:T):Option Bool:=(cx6 t).bind λx=>(cx6 u).map λy=>eqV x y
mutual
def tN:Nat->T->T->Option Bool
 |n+1,.lst _ xs,.lst _ ys=>if xs.length=ys.length then(uO n xs ys).map λes=>es.all id else some false
 |n+1,.tup xs,.tup ys=>(uO n xs ys).map λes=>es.all id&&xs.length==ys.length
 |_,t,u=>qF t u
def uO:Nat->List T->List T->Option (List Bool)
 |n,x::xs,y::ys=>(tN n x y).bind λb=>(uO n xs ys).map λes=>b::es
 |_,_,_=>some []
end
def bs8{t:T}{x x':V}{A:av}(rt:Rep K cn H Z t x A)(h:cx6 t=some x'):x=x'/\uH x=true:=by
 cases t<;>first
  |(cases h;done)
  |(cases h;obtain⟨rfl,_⟩:=rt;exact⟨rfl,rfl⟩)
def dp0(rt:Rep K cn H Z t x A)(ru:Rep K cn H Z u y B)(h:qF t u=some b):uH x=true/\uH y=true/\b=eqV x y:=by unfold qF at h;obtain⟨x',hx,h⟩:=O8.mp h;obtain⟨y',hy,rfl⟩:=G4.mp h;obtain⟨rfl,fx⟩:=bs8 rt hx;obtain⟨rfl,fy⟩:=bs8 ru hy;exact⟨fx,fy,rfl⟩
theorem bs9(rt:Rep K cn H Z t x A)(ru:Rep K cn H Z u y B)(h:qF t u=some b):EqD K H n x y b:=by
 have q:=dp0 rt ru h;cases n with
 |zero=>exact q
 |succ n=>exact .inl q
theorem by1(ih:∀(t u:T){x y:V}{A B:av}{b:Bool},Rep K cn H Z t x A->Rep K cn H Z u y B->tN n t u=some b->EqD K H n x y b):∀(ts us:aw){vs ws:a_}{A B:av}{es:bw},Reps K cn H Z ts vs A->Reps K cn H Z us ws B->uO n ts us=some es->
 es.length=min ts.length us.length/\∀(j:Nat) x y e,vs[j]?=some x->ws[j]?=some y->es[j]?=some e->EqD K H n x y e
 |x::xs,y::ys,vs,ws,A,B,es,r1,r2,h=>by
  simp only[Reps]at r1 r2;refine z43 r1 λv vs' B1 C1 zz zy a1 a2=>?_;clear r1;subst zz zy;refine z43 r2 λw ws' B2 C2 zz zy b1 b2=>?_;clear r2;subst zz zy;rw[uO,O8]at h;obtain⟨b,h1,h⟩:=h;rw[G4]at h;obtain⟨es',h2,rfl⟩:=h;obtain⟨q1,q2⟩:=by1 ih xs ys a2 b2 h2;refine⟨by simp only[List.length_cons];omega,λj x' y' e e1 e2 e3=>?_⟩;cases j with
  |zero=>simp at e1 e2 e3;subst e1 e2 e3;exact ih x y a1 b1 h1
  |succ j=>exact q2 j x' y' e (by simpa using e1) (by simpa using e2) (by simpa using e3)
 |[],us,vs,ws,A,B,es,r1,r2,h=>by
  have e:uO n [] us=some []:=by cases us<;>rfl
  rw[e]at h;cases h;exact⟨X4,λj x y e _ _ e3=>by simp at e3⟩
 |t::ts,[],vs,ws,A,B,es,r1,r2,h=>by have e:uO n (t::ts) []=some []:=rfl;rw[e]at h;cases h;exact⟨X4,λj x y e _ _ e3=>by simp at e3⟩
theorem cc1(n:Nat):∀(t u:T){x y:V}{A B:av}{b:Bool},Rep K cn H Z t x A->Rep K cn H Z u y B->tN n t u=some b->EqD K H n x y b:=by
 induction n with
 |zero=>
  intro t u x y A B b rt ru h;have e:tN 0 t u=qF t u:=by cases t<;>cases u<;>rfl
  rw[e]at h;exact bs9 rt ru h
 |succ n ih=>
  intro t u x y A B b rt ru h;by_cases h1:∃o o' xs ys,t=.lst o xs/\u=.lst o' ys
  . refine z41 h1 λo o' xs ys zz zy=>?_;clear h1;subst zz zy;refine z33 rt.lstSq λa vs C zz hs r1 _=>?_;subst zz;refine z33 ru.lstSq λb' ws D zz hs' r2 _=>?_;subst zz;rw[tN]at h;have l1:=Reps.length xs r1;have l2:=Reps.length ys r2;split at h
    . next hl=>
      rw[G4]at h;obtain⟨es,h1,rfl⟩:=h;obtain⟨q1,q2⟩:=by1 ih xs ys r1 r2 h1;exact .inr (.inl ⟨a,b',vs,ws,rfl,rfl,hs.sq,hs'.sq,.inr ⟨W9,es,by rw[q1];omega,q2,rfl⟩⟩)
    . next hl=>
      cases h;exact .inr (.inl ⟨a,b',vs,ws,rfl,rfl,hs.sq,hs'.sq,.inl ⟨W9,rfl⟩⟩)
  . by_cases h2:∃xs ys,t=.tup xs/\u=.tup ys
    . refine z21 h2 λxs ys zz zy=>?_;clear h2;subst zz zy;refine z22 rt.tupS λa vs zz hs r1=>?_;subst zz;refine z22 ru.tupS λb' ws zz hs' r2=>?_;subst zz;rw[tN]at h;have l1:=Reps.length xs r1;have l2:=Reps.length ys r2;rw[G4]at h;obtain⟨es,h1,rfl⟩:=h;obtain⟨q1,q2⟩:=by1 ih xs ys r1 r2 h1;exact .inr (.inr ⟨a,b',vs,ws,rfl,rfl,hs,hs',es,by rw[q1];omega,q2,by rw[l1,l2]⟩)
    . have e:tN (n+1) t u=qF t u:=by cases t<;>cases u<;>first|rfl|exact E8 ⟨_,_,_,_,rfl,rfl⟩ h1|exact E8 ⟨_,_,rfl,rfl⟩ h2
      rw[e]at h;exact bs9 rt ru h
def eN:Nat:=6
def ad2:T->Bool
 |.lst _ _=>true
 |.tup _=>true
 |_=>false
def cu5:T->T->Bool
 |.bl _,.int _=>false
 |.int _,.bl _=>false
 |t,u=>!ad2 t&&!ad2 u
def eqB(t u:T):Option Bool:=if ad2 t=true/\ad2 u=true then tN eN t u else if cu5 t u=true then qF t u else none
def fT(t u:T):Res T:=match eqB t u with
 |some b=>.ok (.bl b)
 |none=>.no
theorem Rep.seqRef(h:Rep K cn H Z t v A)(i:ad2 t=true):∃a,v=.ref a:=by
 cases t with
 |lst o ts=>refine z31 h.lstSq λa vs C zz _=>?_;subst zz;exact⟨a,rfl⟩
 |tup ts=>refine z21 h.tupS λa vs zz _=>?_;subst zz;exact⟨a,rfl⟩
 |_=>cases i
def cd4 (rt : Rep K cn H Z t x A) (ru : Rep K cn H Z u y B) (hs : cu5 t u = true) (h : qF t u = some b) : dx2 x y = true ∧ b = decide (x = y) := by
  unfold qF at h
  obtain ⟨x', hx, h⟩ := O8.mp h
  obtain ⟨y', hy, rfl⟩ := G4.mp h
  cases t <;> first
    | (cases hx; done)
    | (cases u <;> first
      | (cases hy; done)
      | (cases hs; done)
      | (cases hx; cases hy; obtain ⟨rfl, _⟩ := rt; obtain ⟨rfl, _⟩ := ru; exact ⟨rfl, by first | rfl | (exact dec_int.symm) | (exact dec_bl.symm) | (exact dec_str.symm) | (symm; exact F6 (fun z => nomatch z))⟩))
def fy3:qC K cn (ci5 K eN) fT:=λE As H Z t u x y A B Q zi rt ru w=>by
 unfold fT at w;split at w
 . next b h=>
   unfold eqB at h;split at h
   . next hs=>
     obtain⟨p,rfl⟩:=rt.seqRef hs.1;obtain⟨q,rfl⟩:=ru.seqRef hs.2;exact .inr ⟨p,q,b,rfl,rfl,cc1 eN t u rt ru h,w.val zi (uJ _)⟩
   . split at h
     . next hs=>
       obtain⟨q1,rfl⟩:=cd4 rt ru hs h;exact .inl ⟨q1,w.val zi (uJ _)⟩
     . cases h
 . exact w.elim
def neT(t u:T):Res T:=if cu5 t u=true then match qF t u with
 |some b=>.ok (.bl (!b))
 |none=>.no else .no
def fn3:qC K cn rNe neT:=λE As H Z t u x y A B Q zi rt ru w=>by
 unfold neT at w;split at w
 . next hs=>
   split at w
   . next b h=>
     obtain⟨q1,rfl⟩:=cd4 rt ru hs h;exact⟨q1,w.val zi (uJ _)⟩
   . exact w.elim
 . exact w.elim
def occ(j i:Str):Bool:=!(Builtin.Str.occurrences j i 0 j.length 1).isEmpty
def uM(t:T):List T->Option (List Bool)
 |[]=>some []
 |u::us=>(tN eN u t).bind λb=>(uM t us).map λes=>b::es
theorem ay5(rt:Rep K cn H Z t x A):∀(us:aw){ws:a_}{B:av}{es:bw},Reps K cn H Z us ws B->uM t us=some es->es.length=ws.length/\∀(j:Nat) y e,ws[j]?=some y->es[j]?=some e->EqD K H eN y x e
 |[],ws,B,es,r,h=>by simp only[Reps]at r;obtain⟨rfl,_⟩:=r;cases h;exact⟨rfl,λj y e e1=>by simp at e1⟩
 |u::us,ws,B,es,r,h=>by
  simp only[Reps]at r;refine z43 r λw ws' B1 C1 zz zy a1 a2=>?_;clear r;subst zz zy;rw[uM,O8]at h;obtain⟨b,h1,h⟩:=h;rw[G4]at h;obtain⟨es',h2,rfl⟩:=h;obtain⟨q1,q2⟩:=ay5 rt us a2 h2;refine⟨by simp[q1],λj y e e1 e2=>?_⟩;cases j with
  |zero=>simp at e1 e2;subst e1 e2;exact cc1 eN u t a1 rt h1
  |succ j=>exact q2 j y e (by simpa using e1) (by simpa using e2)
def inT(neg:Bool):T->T->Res T
 |t,.lst _ us=>match uM t us with
  |some es=>.ok (.bl (if neg=true then !es.any id else es.any id))
  |none=>.no
 |t,.tup us=>match uM t us with
  |some es=>.ok (.bl (if neg=true then !es.any id else es.any id))
  |none=>.no
 |.str i,.str j=>.ok (.bl (if neg=true then !occ j i else occ j i))
 |_,_=>.no
def fu3:qC K cn (du4 K eN neg) (inT neg):=λE As H Z t u x y A B Q zi rt ru w=>by
 unfold inT at w;split at w
 . next t o us=>
   split at w
   . next es h=>
     refine z33 ru.lstSq λa vs C zz hs r1 _=>?_;subst zz;obtain⟨q1,q2⟩:=ay5 rt us r1 h;exact .inl ⟨a,vs,rfl,.inl hs.sq,es,q1,q2,w.val zi (uJ _)⟩
   . exact w.elim
 . next t us=>
   split at w
   . next es h=>
     refine z22 ru.tupS λa vs zz hs r1=>?_;subst zz;obtain⟨q1,q2⟩:=ay5 rt us r1 h;exact .inl ⟨a,vs,rfl,.inr hs,es,q1,q2,w.val zi (uJ _)⟩
   . exact w.elim
 . next i j=>rw[rt.str,ru.str];exact .inr ⟨i,j,rfl,rfl,w.val zi (uJ _)⟩
 . exact w.elim
end
end TL
namespace L2
section
variable{X:Cx}(K:A5)
def ez5(hr:Room k X.A)(hn:n<=60:=by decide)(hK:X.K=K:=by rfl):OpR X (compareOp .Eq) (ci5 K n):=by subst hK;exact ej3 (by have:=hr.units;omega)
def ai1(hr:Room k X.A)(hn:n<=60:=by decide)(hK:X.K=K:=by rfl):OpR X (compareOp .In) (du4 K n false):=by subst hK;exact eg3 (by have:=hr.units;omega)
def fq3(hK:X.K=K:=by rfl):IxR X (rIx K):=by subst hK;exact em8
def ew5:V->Option Int->Option Int->Hp->VK->Prop:=λx lo hi H Q=>eo7 K x lo hi H Q\/ey3 K x lo hi H Q\/eg6 x lo hi H Q
def yC(hK:X.K=K:=by rfl):SlR X (ew5 K):=by subst hK;exact SlR.or dp9 (SlR.or ea7 es6)
def bZ(ha:PE X a ta)(he:∀whole,isTrue a X.env whole=(do let v<-whole;standAt a.pos;holding [v] (truthy v)))(hK:X.K=K:=by rfl):
 PT X a (λO H Q=>ta O H λx H'=>∃k,bh9 K x H' k/\Q k H'):=by
 subst hK;exact da3 ha he
def fY(hl:PE X l tl)(hK:X.K=K:=by rfl):PI X tg l (TL.iV K tl):=by
 subst hK;intro ζ s O H R I h;refine jI (hl s O H _ I h) λv s1 x H1 I1 r1 q1=>?_;rcases q1 with⟨a,e,q⟩|⟨z,e,q⟩
 . subst e;cases r1;rcases q with⟨⟨xs,hq⟩,q⟩|⟨⟨xs,hq⟩,q⟩
   . refine z12 (I1.list hq) λits rv p hz=>?_;refine S7 p.isList ?_;refine⟨s1.heap.objs.size,[s1.heap.objs.size],_,_,H1,rfl,I1.kept (t':=s1.toks) λb o e=>B0 _ e,cd9 a _,⟨_,D6 _ rfl,rfl,rfl⟩,λb hb=>?_,q⟩;have e:b=s1.heap.objs.size:=by simpa using hb
     subst e;exact I1.fpOk (C9 _) (I1.hok.fresh (C9 _))
   . refine z12 (I1.tuple hq) λits rv p hz=>?_;refine wpAny_pyIter_tuple (show s1.heap.IsTuple a its.toArray from p) ?_;refine⟨s1.heap.objs.size,[s1.heap.objs.size],_,_,H1,rfl,I1.kept (t':=s1.toks) λb o e=>B0 _ e,cg6 a _,⟨_,D6 _ rfl,rfl,rfl⟩,λb hb=>?_,q⟩;have e:b=s1.heap.objs.size:=by simpa using hb
     subst e;exact I1.fpOk (C9 _) (I1.hok.fresh (C9 _))
 . subst e;obtain⟨t,rfl⟩:=r1;have fp:∀b∈[s1.heap.objs.size],uR X ζ H1 b:=λb hb=>by
    have e:b=s1.heap.objs.size:=by simpa using hb
    subst e;exact I1.fpOk (C9 _) (I1.hok.fresh (C9 _))
   cases ha:z.cps.all (· <128)
   . exact wpAny_pyIter_wide ha ⟨s1.heap.objs.size,[s1.heap.objs.size],_,_,H1,rfl,I1.kept (t':=s1.toks) λb o e=>B0 _ e,ck9 _ z t,⟨_,D6 _ rfl,rfl,rfl⟩,fp,q⟩
   . exact wpAny_pyIter_ascii ha ⟨s1.heap.objs.size,[s1.heap.objs.size],_,_,H1,rfl,I1.kept (t':=s1.toks) λb o e=>B0 _ e,ck7 _ z t,⟨_,D6 _ rfl,rfl,rfl⟩,fp,q⟩
def fX(n:Nat)(hc:X.calm=true)(h:PGs X es t)
 (hn:(assignEach es X.env).length=n:=by rfl)(hst:(assignEach es X.env).findIdx? (·.1)=none:=by rfl)(hK:X.K=K:=by rfl):PG X (.Tuple es k pos) (db6 K n t):=by
 subst hK;exact ef4 hc h hn hst
def av1{o e:Expr}{es:bj}{to:TE}{t:TA}{name:Str}{apos cpos:Pos}{T id:String}{r:bh}(pa:PlainAttrs T)(slot:Slot T name id)(hty:typeOf (.builtin id)=pure (.type "method_descriptor"))(hm:MtR X id r)(ho:PE X o to)(ha:PA X (e::es) t)
 (hbase:attributeBase o name X.env (eval o X.env)=eval o X.env:=by rfl)
 (hfew:((backTo cpos (starEach (e::es) X.env)).all (λx=>!x.1)&&(backToKw cpos (keywordEach [] X.env)).all (λx=>x.1.isSome)
  &&decide ((e::es).length+([]:List Keyword).length+(if([]:List Keyword).isEmpty then 0 else 1)<30))=true:=by rfl)
 (hline:(apos.endLine==cpos.line)=true:=by rfl)(hs:starEach (e::es) X.env=(false,eval e X.env)::starEach es X.env:=by rfl)(hplain:(backTo cpos (starEach es X.env)).any (·.1)=false:=by rfl)(hK:X.K=K:=by rfl):
 PE X (.Call (.Attribute o name apos) (e::es) [] cpos) (tBM K T r to t):=by
 subst hK;exact fg0 pa slot hty hm ho ha hbase hfew hline hs hplain
def bM(hK:X.K=K:=by rfl):CallR X (.builtin "len") (ee5 K):=by subst hK;exact dt3
def al5(hK:X.K=K:=by rfl):CallR X (.builtin "abs") ev4:=de4
def bt8(hK:X.K=K:=by rfl):CallR X (.builtin "divmod") ch4:=cz2
def iM(hc:X.calm=true:=by rfl)(hK:X.K=K:=by rfl):CallR X (.builtin "all") (eb4 K):=by subst hK;exact de2 hc
def cu9(hc:X.calm=true:=by rfl)(hK:X.K=K:=by rfl):CallR X (.builtin "any") (ev6 K):=by subst hK;exact dp3 hc
def oJ(hc:X.calm=true:=by rfl)(hK:X.K=K:=by rfl):CallR X (.builtin "max") (dx3 K):=by subst hK;exact de0 hc
def jH(hc:X.calm=true:=by rfl)(hK:X.K=K:=by rfl):CallR X (.builtin "min") (dc6 K):=by subst hK;exact do1 hc
def db0:List V->Hp->VK->Prop:=λxs H Q=>∃p ys,xs=[.ref p]/\(SqL K H p ys\/SqT K H p ys)/\∀l,H l=none->Q (.ref l) (upd H l (.lst ys))
def iW(hK:X.K=K:=by rfl):CallR X (.type "list") (db0 K):=by subst hK;exact bh8
def dh2(hK:X.K=K:=by rfl):MtR X "str.join" (cb6 K):=by subst hK;exact eo2
end
end L2
namespace TL
open L2
section
variable{Jn:gX}{K:A5}{cn:aa}{E:XK}{As:ag}{H:Hp}{Z:aq}{Q:VK}
def aO:T->T->Res T
 |.lst _ ts,.int n=>match atI ts n with
  |some t=>.ok t
  |none=>.no
 |.tup ts,.int n=>match atI ts n with
  |some t=>.ok t
  |none=>.no
 |.str z,.int n=>if z.length<=sizeLine then match atI z.cps.toList n with
  |some c=>.ok (.str ⟨#[c]⟩)
  |none=>.no else .no
 |_,_=>.no
theorem Reps.atI(r:Reps K cn H Z ts vs A)(h:L2.atI ts n=some t):∃v B,L2.atI vs n=some v/\Rep K cn H Z t v B:=by unfold L2.atI at h⊢;rw[O8]at h;obtain⟨j,h1,h2⟩:=h;refine z22 (Reps.get ts r h2) λv B e rv _=>?_;exact⟨v,B,by rw[Reps.length ts r,h1];exact e,rv⟩
theorem ey8(ha:RB Jn K cn E ta a)(hb:RB Jn K cn E tb b):RB Jn K cn E (tOp (rIx K) ta tb) (aE aO a b):=λAs H Z U O F Q w=>by
 unfold aE at w;refine ha As H Z U O F _ ?_;cases e:a U with
 |ok t=>
  rw[e]at w;intro v H1 Z1 B p;refine hb As H1 Z1 U O (F.mo p.mo) _ ?_;simp only[Res.bind]at w;cases e2:b U with
  |ok u=>
   rw[e2]at w;intro v2 H2 Z2 B2 p2;have rt:=p.rep.same p2.same p2.zz;have m:=p.mo.trans p2.mo;have bN:∀{t:T}{v:V}{C:av},WpB K cn E As H Z Q (.ok t)->Rep K cn H2 Z2 t v C->Q v H2:=λw r=>w _ H2 Z2 _ ⟨m.same,m.zz,m.zn,m.zi,r⟩;simp only at w;unfold aO at w;split at w
   . next o ts n=>
     split at w
     . next t' h=>
       refine z33 rt.lstSq λq vs C zz hs r _=>?_;subst zz;refine z21 (r.atI h) λv' D e3 rv=>?_;exact .inl ⟨q,vs,n,v',rfl,p2.rep.int,hs.sq,e3,bN w rv⟩
     . exact w.elim
   . next ts n=>
     split at w
     . next t' h=>
       refine z22 rt.tupS λq vs zz hs r=>?_;subst zz;refine z21 (r.atI h) λv' D e3 rv=>?_;exact .inr (.inl ⟨q,vs,n,v',rfl,p2.rep.int,hs,e3,bN w rv⟩)
     . exact w.elim
   . next z n=>
     split at w
     . next hz=>
       split at w
       . next c h=>exact .inr (.inr ⟨z,n,c,rt.str,p2.rep.int,hz,h,bN w (ai4 _)⟩)
       . exact w.elim
     . exact w.elim
   . exact w.elim
  |ex x=>rw[e2]at w;exact WpX.ev w p.mo.ev
  |no=>rw[e2]at w;exact w
 |ex x=>rw[e]at w;exact w
 |no=>rw[e]at w;exact w
def fJ{α:Type}(xs:List α)(lo hi:a9):List α:=(xs.drop (HT.sIx xs.length 0 lo)).take (HT.sIx xs.length xs.length hi-HT.sIx xs.length 0 lo)
def tJ:T->Option Int->Option Int->Res T
 |.lst _ ts,lo,hi=>if bB ts=true then .ok (.lst true (fJ ts lo hi))else .no
 |.tup ts,lo,hi=>if bB ts=true/\¬(HT.sIx ts.length 0 lo=0/\HT.sIx ts.length ts.length hi=ts.length)then .ok (.tup (fJ ts lo hi))else .no
 |.str z,lo,hi=>if z.length<=sizeLine then .ok (.str (Txt.slice z lo hi))else .no
 |_,_,_=>.no
def Reps.cut(r:Reps K cn H Z ts vs [])(lo hi:a9):Reps K cn H Z (fJ ts lo hi) (aa4 vs lo hi) []:=by unfold fJ aa4;rw[Reps.length ts r];exact Reps.take _ _ (Reps.drop _ _ r)
theorem fh3:RSR K cn (ew5 K) tJ:=λE As H Z t x A lo hi Q zi rt w=>by
 cases t with
 |lst o ts=>
  simp only[tJ]at w;split at w
  . next h=>
    refine z33 rt.lstSq λq vs C zz hs r _=>?_;subst zz;exact .inl ⟨q,vs,rfl,hs.sq,λp hp=>w.newL zi ((r.bareE h).cut lo hi) p hp⟩
  . exact w.elim
 |tup ts=>
  simp only[tJ]at w;split at w
  . next h=>
    refine z22 rt.tupS λq vs zz hs r=>?_;subst zz;exact .inr (.inl ⟨q,vs,rfl,hs,by rw[Reps.length ts r];exact h.2,λp hp=>w.newT zi ((r.bareE h.1).cut lo hi) p hp⟩)
  . exact w.elim
 |str z=>
  simp only[tJ]at w;split at w
  . next h=>rw[rt.str];exact .inr (.inr ⟨z,rfl,h,w.val zi (ai4 _)⟩)
  . exact w.elim
 |_=>exact w.elim
def fa4(k:a9):T->Res T
 |.lst _ ts=>if bB ts=true/\k=some (-1)then .ok (.lst true ts.reverse)else .no
 |_=>.no
def fb3(a:a8)(s:da):Fr->Res T:=λU=>(a U).bind λt=>(s U).bind λk=>fa4 k t
def Reps.one1(r:Reps K cn H Z [t] vs A):∃v,vs=[v]/\Rep K cn H Z t v A:=by simp only[Reps]at r;obtain⟨v,w,B,C,rfl,rfl,r,rfl,rfl⟩:=r;exact⟨v,rfl,by simpa using r⟩
def Reps.two2(r:Reps K cn H Z [t,u] vs A):∃v w B C,vs=[v,w]/\A=B++C/\Rep K cn H Z t v B/\Rep K cn H Z u w C:=by simp only[Reps]at r;obtain⟨v,w,B,C,rfl,rfl,r,v2,w2,B2,C2,rfl,rfl,r2,rfl,rfl⟩:=r;exact⟨v,v2,B,B2,rfl,X4,r,r2⟩
def cY:List T->Res T
 |[.str z]=>if z.length<=sizeLine then .ok (.int z.length)else .no
 |[.lst _ ts]=>.ok (.int ts.length)
 |[.tup ts]=>.ok (.int ts.length)
 |_=>.no
def fe2:xY K cn (ee5 K) cY:=λE As H Z ts xs A Q zi r w=>by
 unfold cY at w;split at w
 . next z=>
   split at w
   . next h=>obtain⟨v,rfl,rv⟩:=r.one1;rw[rv.str];exact⟨_,_,rfl,⟨h,rfl⟩,w.val zi (kU _)⟩
   . exact w.elim
 . next o ts=>
   obtain⟨v,rfl,rv⟩:=r.one1;refine z33 rv.lstSq λq vs C zz hs r' _=>?_;subst zz;exact⟨_,_,rfl,.inl ⟨vs,hs.sq,rfl⟩,by rw[Reps.length ts r'];exact w.val zi (kU _)⟩
 . next ts=>
   obtain⟨v,rfl,rv⟩:=r.one1;refine z22 rv.tupS λq vs zz hs r'=>?_;subst zz;exact⟨_,_,rfl,.inr ⟨vs,hs,rfl⟩,by rw[Reps.length ts r'];exact w.val zi (kU _)⟩
 . exact w.elim
def aj8:List T->Res T
 |[.int i]=>.ok (.int (if i<0 then -i else i))
 |_=>.no
def fu1:xY K cn ev4 aj8:=λE As H Z ts xs A Q zi r w=>by
 unfold aj8 at w;split at w
 . next i=>rw[r.ints1];exact⟨i,rfl,w.val zi (kU _)⟩
 . exact w.elim
noncomputable def ac6:List T->Res T
 |[.int i,.int j]=>gate (ag0 i j) (.ok (.tup [.int (i/j),.int (i%j)]))
 |_=>.no
def fp3(i j:Int):Reps K cn H Z [.int i,.int j] [.int i,.int j] []:=by simp only[Reps];exact⟨_,_,[],[],rfl,rfl,kU _,_,_,[],[],rfl,rfl,kU _,rfl,rfl⟩
def du5:xY K cn ch4 ac6:=λE As H Z ts xs A Q zi r w=>by
 unfold ac6 at w;split at w
 . next i j=>
   obtain⟨h,w⟩:=w.gate;rw[r.ints2];exact⟨i,j,rfl,h,λp hp=>w.newT zi (fp3 _ _) p hp⟩
 . exact w.elim
def br7:T->Option String
 |.int _=>some "int"
 |.bl _=>some "bool"
 |.str _=>some "str"
 |.lst _ _=>some "list"
 |.tup _=>some "tuple"
 |_=>none
def du3(tx ty:String):Option Bool:=
 if(ty="int"\/ty="bool"\/ty="str"\/ty="list"\/ty="tuple")then some (tx=ty\/(tx="bool"/\ty="int"))else none
def ep1(h0:br7 t=some tx)(h:du3 tx ty=some b):iG tx ty b:=by
 have hx:tx="int"\/tx="bool"\/tx="str"\/tx="list"\/tx="tuple":=by cases t<;>simp[br7]at h0<;>subst h0<;>simp
 unfold du3 at h;split at h
 . next hy=>
   cases h;rcases hx with rfl|rfl|rfl|rfl|rfl<;>rcases hy with rfl|rfl|rfl|rfl|rfl<;>constructor
 . cases h
theorem dx4(r:Rep K cn H Z t v A)(h:br7 t=some tx):TyN K H v tx:=by
 cases t with
 |int i=>rw[r.int];cases h;rfl
 |bl i=>rw[r.bl];cases h;rfl
 |str i=>rw[r.str];cases h;rfl
 |lst o ts=>refine z32 r.lstSq λq vs C zz hs _=>?_;subst zz;cases h;exact .inl ⟨rfl,vs,hs.sq⟩
 |tup ts=>refine z22 r.tupS λq vs zz hs _=>?_;subst zz;cases h;exact .inr ⟨rfl,vs,hs⟩
 |_=>cases h
def aq7:List T->Res T
 |[t,.ty n]=>match br7 t with
  |some tx=>match du3 tx n with
   |some b=>.ok (.bl b)
   |none=>.no
  |none=>.no
 |_=>.no
def fv0:xY K cn (fe3 K) aq7:=λE As H Z ts xs A Q zi r w=>by
 unfold aq7 at w;split at w
 . next t n=>
   split at w
   . next tx h1=>
     split at w
     . next b h2=>
       refine z43 r.two2 λv u B C zz _ r1 r2=>?_;subst zz;simp only[Rep]at r2;rw[r2.1];exact⟨v,n,tx,b,rfl,dx4 r1 h1,ep1 h1 h2,w.val zi (uJ _)⟩
     . exact w.elim
   . exact w.elim
 . exact w.elim
def ae6:List T->Option (List Bool)
 |[]=>some []
 |.bl b::ts=>(ae6 ts).map (b:: ·)
 |_::_=>none
theorem ak8:∀(ts:aw){vs:a_}{A:av}{bs:bw},Reps K cn H Z ts vs A->ae6 ts=some bs->vs=bs.map V.bl
 |[],vs,A,bs,r,h=>by simp only[Reps]at r;cases h;exact r.1
 |t::ts,vs,A,bs,r,h=>by
  simp only[Reps]at r;refine z43 r λv vs' B C zz zy r1 r2=>?_;clear r;subst zz zy;cases t with
  |bl b=>simp only[ae6]at h;rw[G4]at h;obtain⟨bs',h1,rfl⟩:=h;rw[ak8 ts r2 h1,r1.bl];rfl
  |_=>cases h
def kN(any:Bool):List T->Res T
 |[.lst _ ts]=>match ae6 ts with
  |some bs=>.ok (.bl (if any=true then bs.any id else bs.all id))
  |none=>.no
 |_=>.no
def ez8:xY K cn (eb4 K) (kN false):=λE As H Z ts xs A Q zi r w=>by
 unfold kN at w;split at w
 . next o ts=>
   split at w
   . next bs h=>
     obtain⟨v,rfl,rv⟩:=r.one1;refine z33 rv.lstSq λq vs C zz hs r' _=>?_;subst zz;have:=ak8 ts r' h;subst this;exact⟨q,bs,rfl,hs.sq,w.val zi (uJ _)⟩
   . exact w.elim
 . exact w.elim
def fz1:xY K cn (ev6 K) (kN true):=λE As H Z ts xs A Q zi r w=>by
 unfold kN at w;split at w
 . next o ts=>
   split at w
   . next bs h=>
     obtain⟨v,rfl,rv⟩:=r.one1;refine z33 rv.lstSq λq vs C zz hs r' _=>?_;subst zz;have:=ak8 ts r' h;subst this;exact⟨q,bs,rfl,hs.sq,w.val zi (uJ _)⟩
   . exact w.elim
 . exact w.elim
def ai2:List T->Option (List Int)
 |[]=>some []
 |.int b::ts=>(ai2 ts).map (b:: ·)
 |_::_=>none
theorem ap1:∀(ts:aw){vs:a_}{A:av}{bs:ah},Reps K cn H Z ts vs A->ai2 ts=some bs->vs=bs.map V.int
 |[],vs,A,bs,r,h=>by simp only[Reps]at r;cases h;exact r.1
 |t::ts,vs,A,bs,r,h=>by
  simp only[Reps]at r;refine z43 r λv vs' B C zz zy r1 r2=>?_;clear r;subst zz zy;cases t with
  |int b=>simp only[ai2]at h;rw[G4]at h;obtain⟨bs',h1,rfl⟩:=h;rw[ap1 ts r2 h1,r1.int];rfl
  |_=>cases h
theorem yK:∀ns:List Int,ai2 (ns.map T.int)=some ns
 |[]=>rfl
 |n::ns=>by simp[ai2,yK ns]
theorem aj4:∀ns:List Bool,ae6 (ns.map T.bl)=some ns
 |[]=>rfl
 |n::ns=>by simp[ae6,aj4 ns]
theorem ee6:∀ns:List Int,Reps K cn H Z (ns.map T.int) (ns.map V.int) []
 |[]=>by simp[Reps]
 |n::ns=>by simp only[C7,Reps];exact⟨_,_,[],[],rfl,rfl,kU _,ee6 ns⟩
def ag5:List Int->Int
 |[]=>0
 |n::ns=>ns.foldl (λa b=>if b>a then b else a) n
def dl6:List Int->Int
 |[]=>0
 |n::ns=>ns.foldl (λa b=>if b<a then b else a) n
theorem bq5:∀(n:Int)(ns:ah),(ns.foldl (λa b=>if b>a then b else a) n∈n::ns)/\∀a∈n::ns,a<=ns.foldl (λa b=>if b>a then b else a) n
 |n,[]=>by simp
 |n,m::ns=>by
  simp only[List.foldl_cons];have ih:=bq5 (if m>n then m else n) ns;refine⟨?_,λa ha=>?_⟩
  . rcases C4.mp ih.1 with h|h
    . rw[h];split<;>simp
    . exact B5 _ (B5 _ h)
  . have h1:=ih.2 (if m>n then m else n) B7;rcases C4.mp ha with rfl|ha
    . split at h1<;>rename_i hc
      . simp only[hc,N4];omega
      . simp only[hc,Q2];exact h1
    . rcases C4.mp ha with rfl|ha
      . split at h1<;>rename_i hc
        . simp only[hc,N4];exact h1
        . simp only[hc,Q2];omega
      . exact ih.2 a (B5 _ ha)
theorem by4:∀(n:Int)(ns:ah),(ns.foldl (λa b=>if b<a then b else a) n∈n::ns)/\∀a∈n::ns,ns.foldl (λa b=>if b<a then b else a) n<=a
 |n,[]=>by simp
 |n,m::ns=>by
  simp only[List.foldl_cons];have ih:=by4 (if m<n then m else n) ns;refine⟨?_,λa ha=>?_⟩
  . rcases C4.mp ih.1 with h|h
    . rw[h];split<;>simp
    . exact B5 _ (B5 _ h)
  . have h1:=ih.2 (if m<n then m else n) B7;rcases C4.mp ha with rfl|ha
    . split at h1<;>rename_i hc
      . simp only[hc,N4];omega
      . simp only[hc,Q2];exact h1
    . rcases C4.mp ha with rfl|ha
      . split at h1<;>rename_i hc
        . simp only[hc,N4];exact h1
        . simp only[hc,Q2];omega
      . exact ih.2 a (B5 _ ha)
def tI:List T->Res T
 |[.int i,.int j]=>.ok (.int (if j>i then j else i))
 |[.lst _ ts]=>match ai2 ts with
  |some (n::ns)=>.ok (.int (ag5 (n::ns)))
  |_=>.no
 |_=>.no
def kM:List T->Res T
 |[.int i,.int j]=>.ok (.int (if j<i then j else i))
 |[.lst _ ts]=>match ai2 ts with
  |some (n::ns)=>.ok (.int (dl6 (n::ns)))
  |_=>.no
 |_=>.no
def fn0:xY K cn (dx3 K) tI:=λE As H Z ts xs A Q zi r w=>by
 unfold tI at w;split at w
 . next i j=>rw[r.ints2];exact .inl ⟨i,j,rfl,w.val zi (kU _)⟩
 . next o ts=>
   split at w
   . next n ns h=>
     obtain⟨v,rfl,rv⟩:=r.one1;refine z33 rv.lstSq λq vs C zz hs r' _=>?_;subst zz;have:=ap1 ts r' h;subst this;refine .inr ⟨q,n::ns,rfl,hs.sq,List.cons_ne_nil _ _,λM h1 h2=>?_⟩;obtain⟨g1,g2⟩:=bq5 n ns;have:M=ag5 (n::ns):=Int.le_antisymm (g2 M h1) (h2 _ g1);rw[this];exact w.val zi (kU _)
   . exact w.elim
 . exact w.elim
def fr0:xY K cn (dc6 K) kM:=λE As H Z ts xs A Q zi r w=>by
 unfold kM at w;split at w
 . next i j=>rw[r.ints2];exact .inl ⟨i,j,rfl,w.val zi (kU _)⟩
 . next o ts=>
   split at w
   . next n ns h=>
     obtain⟨v,rfl,rv⟩:=r.one1;refine z33 rv.lstSq λq vs C zz hs r' _=>?_;subst zz;have:=ap1 ts r' h;subst this;refine .inr ⟨q,n::ns,rfl,hs.sq,List.cons_ne_nil _ _,λM h1 h2=>?_⟩;obtain⟨g1,g2⟩:=by4 n ns;have:M=dl6 (n::ns):=Int.le_antisymm (h2 _ g1) (g2 M h1);rw[this];exact w.val zi (kU _)
   . exact w.elim
 . exact w.elim
def ar7(n:Int):List Int->List Int
 |[]=>[n]
 |m::ms=>if n<=m then n::m::ms else m::ar7 n ms
def sN:List Int->List Int
 |[]=>[]
 |n::ns=>ar7 n (sN ns)
theorem ak5(n:Int):∀ms,(ar7 n ms).Perm (n::ms)
 |[]=>List.Perm.refl _
 |m::ms=>by
  unfold ar7;split
  . exact List.Perm.refl _
  . exact((ak5 n ms).cons m).trans (List.Perm.swap n m ms)
theorem xB:∀ns,(sN ns).Perm ns
 |[]=>List.Perm.refl _
 |n::ns=>(ak5 n _).trans ((xB ns).cons n)
theorem af7(n:Int):∀ms:List Int,ms.Pairwise (· <= ·)->(ar7 n ms).Pairwise (· <= ·)
 |[],_=>by simp[ar7]
 |m::ms,h=>by
  unfold ar7;rw[P9]at h;split
  . next hc=>
    rw[P9];refine⟨λa ha=>?_,P9.mpr h⟩;rcases C4.mp ha with rfl|ha
    . exact hc
    . exact N8 hc (h.1 a ha)
  . next hc=>
    rw[P9];refine⟨λa ha=>?_,af7 n ms h.2⟩;have:=(ak5 n ms).mem_iff.mp ha;rcases C4.mp this with rfl|h'
    . omega
    . exact h.1 a h'
theorem ar4:∀ns,(sN ns).Pairwise (· <= ·)
 |[]=>List.Pairwise.nil
 |n::ns=>af7 n _ (ar4 ns)
theorem bi0:∀{ms ns:ah},ms.Perm ns->ms.Pairwise (· <= ·)->ns.Pairwise (· <= ·)->ms=ns
 |[],ns,p,_,_=>(List.Perm.nil_eq p)
 |m::ms,[],p,_,_=>E8 p.length_eq X4
 |m::ms,n::ns,p,h1,h2=>by
  rw[P9]at h1 h2;have e:m=n:=by
   have a:m∈n::ns:=p.mem_iff.mp B7;have b:n∈m::ms:=p.mem_iff.mpr B7;rcases C4.mp a with a|a
   . exact a
   . rcases C4.mp b with b|b
     . exact b.symm
     . exact Int.le_antisymm (h1.1 n b) (h2.1 m a)
  subst e;rw[bi0 ((List.perm_cons m).mp p) h1.2 h2.2]
def kS:List T->Res T
 |[.lst _ ts]=>if bB ts=true then .ok (.lst true ts)else .no
 |[.tup ts]=>if bB ts=true then .ok (.lst true ts)else .no
 |_=>.no
def eo8:xY K cn (db0 K) kS:=λE As H Z ts xs A Q zi r w=>by
 unfold kS at w;split at w
 . next o ts=>
   split at w
   . next h=>
     obtain⟨v,rfl,rv⟩:=r.one1;refine z33 rv.lstSq λq vs C zz hs r' _=>?_;subst zz;exact⟨q,vs,rfl,.inl hs.sq,λl hl=>w.newL zi (r'.bareE h) l hl⟩
   . exact w.elim
 . next ts=>
   split at w
   . next h=>
     obtain⟨v,rfl,rv⟩:=r.one1;refine z22 rv.tupS λq vs zz hs r'=>?_;subst zz;exact⟨q,vs,rfl,.inr hs,λl hl=>w.newL zi (r'.bareE h) l hl⟩
   . exact w.elim
 . exact w.elim
def fl4:T->List T->Res T
 |.str z,[.str y]=>.ok (.bl (Txt.startswith z y))
 |_,_=>.no
def af2:List T->Option (List Str)
 |[]=>some []
 |.str b::ts=>(af2 ts).map (b:: ·)
 |_::_=>none
theorem bm3:∀(ts:aw){vs:a_}{A:av}{bs:ax},Reps K cn H Z ts vs A->af2 ts=some bs->vs=bs.map V.str
 |[],vs,A,bs,r,h=>by simp only[Reps]at r;cases h;exact r.1
 |t::ts,vs,A,bs,r,h=>by
  simp only[Reps]at r;refine z43 r λv vs' B C zz zy r1 r2=>?_;clear r;subst zz zy;cases t with
  |str b=>simp only[af2]at h;rw[G4]at h;obtain⟨bs',h1,rfl⟩:=h;rw[bm3 ts r2 h1,r1.str];rfl
  |_=>cases h
theorem at5:∀ns:List Str,af2 (ns.map T.str)=some ns
 |[]=>rfl
 |n::ns=>by simp[af2,at5 ns]
def ap2:T->List T->Res T
 |.str z,[.lst _ ts]=>match af2 ts with
  |some ys=>if(ys.map (·.length)).sum+ys.length*z.length<=16777216 then .ok (.str (Txt.join z ys))else .no
  |none=>.no
 |_,_=>.no
def ee4:RMR K cn "str" (cb6 K) ap2:=λE As H Z t ts x xs A B Q zi rt r w=>by
 unfold ap2 at w;split at w
 . next z o ts=>
   split at w
   . next ys h=>
     split at w
     . next hz=>
       obtain⟨v,rfl,rv⟩:=r.one1;refine z33 rv.lstSq λq vs C zz hs r' _=>?_;subst zz;have:=bm3 ts r' h;subst this;rw[rt.str];exact⟨z,q,ys,rfl,rfl,hs.sq,hz,w.val zi (ai4 _)⟩
     . exact w.elim
   . exact w.elim
 . exact w.elim
end
open L2
theorem rY(a:α)(f:α->Res β):(Res.ok a).bind f=f a:=rfl
theorem bc8(P:cm):∀(ts:aw)(k:Nat){U:Fr},P k U->(∀i t U,ts[i]?=some t->P (k+i) U->∃ρ1 ρ2,b t U=some ρ1/\(body ρ1=.nx ρ2\/body ρ1=.ct ρ2)/\P (k+i+1) ρ2)->∃ρ',dI b body ts U=.nx ρ'/\P (k+ts.length) ρ'
 |[],k,U,h0,_=>⟨U,rfl,h0⟩
 |t::ts,k,U,h0,hs=>by refine z22 (hs 0 t U rfl h0) λρ1 ρ2 h1 h2 h3=>?_;obtain⟨ρ',h4,h5⟩:=bc8 (b:=b) (body:=body) P ts (k+1) h3 (λi u U e p=>by have:=hs (i+1) u U (by simpa using e) (by rw[show k+(i+1)=k+1+i by omega];exact p);rw[show k+(i+1)+1=k+1+i+1 by omega]at this;exact this);refine⟨ρ',?_,by rw[G5,show k+(ts.length+1)=k+1+ts.length by omega];exact h5⟩;rcases h2 with h2|h2<;>simp only[dI,h1,h2,h4]
theorem bw0(P:cm)(hs:∀m U,P m U->(c U=.ok false)\/(c U=.ok true/\∃ρ2 m',(body U=.nx ρ2\/body U=.ct ρ2)/\m'<m/\P m' ρ2)):∀(n m:Nat){U:Fr},P m U->m<n->∃ρ' m',tH c body n U=.nx ρ'/\P m' ρ'/\c ρ'=.ok false
 |0,m,U,_,hm=>by omega
 |n+1,m,U,h0,hm=>by
  rcases hs m U h0 with h|⟨h,ρ2,m',h2,hl,hp⟩
  . exact⟨U,m,by simp only[tH,h,Q0,Q2],h0,h⟩
  . obtain⟨ρ',m'',h4,h5,h6⟩:=bw0 P hs n m' hp W9;refine⟨ρ',m'',?_,h5,h6⟩;rcases h2 with h2|h2<;>simp only[tH,h,h2,N4,h4]
def Go(P:cw):bS->Prop
 |.nx U=>P U
 |.ct U=>P U
 |_=>False
def yG(P:cw)(body:Fr->bS):Option Fr->Prop
 |some U=>Go P (body U)
 |none=>False
theorem fb1:Go P (.nx U)=P U:=rfl
theorem en9:Go P (.ct U)=P U:=rfl
theorem df5:yG P body (some U)=Go P (body U):=rfl
def fL(P:cm)(h:dI b body ts U=o)(h0:P 0 U)(hs:∀i t U,ts[i]?=some t->P i U->yG (P (i+1)) body (b t U)):∃ρ',o=.nx ρ'/\P ts.length ρ':=by
 obtain⟨ρ',h1,h2⟩:=bc8 (b:=b) (body:=body) P ts 0 h0 (λi t U e p=>by
  have:=hs i t U e (by rw[R8]at p;exact p);rw[R8];cases e1:b t U with
  |none=>rw[e1]at this;exact this.elim
  |some ρ1=>
   rw[e1]at this;have g:Go (P (i+1)) (body ρ1):=this;cases e2:body ρ1 with
   |nx ρ2=>rw[e2]at g;exact⟨ρ1,ρ2,rfl,.inl e2,g⟩
   |ct ρ2=>rw[e2]at g;exact⟨ρ1,ρ2,rfl,.inr e2,g⟩
   |_=>rw[e2]at g;exact g.elim)
 rw[R8]at h2;exact⟨ρ',by rw[<-h,h1],h2⟩
def cm5(P B:cw)(R:T->Prop):bS->Prop
 |.nx U=>P U
 |.ct U=>P U
 |.bk U=>B U
 |.rt t=>R t
 |_=>False
def cg0(P B:cw)(R:T->Prop)(body:Fr->bS):Option Fr->Prop
 |some U=>cm5 P B R (body U)
 |none=>False
theorem ay9(P:cm)(B:cw)(R:T->Prop):∀(ts:aw)(k:Nat){U:Fr},P k U->(∀i t U,ts[i]?=some t->P (k+i) U->cg0 (P (k+i+1)) B R body (b t U))->
 (∃ρ',dI b body ts U=.nx ρ'/\(P (k+ts.length) ρ'\/B ρ'))\/∃t,dI b body ts U=.rt t/\R t
 |[],k,U,h0,_=>.inl ⟨U,rfl,.inl h0⟩
 |t::ts,k,U,h0,hs=>by
  have h1:=hs 0 t U rfl h0;have next:∀{ρ2:Fr},P (k+1) ρ2->(∃ρ',dI b body ts ρ2=.nx ρ'/\(P (k+(ts.length+1)) ρ'\/B ρ'))\/∃t,dI b body ts ρ2=.rt t/\R t:=by intro ρ2 p;have:=ay9 (b:=b) (body:=body) P B R ts (k+1) p (λi u U e p=>by have:=hs (i+1) u U (by simpa using e) (by rw[show k+(i+1)=k+1+i by omega];exact p);rw[show k+(i+1)+1=k+1+i+1 by omega]at this;exact this);rw[show k+1+ts.length=k+(ts.length+1) by omega]at this;exact this
  rw[G5];simp only[dI];cases e1:b t U with
  |none=>rw[e1]at h1;exact h1.elim
  |some ρ1=>
   rw[e1]at h1;have g:cm5 (P (k+0+1)) B R (body ρ1):=h1;simp only;cases e2:body ρ1 with
   |nx ρ2=>rw[e2]at g;exact next g
   |ct ρ2=>rw[e2]at g;exact next g
   |bk ρ2=>rw[e2]at g;exact .inl ⟨ρ2,rfl,.inr g⟩
   |rt t=>rw[e2]at g;exact .inr ⟨t,rfl,g⟩
   |_=>rw[e2]at g;exact g.elim
def dn1(P:cm)(B:cw)(R:T->Prop)(h:dI b body ts U=o)(h0:P 0 U)(hs:∀i t U,ts[i]?=some t->P i U->cg0 (P (i+1)) B R body (b t U)):
 (∃ρ',o=.nx ρ'/\(P ts.length ρ'\/B ρ'))\/∃t,o=.rt t/\R t:=by
 have:=ay9 (b:=b) (body:=body) P B R ts 0 h0 (λi t U e p=>by rw[R8]at p⊢;exact hs i t U e p);rw[R8,h]at this;exact this
def GoW(P:cw)(body:Fr->bS)(U:Fr):Res Bool->Prop
 |.ok true=>Go P (body U)
 |.ok false=>True
 |_=>False
def ce8(P:cm)(h:ab5 c body U=o)(h0:P m U)(hm:m<10^12)(hs:∀m U,P m U->GoW (λρ2=>∃m',m'<m/\P m' ρ2) body U (c U)):∃ρ' m',o=.nx ρ'/\P m' ρ'/\c ρ'=.ok false:=by
 obtain⟨ρ',m',h1,h2,h3⟩:=bw0 (c:=c) (body:=body) P (λm U p=>by
  have g:=hs m U p;cases e:c U with
  |ok k=>
   rw[e]at g;cases k with
   |false=>exact .inl rfl
   |true=>
    have g':Go (λρ2=>∃m',m'<m/\P m' ρ2) (body U):=g;refine .inr ⟨rfl,?_⟩;cases e2:body U with
    |nx ρ2=>rw[e2]at g';obtain⟨m',q1,q2⟩:=g';exact⟨ρ2,m',.inl rfl,q1,q2⟩
    |ct ρ2=>rw[e2]at g';obtain⟨m',q1,q2⟩:=g';exact⟨ρ2,m',.inr rfl,q1,q2⟩
    |_=>rw[e2]at g';exact g'.elim
  |_=>rw[e]at g;exact g.elim) yY m h0 (G3 hm do9)
 exact⟨ρ',m',by rw[<-h];exact h1,h2,h3⟩
theorem ex3(i j:Int):bR (.int i) (.int j)=.ok (.int (i+j)):=rfl
theorem et6(a b:Str):bR (.str a) (.str b)=gate (a.length+b.length<=sizeLine) (.ok (.str (a++b))):=rfl
theorem cn0(o o':Bool)(xs ys:aw):bR (.lst o xs) (.lst o' ys)=gate ((bB xs&&bB ys)=true/\xs.length+ys.length<=sizeLine) (.ok (.lst true (xs++ys))):=rfl
theorem ee7(xs ys:aw):bR (.tup xs) (.tup ys)=gate ((bB xs&&bB ys)=true/\xs.length+ys.length<=sizeLine/\xs.isEmpty=false/\ys.isEmpty=false) (.ok (.tup (xs++ys))):=rfl
theorem ej6(i j:Int):cV (.int i) (.int j)=.ok (.int (i-j)):=rfl
theorem ep6(i j:Int):nF (.int i) (.int j)=gate (mulOk i j) (.ok (.int (i*j))):=rfl
theorem eq5(z:Str)(k:Int):nF (.str z) (.int k)=gate (-(2^63)<=k/\k<2^62/\z.length*k.toNat<=sizeLine) (.ok (.str (av2 z k.toNat))):=rfl
theorem ep2(i j:Int):iX (.int i) (.int j)=gate (ag0 i j) (.ok (.int (i/j))):=rfl
theorem eq6(i j:Int):cQ (.int i) (.int j)=gate (0<j) (.ok (.int (i%j))):=rfl
theorem as4(i j:Int):ah0 (.int i) (.int j)=gate (ak2 i j) (.ok (.int (i^j.toNat))):=rfl
theorem fo1(i:Int):yF (.int i)=.ok (.int (-i)):=rfl
theorem ft0(i j:Int):ltT (.int i) (.int j)=.ok (.bl (decide (i<j))):=rfl
theorem fe0(i j:Int):lM (.int i) (.int j)=.ok (.bl (decide (i<=j))):=rfl
theorem eq9(i j:Int):gtT (.int i) (.int j)=.ok (.bl (decide (j<i))):=rfl
theorem fy1(i j:Int):geT (.int i) (.int j)=.ok (.bl (decide (j<=i))):=rfl
theorem fs0(a b:Bool):isT (.bl a) (.bl b)=.ok (.bl (a==b)):=rfl
theorem fh2:isT .non .non=.ok (.bl true):=rfl
theorem fm1(i:Int):isT (.int i) .non=.ok (.bl false):=rfl
theorem em9(i:Str):isT (.str i) .non=.ok (.bl false):=rfl
theorem fj0(o:Bool)(i:aw):isT (.lst o i) .non=.ok (.bl false):=rfl
theorem ft2(i:aw):isT (.tup i) .non=.ok (.bl false):=rfl
theorem dr2:iA .non .non=.ok (.bl false):=rfl
theorem dn5(i:Int):iA (.int i) .non=.ok (.bl true):=rfl
theorem dg5(o:Bool)(i:aw):iA (.lst o i) .non=.ok (.bl true):=rfl
theorem ds2(i:aw):iA (.tup i) .non=.ok (.bl true):=rfl
theorem fh1(i j:Int):fT (.int i) (.int j)=.ok (.bl (i==j)):=rfl
theorem eu9(i j:Str):fT (.str i) (.str j)=.ok (.bl (i==j)):=rfl
theorem fn2(i j:Bool):fT (.bl i) (.bl j)=.ok (.bl (i==j)):=rfl
theorem es9(n:Bool)(i j:Str):inT n (.str i) (.str j)=.ok (.bl (if n=true then !occ j i else occ j i)):=rfl
theorem de8(o:Bool)(ts:aw)(n:Int):aO (.lst o ts) (.int n)=match atI ts n with|some t=>.ok t|none=>.no:=rfl
theorem ca6(ts:aw)(n:Int):aO (.tup ts) (.int n)=match atI ts n with|some t=>.ok t|none=>.no:=rfl
theorem ee9(z:Str)(n:Int):aO (.str z) (.int n)=if z.length<=sizeLine then match atI z.cps.toList n with|some c=>.ok (.str ⟨#[c]⟩)|none=>.no else .no:=rfl
theorem fh4(o:Bool)(ts:aw)(lo hi:a9):tJ (.lst o ts) lo hi=if bB ts=true then .ok (.lst true (fJ ts lo hi))else .no:=rfl
theorem fg4(ts:aw)(lo hi:a9):tJ (.tup ts) lo hi=if bB ts=true/\¬(HT.sIx ts.length 0 lo=0/\HT.sIx ts.length ts.length hi=ts.length)then .ok (.tup (fJ ts lo hi))else .no:=rfl
theorem fz3(z:Str)(lo hi:a9):tJ (.str z) lo hi=if z.length<=sizeLine then .ok (.str (Txt.slice z lo hi))else .no:=rfl
theorem er9(z:Str):cY [.str z]=if z.length<=sizeLine then .ok (.int z.length)else .no:=rfl
theorem nZ(o:Bool)(ts:aw):cY [.lst o ts]=.ok (.int ts.length):=rfl
theorem fl0(ts:aw):cY [.tup ts]=.ok (.int ts.length):=rfl
theorem fp0(i:Int):aj8 [.int i]=.ok (.int (if i<0 then -i else i)):=rfl
theorem cj8(i j:Int):ac6 [.int i,.int j]=gate (ag0 i j) (.ok (.tup [.int (i/j),.int (i%j)])):=rfl
def ds7(i:Int):aq7 [.int i,.ty "int"]=.ok (.bl true):=X7
def ci9(i:Int):aq7 [.int i,.ty "bool"]=.ok (.bl false):=X7
def df7(i:aw):aq7 [.tup i,.ty "tuple"]=.ok (.bl true):=X7
def dz7(o:Bool)(i:aw):aq7 [.lst o i,.ty "list"]=.ok (.bl true):=X7
def cz6(a o:Bool)(bs:bw):kN a [.lst o (bs.map .bl)]=.ok (.bl (if a=true then bs.any id else bs.all id)):=by simp only[kN,aj4]
theorem eb8(i j:Int):tI [.int i,.int j]=.ok (.int (if j>i then j else i)):=rfl
theorem ef7(i j:Int):kM [.int i,.int j]=.ok (.int (if j<i then j else i)):=rfl
def dx7(o:Bool)(n:Int)(ns:ah):tI [.lst o ((n::ns).map .int)]=.ok (.int (ag5 (n::ns))):=by simp only[tI,yK]
def fq1(o:Bool)(n:Int)(ns:ah):kM [.lst o ((n::ns).map .int)]=.ok (.int (dl6 (n::ns))):=by simp only[kM,yK]
theorem en7(o:Bool)(ts:aw):kS [.lst o ts]=if bB ts=true then .ok (.lst true ts)else .no:=rfl
theorem ew6(ts:aw):kS [.tup ts]=if bB ts=true then .ok (.lst true ts)else .no:=rfl
def cq4(z:Str)(o:Bool)(ys:ax):ap2 (.str z) [.lst o (ys.map .str)]=if(ys.map (·.length)).sum+ys.length*z.length<=16777216 then .ok (.str (Txt.join z ys))else .no:=by simp only[ap2,at5]
theorem eb9(o:Bool)(ts:aw):jJ (.lst o ts)=if bB ts=true then .ok ts else .no:=rfl
theorem fu0(ts:aw):jJ (.tup ts)=if bB ts=true then .ok ts else .no:=rfl
theorem fw0(z:Str):jJ (.str z)=.ok (z.cps.toList.map λc=>T.str ⟨#[c]⟩):=rfl
def ep9(ts:aw):vS (.lst false ts)=if bB ts=true then .ok ts else .no:=by simp only[vS,P7,U9]
theorem fw1(ts:aw):vS (.tup ts)=if bB ts=true then .ok ts else .no:=rfl
theorem ft1(z:Str):vS (.str z)=.ok (z.cps.toList.map λc=>T.str ⟨#[c]⟩):=rfl
theorem pV(j:Int):eZ [.int j]=gate (-(2^62)<=j/\j<2^62) (.ok (cK 0 j.toNat)):=rfl
theorem fq0(i j:Int):co5 [.int i,.int j]=gate (-(2^62)<=i/\i<2^62/\-(2^62)<=j/\j<2^62) (.ok (cK i (j-i).toNat)):=rfl
theorem fr1(b:Bool):ac0 (.bl b)=.ok b:=rfl
theorem fd0(b:Int):ac0 (.int b)=.ok (b !=0):=rfl
theorem fg2:ac0 .non=.ok false:=rfl
theorem fa2(o:Bool)(b:aw):ac0 (.lst o b)=.ok (!b.isEmpty):=rfl
theorem fc2(b:Bool):toB (.bl b)=.ok b:=rfl
theorem eu8(i:Int):toI (.int i)=.ok (some i):=rfl
theorem cX:∀{l:List α},(∀a∈l,d (U.set k (some (g a)))=.ok (f a))->cC (aI k) bY d U (l.map g)=.ok (l.map f)
 |[],_=>rfl
 |a::l,h=>by simp only[C7,cC,aI,bY,rY,N4,h a B7,cX (λu hu=>h u (B5 _ hu))]
theorem aq2:∀{l:List α},(∀a∈l,c (U.set k (some (g a)))=.ok (p a)/\(p a=true->d (U.set k (some (g a)))=.ok (f a)))->cC (aI k) c d U (l.map g)=.ok ((l.filter p).map f)
 |[],_=>rfl
 |a::l,h=>by
  obtain⟨h1,h2⟩:=h a B7;have ih:=aq2 (k:=k) (c:=c) (d:=d) (U:=U) (g:=g) (f:=f) (p:=p) (l:=l) (λu hu=>h u (B5 _ hu));cases hp:p a with
  |true=>simp only[C7,cC,aI,h1,hp,h2 hp,rY,N4,List.filter_cons,ih]
  |false=>simp only[C7,cC,aI,h1,hp,rY,Q0,Q2,List.filter_cons,ih]
theorem mU{lo:Int}{n i:Nat}{t:T}(h:(cK lo n)[i]?=some t):i<n/\t=.int (lo+i):=by
 unfold cK at h;rw[C8]at h;cases q:(List.range n)[i]? with
 |none=>rw[q]at h;cases h
 |some j=>rw[q]at h;obtain⟨h1,h2⟩:=D3.mp q;simp at h1 h2;subst h2;cases h;exact⟨h1,rfl⟩
def cI(lo:Int)(n:Nat):(cK lo n).length=n:=by simp[cK]
theorem nE{α:Type}{g:α->T}(h:∀a,cP (g a)=true):∀l:List α,bB (l.map g)=true
 |[]=>rfl
 |a::l=>by simp only[C7,bB,h a,nE h l,H0]
theorem yJ{α:Type}{g:α->T}(h:∀a,frz (g a)=g a):∀l:List α,frzs (l.map g)=l.map g
 |[]=>rfl
 |a::l=>by simp only[C7,frzs,h a,yJ h l]
theorem lJ{α:Type}{g:α->T}(h:∀a,cT (g a)=true):∀l:List α,dD (l.map g)=true
 |[]=>rfl
 |a::l=>by simp only[C7,dD,h a,lJ h l,H0]
def jC(l:ah):bB (l.map T.int)=true:=nE Am9 l
def gK(l:ah):frzs (l.map T.int)=l.map T.int:=yJ Am9 l
def gB(l:ah):dD (l.map T.int)=true:=lJ Am9 l
def mB(l:ax):bB (l.map T.str)=true:=nE Am9 l
def zY(l:ax):frzs (l.map T.str)=l.map T.str:=yJ Am9 l
def ar0(l:ax):dD (l.map T.str)=true:=lJ Am9 l
def eq0(z:Str):z.length=z.cps.toList.length:=E6.symm
open L2
section
variable{Jn:gX}{K:A5}{cn:aa}{E:XK}
def eQ(cs:ax)(f:Str):T->Res T
 |.ins _ c ns ts=>if cs.contains c=true then match(ns.zip ts).lookup f with
  |some t=>.ok t
  |none=>.no else .no
 |_=>.no
def lX(K:A5)(cn:aa)(cs:ax)(f:Str):Prop:=∀c∈cs,∀C,cn c=some C->Cls K C/\NoAttr K C f
theorem Reps.lookup:∀(ns:ax)(ts:aw){vs:a_}{A:av},Reps K cn H Z ts vs A->(ns.zip ts).lookup f=some t->∃v B,(ns.zip vs).lookup f=some v/\Rep K cn H Z t v B
 |[],ts,_,_,_,e=>by simp at e
 |n::ns,[],_,_,_,e=>by simp at e
 |n::ns,u::ts,vs,A,r,e=>by
  simp only[Reps]at r;refine z43 r λv r' B C zz zy h1 h2=>?_;clear r;subst zz zy;rw[U4,J5]at e⊢;cases q:f==n with
  |true=>rw[q]at e;cases e;exact⟨v,B,rfl,h1⟩
  |false=>rw[q]at e;exact Reps.lookup ns ts h2 e
theorem Rep.insS(r:Rep K cn H Z (.ins o c ns ts) v B):∃a C dx vs D,v=.ref a/\cn c=some C/\H a=some (.ins C dx (ns.zip vs))/\ns.length=vs.length/\Reps K cn H Z ts vs D:=by
 cases o with
 |true=>simp only[Rep]at r;obtain⟨a,C,dx,vs,D,rfl,_,hc,e,l,r⟩:=r;exact⟨a,C,dx,vs,D,rfl,hc,e,l,r⟩
 |false=>simp only[Rep]at r;obtain⟨a,C,dx,vs,rfl,_,hc,e,_,l,r⟩:=r;exact⟨a,C,dx,vs,[],rfl,hc,e,l,r⟩
theorem eh5(hf:lX K cn cs f)(ha:RB Jn K cn E ta a):RB Jn K cn E (dg6 K ta f) (fE (eQ cs f) a):=λAs H Z U O F Q w=>by
 unfold fE at w;refine ha As H Z U O F _ ?_;cases e:a U with
 |ok t=>
  rw[e]at w;intro v H1 Z1 B p;simp only[Res.bind]at w;unfold eQ at w;split at w
  . next o c ns ts=>
    split at w
    . next hc=>
      split at w
      . next t' h=>
        refine z54 p.rep.insS λq C dx vs D zz hC eq _ r=>?_;subst zz;refine z21 (Reps.lookup ns ts r h) λv' B' e3 rv=>?_;obtain⟨k1,k2⟩:=hf c (by simpa using hc) C hC;exact⟨q,C,dx,_,v',rfl,eq,k1,k2,e3,w v' H1 Z1 B' ⟨p.same,p.zz,p.zn,p.zi,rv⟩⟩
      . exact w.elim
    . exact w.elim
  . exact w.elim
 |ex x=>rw[e]at w;exact w
 |no=>rw[e]at w;exact w
def iC(f:Str):List Str->Option Nat
 |[]=>none
 |n::ns=>if n=f then some 0 else(iC f ns).map (· +1)
theorem cr4:∀(ns:ax)(vs:a_){k:Nat},ns.length=vs.length->iC f ns=some k->mK f y (ns.zip vs)=ns.zip (vs.set k y)
 |[],_,_,_,h=>by simp[iC]at h
 |n::ns,[],_,l,_=>by simp at l
 |n::ns,w::vs,k,l,h=>by
  unfold iC at h;rw[U4,mK];by_cases q:n=f
  . rw[E3 q]at h;cases h;rw[E3 q];rfl
  . rw[D7 q,G4]at h;obtain⟨k',h1,rfl⟩:=h;rw[D7 q,cr4 ns vs (by simpa using l) h1];rfl
theorem cg1:∀(ns:ax)(vs:a_),ns.length=vs.length->iC f ns=none->mK f y (ns.zip vs)=(ns++[f]).zip (vs++[y])
 |[],[],_,_=>rfl
 |[],w::vs,l,_=>by simp at l
 |n::ns,[],l,_=>by simp at l
 |n::ns,w::vs,l,h=>by
  unfold iC at h;rw[U4,mK];by_cases q:n=f
  . rw[E3 q]at h;cases h
  . rw[D7 q,Option.map_eq_none_iff]at h;rw[D7 q,cg1 ns vs (by simpa using l) h];rfl
def fp4(j:Nat)(cs:ax)(f:Str)(d:be):Fr->Res (List Nat):=λU=>(d U).bind λp=>match U[j]? with
 |some (some t0)=>match fN p t0 with
  |some (.ins o c ns ts)=>if(o&&cs.contains c)=true then match iC f ns with
   |some k=>if k<ts.length then .ok (p++[k])else .no
   |none=>.no else .no
  |_=>.no
 |_=>.no
def wG(j:Nat)(mv:az)(cs:ax)(f:Str)(e:a8)(d:be):Fr->bS:=λU=>match e U with
 |.ok t=>match(kills mv U)[j]? with
  |some (some t0)=>match d (kills mv U)with
   |.ok p=>match fN p t0 with
    |some (.ins o c ns us)=>if(o&&cs.contains c&&decide (ns.length<1000))=true then match iC f ns with
     |some k=>if k<us.length then bo8 j p (.ins true c ns (us.set k t)) (kills mv U)else .no
     |none=>bo8 j p (.ins true c (ns++[f]) (us++[t])) (kills mv U)
     else .no
    |_=>.no
   |.ex x=>.ex x
   |.no=>.no
  |_=>.no
 |.ex x=>.ex x
 |.no=>.no
theorem ez4(hf:lX K cn cs f)(he:RE Jn K cn E mv te e)(hd:RP Jn K cn E j to d):RS Jn K cn E (dc2 K to te f) (wG j mv cs f e d):=λAs H Z U O F D w=>by
 unfold wG at w;refine he As H Z U O F _ ?_;cases ee:e U with
 |ok t=>
  rw[ee]at w;intro y H1 Z1 C p1;simp only at w;have F1:=(F.mo p1.mo).kills mv;cases e1:(kills mv U)[j]? with
  |none=>rw[e1]at w;exact w.elim
  |some o=>
   rw[e1]at w;cases o with
   |none=>exact w.elim
   |some t0=>
    obtain⟨v0,e2,r0⟩:=F1.sl.get e1;simp only at w;have ev1:Ev As H Z (gQ mv As) H1 Z1:=⟨λb o q _=>p1.same b o q,λb hb=>.inl (gJ hb),p1.zz,λb h=>(p1.zn b h).imp_right .inr,λb h=>p1.same.free h⟩;refine hd (gQ mv As) H1 Z1 (kills mv U) O F1 t0 v0 e1 e2 r0 _ ?_;cases ed:d (kills mv U)with
    |ok p=>
     rw[ed]at w;intro u v B H2 Z2 m2 hn pl;simp only[hn]at w;split at w
     . next o c ns us hq=>
       cases hq;split at w
       . next hc=>
         rw[G8,G8]at hc;obtain⟨⟨rfl,hc⟩,hl⟩:=hc;have hl:=of_decide_eq_true hl;have q:=pl.rep;simp only[Rep]at q;refine z55 q λa C' dx ws C0 zz zy hC ea l rs=>?_;clear q;subst zz zy;have rt:Rep K cn H2 Z2 t y C:=p1.rep.same m2.same m2.zz;have F2:=F1.mo m2;have lw:=Reps.length us rs;obtain⟨k1,k2⟩:=hf c (by simpa using hc) C' hC;refine⟨a,C',dx,_,rfl,ea,k1,k2,by rw[List.length_zip];omega,?_⟩;have ndB:(a::C0).Nodup:=(mL F1.nd j).sublist pl.sub;have cA:∀x∈C0,x∈(gQ mv As).getD j []:=λx hx=>pl.sub.mem (B5 _ hx);have cOut:=p1.out F;have cz:∀x∈C,¬Z2 x:=λx hx z=>by
          rcases m2.zn x z with z|z
          . exact p1.bz x hx z
          . obtain⟨o,ho,_⟩:=p1.rep.dom t x hx;rw[ho]at z;cases z
         cases ek:iC f ns with
         |none=>
          rw[ek]at w;rw[cg1 ns ws l ek];refine bg2 (As:=As) (H:=H) (Z:=Z) (E:=E) F2 e1 e2 pl rfl rfl ea rfl (u':=.ins true c (ns++[f]) (us++[t])) (C:=C0++C) (λaC aZ=>?_) ?_ ?_ ?_ (ev1.trans m2.ev) ?_ w
          . simp only[Rep];exact⟨a,C',dx,ws++[y],C0++C,rfl,rfl,hC,gC,by simp[l],(Reps.append us rs (Reps.one rt)).upd ea rfl aC aZ⟩
          . rw[D8];exact⟨(G6.mp ndB).2,p1.nd,λx hx z hz e=>by subst e;exact cOut x hz (bC (cA x hx))⟩
          . intro x hx;rcases A9.mp hx with hx|hx
            . exact F2.nz x (bC (cA x hx))
            . exact cz x hx
          . intro x hx hA;rcases A9.mp hx with hx|hx
            . exact hx
            . exact E8 hA (cOut x hx)
          . intro x hx;rcases A9.mp hx with hx|hx
            . exact .inl (gJ (bC (cA x hx)))
            . exact p1.inA x hx
         |some k=>
          rw[ek]at w;simp only at w;split at w
          . next hk=>
            rw[cr4 ns ws l ek];refine z31 (Reps.put rt us rs hk) λB1 Bo B2 zz rs'=>?_;subst zz;have i1:∀x∈B1,x∈B1++Bo++B2:=λx hx=>D9 _ (D9 _ hx);have i2:∀x∈B2,x∈B1++Bo++B2:=λx hx=>C6 _ hx;have nd1:=(G6.mp ndB).2;rw[K0,D8]at nd1;obtain⟨n1,n2,n3⟩:=nd1;rw[D8]at n2;refine bg2 (As:=As) (H:=H) (Z:=Z) (E:=E) F2 e1 e2 pl rfl rfl ea rfl (u':=.ins true c ns (us.set k t)) (C:=B1++C++B2) (λaC aZ=>?_) ?_ ?_ ?_ (ev1.trans m2.ev) ?_ w
            . simp only[Rep];exact⟨a,C',dx,ws.set k y,B1++C++B2,rfl,rfl,hC,gC,by simp[l],rs'.upd ea rfl aC aZ⟩
            . rw[K0,D8];refine⟨n1,?_,λx hx z hz e=>?_⟩
              . rw[D8];exact⟨p1.nd,n2.2.1,λx hx z hz e=>by subst e;exact cOut x hx (bC (cA x (i2 x hz)))⟩
              . subst e;rcases A9.mp hz with hz|hz
                . exact cOut x hz (bC (cA x (i1 x hx)))
                . exact n3 x hx x (C6 _ hz) rfl
            . intro x hx;rcases A9.mp hx with hx|hx
              . rcases A9.mp hx with hx|hx
                . exact F2.nz x (bC (cA x (i1 x hx)))
                . exact cz x hx
              . exact F2.nz x (bC (cA x (i2 x hx)))
            . intro x hx hA;rcases A9.mp hx with hx|hx
              . rcases A9.mp hx with hx|hx
                . exact i1 x hx
                . exact E8 hA (cOut x hx)
              . exact i2 x hx
            . intro x hx;rcases A9.mp hx with hx|hx
              . rcases A9.mp hx with hx|hx
                . exact .inl (gJ (bC (cA x (i1 x hx))))
                . exact p1.inA x hx
              . exact .inl (gJ (bC (cA x (i2 x hx))))
          . exact w.elim
       . exact w.elim
     . exact w.elim
    |ex x=>rw[ed]at w;exact WpX.ev w ev1
    |no=>rw[ed]at w;exact w
 |ex x=>rw[ee]at w;exact w
 |no=>rw[ee]at w;exact w
def spI(K:A5)(cn:aa)(c:Str)(n:Nat)(G:bt):Sp:=λvs H Q E=>vs.length=n+1/\∃x C dx us ts Z,vs=.ref x::us/\cn c=some C/\H x=some (.ins C dx [])/\¬Z x/\(∀a,Z a->H a≠none)/\Reps K cn H Z ts us []/\
 match G ts with
 |.ok t=>∀H' Z' B,Ev [[x]] H Z [B] H' Z'->Rep K cn H' Z' t (.ref x) B->B.Nodup->(∀b∈B,¬Z' b)->(∀a,Z' a->H' a≠none)->Q .non H'
 |.ex e=>WpX K cn E [[x]] H Z e
 |.no=>False
theorem eq1(hc:cn c=some C)(ha:RAB Jn K cn E ta a):RE Jn K cn E [] (cp6 C (spI K cn c n G) [] E' ta) (aW n G a):=λAs H Z U O F Q w=>by
 unfold aW at w;refine ha As H Z U O F _ ?_;cases e:a U with
 |ok ts=>
  rw[e]at w;intro vs H1 Z1 B m r1 x dx hx hdx hne;simp only[Res.bind]at w;split at w
  . next hn=>
    have hs:Same H1 (L2.upd (L2.upd H1 dx (.own x)) x (.ins C dx [])):=λb u q=>by rw[dJ (iZ q hx),dJ (iZ q hdx)];exact q
    refine⟨by simp[Reps.length ts r1,hn],x,C,dx,vs,frzs ts,(λa=>Z1 a\/a∈B),X4,hc,by rw[gC],λh=>?_,λa h=>?_,(Reps.frz ts r1 (λa h=>.inl h) (λa h=>.inr h)).same hs (λ_ h=>h),?_⟩
    . rcases h with h|h
      . exact m.zi x h hx
      . obtain⟨o,q,_⟩:=Reps.dom ts r1 x h;rw[hx]at q;cases q
    . intro q;have q':=hs.free q;rcases h with h|h
      . exact m.zi a h q'
      . obtain⟨o,q2,_⟩:=Reps.dom ts r1 a h;rw[q2]at q';cases q'
    cases e2:G (frzs ts)with
    |ok t=>
     rw[e2]at w;intro H2 Z2 C2 ev r2 nd bz zi2;refine⟨rfl,?_⟩;simp only at w;have sm:Same H1 H2:=λb u q=>ev.keep b u (hs b u q) (by simpa using iZ q hx);have bn:∀b∈C2,H1 b=none:=λb hb=>by
      rcases ev.own b (by simpa using hb)with q|q
      . have:b=x:=by simpa using q
        rw[this];exact hx
      . exact hs.free q
     split at w
     . next hcl=>
       rw[V8]at hcl;by_cases hcl':cT t=true
       . refine w _ H2 Z1 C2 ⟨m.same.trans sm,m.zz,λa h=>m.zn a h,λa h q=>m.zi a h (sm.free q),Rep.any t hcl' r2,nd,λb hb z=>m.zi b z (bn b hb),λb hb=>.inl (m.same.free (bn b hb))⟩
       . have hno:=hcl.resolve_left hcl';have hB:=Reps.bare ts hno r1;subst hB;refine w _ H2 Z2 C2 ⟨m.same.trans sm,λa h=>ev.zz a (.inl (m.zz a h)),λa h=>?_,zi2,r2,nd,bz,λb hb=>.inl (m.same.free (bn b hb))⟩;rcases ev.zn a h with(h|h)|h|h
         . exact m.zn a h
         . cases h
         . have:a=x:=by simpa using h
           rw[this];exact .inr (m.same.free hx)
         . exact .inr (m.same.free (hs.free h))
     . exact w.elim
    |ex x=>rw[e2]at w;exact w.elim
    |no=>rw[e2]at w;exact w.elim
  . exact w.elim
 |ex x=>rw[e]at w;exact w
 |no=>rw[e]at w;exact w
def kT:bS->Res T
 |.nx U=>match U[0]? with
  |some (some t)=>.ok t
  |_=>.no
 |.ex x=>.ex x
 |_=>.no
theorem ea0{c:Str}{P:G1}{w:World}{mg:ac}{base:Heap}{x qual:Str}{st:Stmt}{f:Addr}{fd:FuncData}{N ps:ax}{k:Nat}{d:Fr->bS}(F:Fun K x qual st f fd)(S:aV N ps (aN st))
 (hbody:∀(y:Addr)(cdv:Value)(A:J0)(outer:bm)(s:B8)(H:Hp)(E:XK),Room k (A.deeper (envOfC qual (aN st) s.heap.objs.size f cdv))->
  ∃t,PSs (nW lI P w K mg base N qual (aN st) f cdv A outer s H E).nox (eJ st) t/\RS [(0,.ref y)] K cn E t d){n:Nat}{G:bt}(hn:ps.length=n+1)(hG:∀ts,G ts=kT (d (cD N.length (.ins true c [] []::ts)))):FnOk P w K mg base lI (k+1) f fd ps (spI K cn c n G):=by
 have eG:G=λts=>kT (d (cD N.length (.ins true c [] []::ts))):=funext hG;subst eG;refine F.ok S (λvs H Q E h=>by rw[hn];exact h.1) λcdv A outer s H vs Q E hr h=>?_;obtain⟨hl,y,C,dx,us,ts,Z,rfl,hC,hy,hZ,zi,r,w⟩:=h;obtain⟨t,hp,ht⟩:=hbody y cdv A outer s H E hr;refine⟨t,hp,?_⟩;have lt:=Reps.length ts r;have ry:Rep K cn H Z (.ins true c [] []) (.ref y) [y]:=by simp only[Rep,Reps];exact⟨y,C,dx,[],[],rfl,rfl,hC,hy,rfl,rfl,rfl⟩
 let m:=N.length-(ts.length+1);have sl:Slots K cn H Z (cD N.length (.ins true c [] []::ts)) (L2.start N (.ref y::us)) ([y]::List.replicate (ts.length+m) []):=by
  unfold cD L2.start;refine⟨some (.ref y),us.map some++List.replicate m none,[y],_,?_,rfl,⟨_,rfl,ry⟩,?_⟩
  . simp only[C7,List.length_cons,lt,List.cons_append];rfl
  . exact aq5 ts r
 have fl:([y]::List.replicate (ts.length+m) []).flatten=[y]:=by rw[D0,mX];rfl
 have F0:Frm [(0,.ref y)] K cn H Z (cD N.length (.ins true c [] []::ts)) (L2.start N (.ref y::us)) ([y]::List.replicate (ts.length+m) []):=
  ⟨sl,by rw[fl];simp,by rw[fl];intro a ha;have:a=y:=(by simpa using ha);rw[this];exact hZ,zi,λp hp=>by rw[C5]at hp;subst hp;rfl⟩
 refine ht _ H Z _ _ F0 _ ?_;cases ed:d (cD N.length (.ins true c [] []::ts))with
 |nx U=>
  simp only[ed,kT]at w;intro σ' As' H' Z' F' ev;cases e0:U[0]? with
  |none=>rw[e0]at w;exact w.elim
  |some o=>
   rw[e0]at w;cases o with
   |none=>exact w.elim
   |some t0=>
    simp only at w;obtain⟨v,e1,r1⟩:=F'.sl.get e0;have e2:=F'.pn (0,.ref y) (C5.mpr rfl);simp only at e2;rw[e1]at e2;cases e2;refine w H' Z' (As'.getD 0 []) ⟨λa o h q=>ev.keep a o h (by rw[fl];simpa using q),λa ha=>?_,ev.zz,λa h=>?_,ev.dom⟩ r1 (mL F'.nd 0) (λb hb=>F'.nz b (bC hb)) F'.zi
    . have q:=ev.own a (bC (i:=0) (by simpa using ha));rw[fl]at q;simpa using q
    . have q:=ev.zn a h;rw[fl]at q;simpa using q
 |ex e=>simp only[ed,kT]at w;exact WpX.ev w ⟨λ_ _ q _=>q,λa ha=>(by rw[fl]at ha;exact .inl (by simpa using ha)),λ_ h=>h,λ_ h=>.inl h,λ_ h=>h⟩
 |rt t=>simp only[ed,kT]at w
 |bk U=>simp only[ed,kT]at w
 |rm U t=>simp only[ed,kT]at w
 |ct U=>simp only[ed,kT]at w
 |no=>simp only[ed,kT]at w
end
end TL
namespace L2
structure mI (P:G1) (w:World) (K:A5) (mg:ac) (base:Heap) (k:Nat) (C:Addr) (m:Str) (sp:Sp):Prop where
 ex:∃f fd ps,Cls K C/\dd3 K C m f/\FnOk P w K mg base lI k f fd ps sp/\Binds K fd ps []
structure Mak (P:G1) (w:World) (K:A5) (mg:ac) (base:Heap) (k:Nat) (x:Str) (C:Addr) (sp:Sp):Prop where
 ex:∃f fd ps,Mk K C f/\FnOk P w K mg base lI k f fd ps sp/\mg x=some (.ref C)/\Binds K fd ps []
def ch0(tab:List (Addr×Sp))(m:Str)(ta:TE)(t:TA):TE:=λO H Q=>ta O H λx H1=>∃a C dx fs sp,x=.ref a/\H1 a=some (.ins C dx fs)/\(C,sp)∈tab/\fs.lookup m=none/\t O H1 λvs H2=>sp (x::vs) H2 Q E0
section
variable{X:Cx}
def dl4(he:PE X o ta)(hT:∀q∈tab,mI X.prog X.w X.K X.mg X.base k q.1 m q.2)(hr:Room k X.A)(ha:PA X (e::es) t)
 (hst:starEach (e::es) X.env=(false,eval e X.env)::starEach es X.env:=by rfl)(hpl:(backTo pos (starEach es X.env)).any (·.1)=false:=by rfl)
 (ht:eval (.Call (.Attribute o m apos) (e::es) [] pos) X.env=(do
  let ov<-eval o X.env
  standAt apos.atName
  let(f,first)<-holding [ov] (getMethod ov m pl)
  callWith pos f first (backTo pos (starEach (e::es) X.env)) (backToKw pos (keywordEach [] X.env))):=by rfl):
 PE X (.Call (.Attribute o m apos) (e::es) [] pos) (ch0 tab m ta t):=by
 intro ζ s O H Q I h;refine PySem.W.methodCall_KW (pl:=pl) (jI (he s O H _ I h) λu s1 x H1 I1 rx qq=>?_) ht;refine z54 qq λa C dx fs sp ex ea hq l q=>?_;subst ex;obtain rfl:u=Value.ref a:=rx;refine z33 ((hT _ hq).ex) λf fd ps c hm F hb=>?_;refine au9 I1 ea c hm l ?_;refine U3 (first:=[.ref a]) (h₀:=X.base) I.ok.mod.kin hm.kp (wM (ha ζ s1 O H1 _ I1 q) λus s2 vs H2 I2 r q2=>⟨I2.kIn,?_⟩) hst hpl;exact bo0 (us:=.ref a::us) (vs:=.ref a::vs) F hr hb .nil ab9 I2 (.cons rfl r) (by rw[K8];exact q2)
def bm4(he:PE X o ta)(hT:∀q∈tab,mI X.prog X.w X.K X.mg X.base k q.1 m q.2)(hr:Room k X.A)
 (ht:eval (.Call (.Attribute o m apos) [] [] pos) X.env=(do
  let ov<-eval o X.env
  standAt apos.atName
  let(f,first)<-holding [ov] (getMethod ov m pl)
  callWith pos f first (backTo pos (starEach [] X.env)) (backToKw pos (keywordEach [] X.env))):=by rfl):
 PE X (.Call (.Attribute o m apos) [] [] pos) (ch0 tab m ta al8):=by
 intro ζ s O H Q I h;refine PySem.W.methodCall_KW (pl:=pl) (jI (he s O H _ I h) λu s1 x H1 I1 rx qq=>?_) ht;refine z54 qq λa C dx fs sp ex ea hq l q=>?_;subst ex;obtain rfl:u=Value.ref a:=rx;refine z33 ((hT _ hq).ex) λf fd ps c hm F hb=>?_;refine au9 I1 ea c hm l ?_;exact PySem.W.callWith_K0 (first:=[.ref a]) I1.kIn hm.kp (bo0 (us:=[.ref a]) (vs:=[.ref a]) F hr hb .nil ab9 I1 (.cons rfl .nil) q)
def tE(d:Mak X.prog X.w X.K X.mg X.base k x C sp)(hr:Room (k+1) X.A)(ha:PA X (e::es) t)(hg:Gl X x:=by rfl)
 (hdb:(x==("__debug__":Str))=false:=by decide)(he:starEach (e::es) X.env=(false,eval e X.env)::starEach es X.env:=by rfl)(hpl:(backTo pos (starEach es X.env)).any (·.1)=false:=by rfl):
 PE X (.Call (.Name x p) (e::es) [] pos) (cp6 C sp [] E0 t):=by
 refine z33 d.ex λf fd ps M F hm hb=>?_;exact dt8 M F hr hg hm hb .nil ab9 ha hdb he hpl
end
end L2
namespace TL
open L2
section
variable{Jn:gX}{K:A5}{cn:aa}{E:XK}
def zO(n:Nat)(G:bt)(ts:aw):Res T:=if ts.length=n then match G (frzs ts)with
 |.ok t=>if(cT t||bB ts)=true then .ok t else .no
 |_=>.no else .no
def cb0(m:Mo H Z H1 Z1)(r1:Reps K cn H1 Z1 ts vs B)(w:WpE K cn E As H Z [] Q (zO n G ts)):bO K cn n G vs H1 Q E':=by
 unfold zO at w;split at w
 . next hn=>
   refine⟨by rw[Reps.length ts r1,hn],frzs ts,(λa=>Z1 a\/a∈B),λa h=>?_,Reps.frz ts r1 (λa h=>.inl h) (λa h=>.inr h),?_⟩
   . rcases h with h|h
     . exact m.zi a h
     . obtain⟨o,q,_⟩:=Reps.dom ts r1 a h;rw[q];exact(λz=>nomatch z)
   cases e2:G (frzs ts)with
   |ok t=>
    rw[e2]at w;intro v H2 Z2 C p;simp only at w;split at w
    . next hc=>
      rw[V8]at hc;have bn:∀b∈C,H1 b=none:=λb hb=>(p.bn b hb).resolve_right (λ⟨i,hi,_⟩=>by cases hi);by_cases hcl:cT t=true
      . refine w v H2 Z1 C ⟨m.same.trans p.same,m.zz,λa h=>m.zn a h,λa h=>?_,Rep.any t hcl p.rep,p.nd,λb hb z=>?_,λb hb=>.inl (m.same.free (bn b hb))⟩
        . intro q;exact m.zi a h (p.same.free q)
        . exact m.zi b z (bn b hb)
      . have hno:=hc.resolve_left hcl;have hB:=Reps.bare ts hno r1;subst hB;refine w v H2 Z2 C ⟨m.same.trans p.same,λa h=>p.zz a (.inl (m.zz a h)),λa h=>?_,p.zi,p.rep,p.nd,p.bz,λb hb=>.inl (m.same.free (bn b hb))⟩;rcases p.zn a h with(h|h)|h
        . exact m.zn a h
        . cases h
        . exact .inr (m.same.free h)
    . exact w.elim
   |ex x=>rw[e2]at w;exact w.elim
   |no=>rw[e2]at w;exact w.elim
 . exact w.elim
theorem aa7:∀(ns:ax)(vs:a_),iC f ns=none->(ns.zip vs).lookup f=none
 |[],_,_=>by simp
 |n::ns,[],_=>by simp
 |n::ns,w::vs,h=>by
  unfold iC at h;rw[U4,J5];by_cases q:n=f
  . rw[E3 q]at h;cases h
  . rw[D7 q,Option.map_eq_none_iff]at h;rw[show(f==n)=false from by rw[K2];exact λz=>q z.symm];exact aa7 ns vs h
def nX(n:Nat)(m:Str)(tabs:List (Str×(List T->Res T)))(o:a8)(r:bb):Fr->Res T:=λU=>(o U).bind λt=>match t with
 |.ins _ c ns _=>match iC m ns with
  |none=>match tabs.lookup c with
   |some G=>(r U).bind λts=>zO n G (t::ts)
   |none=>.no
  |some _=>.no
 |_=>.no
def av7(K:A5)(cn:aa)(n:Nat)(tabs:List (Str×(List T->Res T)))(tab:List (Addr×Sp)):Prop:=∀c G C,tabs.lookup c=some G->cn c=some C->(C,bO K cn n G)∈tab
theorem df2(hT:av7 K cn n tabs tab)(ho:RB Jn K cn E to o)(ha:RAB Jn K cn E ta a):RE Jn K cn E [] (ch0 tab m to ta) (nX n m tabs o a):=λAs H Z U O F Q w=>by
 unfold nX at w;refine ho As H Z U O F _ ?_;cases e:o U with
 |ok t=>
  rw[e]at w;intro v H1 Z1 B p;simp only[Res.bind]at w;split at w
  . next ow c ns us=>
    split at w
    . next hm=>
      split at w
      . next G hG=>
        refine z54 p.rep.insS λq C dx vs D zz hC eq _ r=>?_;subst zz;refine⟨q,C,dx,_,bO K cn n G,rfl,eq,hT c G C hG hC,aa7 ns vs hm,ha As H1 Z1 U O (F.mo p.mo) _ ?_⟩;cases e2:a U with
        |ok ts=>rw[e2]at w;intro ws H2 Z2 D2 m2 r2;refine cb0 (As:=As) (E:=E) (p.mo.trans m2) (ts:=.ins ow c ns us::ts) (B:=B++D2) ?_ w;simp only[Reps];exact⟨_,ws,B,D2,rfl,rfl,p.rep.same m2.same m2.zz,r2⟩
        |ex x=>rw[e2]at w;exact WpX.ev w p.mo.ev
        |no=>rw[e2]at w;exact w
      . exact w.elim
    . exact w.elim
  . exact w.elim
 |ex x=>rw[e]at w;exact w
 |no=>rw[e]at w;exact w
end
end TL
namespace L2
section
variable{X:Cx}(K:A5)
end
end L2
namespace TL
open L2
section
variable{Jn:gX}{K:A5}{cn:aa}{E:XK}{As:ag}{H:Hp}{Z:aq}{Q:VK}
end
end TL
namespace L2
section
variable{X:Cx}
def dg7:TS:=λ_ _ _=>False
def kZ{st:Stmt}:PS X st dg7:=λ_ _ _ _ _ _ h=>h.elim
def cz4:V->List V->Hp->VK->Prop:=λx vs H Q=>∃l xs i y,x=.ref l/\vs=[.int i,y]/\H l=some (.lst xs)/\0<=i/\i.toNat<=xs.length/\xs.length<sizeLine/\Q .non (upd H l (.lst (xs.take i.toNat++y::xs.drop i.toNat)))
def bj9(K:A5)(n:Nat):V->List V->Hp->VK->Prop:=λx vs H Q=>∃p ys y,x=.ref p/\vs=[y]/\SqL K H p ys/\∃(es:bw)(j:Nat),es.length=ys.length/\(∀(j:Nat) z e,ys[j]?=some z->es[j]?=some e->EqD K H n z y e)/\es[j]?=some true/\(∀m,m<j->es[m]?=some false)/\Q (.int j) H
def dm3(K:A5)(n:Nat):R2:=λx y H Q=>rNe x y H Q\/(∃p q b,x=.ref p/\y=.ref q/\EqD K H n x y b/\Q (.bl (!b)) H)
def ei8(hu:X.A.units+n<cLine):OpR X (compareOp .NotEq) (dm3 X.K n):=by
 intro ζ s O H x y v u Q I rx ry h;rcases h with h|⟨p,q,b,rfl,rfl,h,hq⟩
 . exact fc1 s O H x y v u Q I rx ry h
 . cases rx;cases ry;have bN:EP X ζ O Q (.bool (!b)) s:=⟨.bl (!b),H,I,rfl,hq⟩;cases n with
   |zero=>exact E8 h.1 (λz=>by cases z)
   |succ n=>
    rcases h with⟨h1,_,_⟩|⟨p,q,xs,ys,e1,e2,s1,s2,h⟩|⟨p,q,xs,ys,e1,e2,s1,s2,es,hl,he,rfl⟩
    . exact E8 h1 (λz=>by cases z)
    . cases e1;cases e2;refine z12 (I.list s1) λits r1 p1 _=>?_;refine z12 (I.list s2) λjts r2 p2 _=>?_;have l1:=r1.length;have l2:=r2.length;rcases h with⟨hne,rfl⟩|⟨heq,es,hl,he,rfl⟩
      . exact SeqAt.RcNeAt.lists_lengths p1.isList p2.isList (by simp only[B6,bne_iff_ne,ne_eq];omega) W9 _ _ _ _ bN
      . refine SeqAt.RcNeAt.lists (e:=λj=>es.getD j true) p1.isList p2.isList (by simp only[B6];omega) W9 (λj h1 h2=>?_) _ _ _ _ ?_
        . simp only[B6]at h1 h2;simp only[List.getElem_toArray];obtain⟨x,ex,rx⟩:=iB r1 h1;obtain⟨y,ey,ry⟩:=iB r2 h2;have hj:j<es.length:=W9
          have eg:es.getD j true=es[j]:=by rw[A8,A6 hj];rfl
          rw[eg];exact uA I n (by show X.A.units+1+n<cLine;omega) rx ry (he j x y es[j] ex ey (A6 hj))
        . rw[B6,show its.length=es.length by omega,uN];exact bN
    . cases e1;cases e2;refine z12 (I.tuple s1) λits r1 p1 _=>?_;refine z12 (I.tuple s2) λjts r2 p2 _=>?_;have l1:=r1.length;have l2:=r2.length;refine SeqAt.RcNeAt.tuples (e:=λj=>es.getD j true) (show s.heap.IsTuple _ its.toArray from p1) (show s.heap.IsTuple _ jts.toArray from p2) W9 (λj h1 h2=>?_) _ _ _ _ ?_
      . simp only[B6]at h1 h2;simp only[List.getElem_toArray];obtain⟨x,ex,rx⟩:=iB r1 h1;obtain⟨y,ey,ry⟩:=iB r2 h2;have hj:j<es.length:=W9
        have eg:es.getD j true=es[j]:=by rw[A8,A6 hj];rfl
        rw[eg];exact uA I n (by show X.A.units+1+n<cLine;omega) rx ry (he j x y es[j] ex ey (A6 hj))
      . simp only[B6];rw[show min its.length jts.length=es.length by omega,uN,<-l1,<-l2];exact bN
def az0(K:A5)(hr:Room k X.A)(hn:n<=60:=by decide)(hK:X.K=K:=by rfl):OpR X (compareOp .NotEq) (dm3 K n):=by subst hK;exact ei8 (R6 (Nat.add_le_add_left (K1 hn X5) _) hr.units)
def cq8:MtM X "list.insert" cz4:=by
 intro ζ s O H x vs v us Q I rx rv h;refine z46 h λl xs i y zz zy hH h0 h1 hz q=>?_;clear h;subst zz zy;cases rx;refine z22 rv.two λu u' zz ru ru'=>?_;subst zz;obtain⟨t,rfl⟩:=ru;obtain⟨z,its,n,r,hl,e⟩:=I.lstM hH;have hfit:¬(!Builtin.List.listFitsIndex i)=true:=by rw[fitsIndex_both W9 (by have:xs.length<2^62:=Nat.lt_trans hz X5;omega)];decide
 refine V0 F.slot_list_insert ⟨_,e,rfl⟩ F.entry_list_insert (F.args_list_insert_3 _ _ _) (AutoSeq1.list_insert_list_int_val_1 l its.toArray n i t u' hfit (by rw[B6];omega)) ⟨e,?_⟩;refine⟨.non,_,I.lset (its':=its.take i.toNat++u'::its.drop i.toNat) hH e ?_ ((r.take i.toNat).append (.cons ru' (r.drop i.toNat))) ?_,rfl,q⟩
 . have hn:¬i<0:=W9
   simp only[hn,Q2,B6,V6 (show i.toNat<=its.length by omega)];apply Array.toList_inj.mp;simp[List.take_append,List.drop_eq_nil_of_le];exact V3 X4
 . simp;omega
def dv3(hu:X.A.units+n+1<cLine):MtR X "list.index" (bj9 X.K n):=by
 intro ζ s O H x vs v us Q I rx rv h;obtain⟨p,ys,y,rfl,rfl,hq,es,j,hl,he,hj,hno,q⟩:=h;cases rx;obtain⟨u,rfl,ru⟩:=rv.one;refine z12 (I.list hq) λits r pl hz=>?_;have l1:=r.length;obtain⟨f,hf,_⟩:=cd7 I r hl he;have at_:∀(m:Nat)(hm:m<its.length) b,es[m]?=some b->f its[m]=b:=λm hm b eb=>by obtain⟨z,ez,rz⟩:=iB r hm;obtain⟨z',rz',d⟩:=hf its[m] (K3 hm);cases rz.inj rz';exact EqD.det I n _ _ _ _ d (he m z b ez eb)
 have hjl:j<its.length:=by have:=(D3.mp hj).1;omega
 obtain⟨⟨oc,od,odt,osl⟩,n0,ho,hc,hd,hdt⟩:=pl;simp only at hc hd hdt;subst hc hd hdt;refine V0 F.slot_list_index ⟨_,ho,rfl⟩ F.entry_list_index (F.args_list_index_2 _ _) (SeqAt.list_indexAt p its.toArray n0 none osl u f j (by simpa using hjl) ?_ ?_ ?_) ⟨ho,λy hy=>?_,?_⟩
 . have:j<2^62:=G3 hjl (by rw[<-l1];exact K1 hz X5);omega
 . simpa using at_ j hjl true hj
 . intro m hm hmj;simpa using at_ m (by simpa using hm) false (hno m hmj)
 . obtain⟨z,rz,d⟩:=hf y (by simpa using hy);exact uA I n (by show X.A.units+1+n<cLine;omega) rz ru d
 . exact⟨.int j,H,I.tok _,⟨_,rfl⟩,q⟩
end
end L2
namespace TL
open L2
section
variable{Jn:gX}{K:A5}{cn:aa}{E:XK}
def oH:Fr->bS:=λ_=>.no
def ei0:RS Jn K cn E dg7 oH:=λ_ _ _ _ _ _ _ w=>w.elim
def dh6(K:A5)(cn:aa)(r:bh)(f:de):Prop:=
 ∀(H:Hp)(Z:aq)(a:Addr)(us ts us':aw)(ws vs:a_)(C0 C:av),H a=some (.lst ws)->Reps K cn H Z us ws C0->Reps K cn H Z ts vs C->(C0++C).Nodup->f us ts=some us'->
  ∃ws' D,Reps K cn H Z us' ws' D/\D.Nodup/\(∀x∈D,x∈C0\/x∈C)/\∀Q:VK,(∀y,Q y (L2.upd H a (.lst ws')))->r (.ref a) vs H Q
def bf2(j:Nat)(mv:az)(f:de)(d:be)(e:bb):Fr->bS:=λU=>match U[j]? with
 |some (some t0)=>match d U with
  |.ok p=>match fN p t0 with
   |some (.lst true us)=>match e U with
    |.ok ts=>match f us ts with
     |some us'=>al6 j p us' (kills mv U)
     |none=>.no
    |.ex x=>.ex x
    |.no=>.no
   |_=>.no
  |.ex x=>.ex x
  |.no=>.no
 |_=>.no
theorem ej4(hr:dh6 K cn r f)(hd:RP Jn K cn E j to d)(he:RA Jn K cn E mv ta e)(hj:mv.contains j=false:=by rfl):RS Jn K cn E (bm7 (tBM K "list" r to ta)) (bf2 j mv f d e):=λAs H Z U O F D w=>by
 unfold bf2 at w;cases e1:U[j]? with
 |none=>rw[e1]at w;exact w.elim
 |some o=>
  rw[e1]at w;cases o with
  |none=>exact w.elim
  |some t0=>
   obtain⟨v0,e2,r0⟩:=F.sl.get e1;refine hd As H Z U O F t0 v0 e1 e2 r0 _ ?_;simp only at w;cases ed:d U with
   |ok p=>
    rw[ed]at w;intro u v B H1 Z1 m1 hn pl;simp only[hn]at w;split at w
    . next us hq=>
      cases hq;have q:=pl.rep;simp only[Rep]at q;refine z33 q λa ws C0 zz zy ea rs=>?_;clear q;subst zz zy;refine⟨.inl ⟨rfl,ws,SqL.of ea⟩,he As H1 Z1 U O (F.mo m1) _ ?_⟩;cases ee:e U with
      |ok ts=>
       rw[ee]at w;intro vs H2 Z2 C p2;simp only at w;cases ef:f us ts with
       |none=>rw[ef]at w;exact w.elim
       |some us'=>
        rw[ef]at w;simp only at w;have pl2:=pl.mo p2.mo.same p2.mo.zz;have ea2:=p2.mo.same _ _ ea;have rs2:=rs.same p2.mo.same p2.mo.zz;have m2:=m1.trans p2.mo;have F2:=(F.mo m2).kills mv;have gD:(gQ mv As).getD j []=As.getD j []:=ab2 mv hj As;have pl3:Plug K cn H2 Z2 t0 v0 ((gQ mv As).getD j []) p (.lst true us) (.ref a) (a::C0):=by rw[gD];exact pl2
        have ndB:(a::C0).Nodup:=(mL F.nd j).sublist pl.sub;have c0A:∀x∈C0,x∈As.getD j []:=λx hx=>pl.sub.mem (B5 _ hx);have cOut:∀x∈C,x∉(gQ mv As).flatten:=λx hx hA=>by
         rcases p2.bn x hx with z|⟨i,hi,z⟩
         . obtain⟨o,ho,_⟩:=(F.mo m1).sl.dom x (gJ hA);rw[ho]at z;cases z
         . exact vX F.nd hi z hA
        have c0In:∀x∈C0,x∈(gQ mv As).flatten:=λx hx=>bC (i:=j) (by rw[gD];exact c0A x hx);have ndC:(C0++C).Nodup:=by rw[D8];exact⟨(G6.mp ndB).2,p2.nd,λx hx y hy e=>by subst e;exact cOut x hy (c0In x hx)⟩
        refine z23 (hr H2 Z2 a us ts us' ws vs C0 C ea2 rs2 p2.rep ndC ef) λws' D' r' nd' in' hQ=>?_;refine hQ _ λ_=>?_;refine ba8 (As:=As) (H:=H) (Z:=Z) (E:=E) F2 (by rw[ae4 mv hj];exact e1) e2 pl3 rfl rfl ea2 (us':=us') (ws':=ws') (C:=D') r' nd' ?_ ?_ ?_ ?_ w
        . intro x hx;rcases in' x hx with hx|hx
          . exact F2.nz x (c0In x hx)
          . exact p2.bz x hx
        . intro x hx hA;rcases in' x hx with hx|hx
          . exact hx
          . exact E8 hA (cOut x hx)
        . exact⟨λb o q _=>m2.same b o q,λb hb=>.inl (gJ hb),m2.zz,λb h=>(m2.zn b h).imp_right .inr,λb h=>m2.same.free h⟩
        . intro x hx;rcases in' x hx with hx|hx
          . exact .inl (bC (c0A x hx))
          . rcases p2.bn x hx with z|⟨i,hi,z⟩
            . exact .inr (m1.same.free z)
            . exact .inl (bC z)
      |ex x=>rw[ee]at w;exact WpX.ev w m1.ev
      |no=>rw[ee]at w;exact w.elim
    . exact w.elim
   |ex x=>rw[ed]at w;exact w
   |no=>rw[ed]at w;exact w
def cq0(us:aw):List T->Option (List T)
 |[.lst true zs]=>if us.length+zs.length<=sizeLine then some (us++zs)else none
 |_=>none
def cl7(us:aw):List T->Option (List T)
 |[.int i,t]=>if 0<=i/\i.toNat<=us.length/\us.length<sizeLine then some (us.take i.toNat++t::us.drop i.toNat)else none
 |_=>none
def ff4(_:aw):List T->Option (List T)
 |[]=>some []
 |_=>none
def ei9:dh6 K cn cl4 cq0:=λH Z a us ts us' ws vs C0 C ha r0 r1 nd h=>by
 unfold cq0 at h;split at h
 . next zs=>
   split at h
   . next hl=>
     cases h;simp only[Reps]at r1;refine z44 r1 λv r' B1 C1 zz zy ra zx zw=>?_;clear r1;subst zz zy zx zw;simp only[Rep]at ra;refine z33 ra λb zs' B zz zy eb rz=>?_;clear ra;subst zz zy;simp only[K8]at nd⊢;refine⟨ws++zs',C0++B,Reps.append us r0 rz,nd.sublist ((V4 b B).append_left C0),λx hx=>(A9.mp hx).imp_right (B5 _),λQ hQ=>⟨a,b,ws,zs',rfl,rfl,ha,eb,?_,hQ _⟩⟩;rw[Reps.length us r0,Reps.length zs rz];exact hl
   . cases h
 . cases h
theorem Reps.split:∀(n:Nat)(us:aw){ws:a_}{C:av},Reps K cn H Z us ws C->∃C1 C2,C=C1++C2/\Reps K cn H Z (us.take n) (ws.take n) C1/\Reps K cn H Z (us.drop n) (ws.drop n) C2
 |0,us,ws,C,r=>⟨[],C,rfl,by simp[Reps],by simpa using r⟩
 |n+1,[],ws,C,r=>by simp only[Reps]at r;obtain⟨rfl,rfl⟩:=r;exact⟨[],[],rfl,by simp[Reps],by simp[Reps]⟩
 |n+1,t::us,ws,C,r=>by simp only[Reps]at r;refine z43 r λv r' B1 B2 zz zy h1 h2=>?_;clear r;subst zz zy;refine z22 (Reps.split n us h2) λC1 C2 zz a1 a2=>?_;subst zz;refine⟨B1++C1,C2,X4,?_,by simpa using a2⟩;simp only[List.take_succ_cons,Reps];exact⟨v,r'.take n,B1,C1,rfl,rfl,h1,a1⟩
def ew9:dh6 K cn cz4 cl7:=λH Z a us ts us' ws vs C0 C ha r0 r1 nd h=>by
 unfold cl7 at h;split at h
 . next i t=>
   split at h
   . next hl=>
     cases h;obtain⟨h0,h1,h2⟩:=hl;simp only[Reps]at r1;obtain⟨v,r',B1,D1,rfl,rfl,ra,v2,r2,B2,D2,rfl,rfl,rb,rfl,rfl⟩:=r1;simp only[Rep]at ra;obtain⟨rfl,rfl⟩:=ra;refine z22 (Reps.split i.toNat us r0) λC1 C2 zz a1 a2=>?_;subst zz;simp only[K8,List.nil_append]at nd⊢;have pm:(C1++(B2++C2)).Perm ((C1++C2)++B2):=by rw[K0];exact List.Perm.append_left C1 List.perm_append_comm
     refine⟨ws.take i.toNat++v2::ws.drop i.toNat,C1++(B2++C2),Reps.append _ a1 ?_,pm.nodup_iff.mpr nd,λx hx=>A9.mp (pm.mem_iff.mp hx),λQ hQ=>⟨a,ws,i,v2,rfl,rfl,ha,h0,?_,?_,hQ _⟩⟩
     . simp only[Reps];exact⟨v2,ws.drop i.toNat,B2,C2,rfl,rfl,rb,a2⟩
     . rw[Reps.length us r0];exact h1
     . rw[Reps.length us r0];exact h2
   . cases h
 . cases h
def frz1:T->T
 |.lst o xs=>.lst o (frzs xs)
 |t=>t
def bw7(d:a8):Fr->Res T:=λU=>(d U).bind λt=>.ok (frz1 t)
theorem RE.frz1(h:RE Jn K cn E [] te d):RE Jn K cn E [] te (bw7 d):=λAs H Z U O F Q w=>h As H Z U O F Q (by
 unfold bw7 at w;cases e:d U with
 |ok t=>
  rw[e]at w;intro v H' Z' B p;simp only[Res.bind]at w;cases t with
  |lst o xs=>
   cases o with
   |true=>
    have q:=p.rep;simp only[Rep]at q;refine z33 q λa vs C zz zy ea rs=>?_;clear q;subst zz zy;have hC:∀x∈C,H x=none:=λx hx=>(p.bn x (B5 _ hx)).resolve_right (λ⟨i,hi,_⟩=>by cases hi);refine w (.ref a) H' (λx=>Z' x\/x∈C) [a] ⟨p.same,λx z=>.inl (p.zz x z),λx z=>?_,λx z=>?_,?_,X4,λb hb=>?_,λb hb=>?_⟩
    . rcases z with z|z
      . exact p.zn x z
      . exact .inr (hC x z)
    . rcases z with z|z
      . exact p.zi x z
      . obtain⟨o,q,_⟩:=Reps.dom xs rs x z;rw[q];exact(λz=>nomatch z)
    . simp only[TL.frz1,Rep];exact⟨a,vs,[],rfl,rfl,ea,Reps.frz xs rs (λ_ z=>.inl z) (λ_ z=>.inr z)⟩
    . have hb:b=a:=by simpa using hb
      subst hb;rintro(z|z)
      . exact p.bz b B7 z
      . exact(G6.mp p.nd).1 z
    . have hb:b=a:=by simpa using hb
      subst hb;exact p.bn b B7
   |false=>have q:=p.rep;simp only[Rep]at q;refine z23 q λa vs zz zy ea rs=>?_;clear q;subst zz zy;refine w (.ref a) H' Z' [] ⟨p.same,p.zz,p.zn,p.zi,?_,J2,fH,fH⟩;simp only[TL.frz1,Rep];exact⟨a,vs,rfl,trivial,ea,Reps.frz xs rs (λ_ z=>z) fH⟩
  |_=>exact w v H' Z' B p
 |ex x=>rw[e]at w;exact w
 |no=>rw[e]at w;exact w)
def yQ(t u:T):Res T:=if ad2 t=true/\ad2 u=true then match tN eN t u with
 |some b=>.ok (.bl (!b))
 |none=>.no
 else neT t u
def fh0:qC K cn (dm3 K eN) yQ:=λE As H Z t u x y A B Q zi rt ru w=>by
 unfold yQ at w;split at w
 . next hs=>
   obtain⟨a,rfl⟩:=rt.seqRef hs.1;obtain⟨b,rfl⟩:=ru.seqRef hs.2;cases e:tN eN t u with
   |none=>rw[e]at w;exact w.elim
   |some k=>rw[e]at w;exact .inr ⟨a,b,k,rfl,rfl,cc1 eN t u rt ru e,WpE.bl w zi⟩
 . exact .inl (fn3 E As H Z t u x y A B Q zi rt ru w)
def ad3:List Bool->Option Nat
 |[]=>none
 |true::_=>some 0
 |false::bs=>(ad3 bs).map (· +1)
theorem cq3:∀(bs:bw){j:Nat},ad3 bs=some j->bs[j]?=some true/\∀m,m<j->bs[m]?=some false
 |[],_,h=>by cases h
 |true::bs,j,h=>by cases h;exact⟨rfl,λm hm=>by omega⟩
 |false::bs,j,h=>by
  simp only[ad3]at h;cases e:ad3 bs with
  |none=>rw[e]at h;cases h
  |some k=>
   rw[e]at h;cases h;obtain⟨h1,h2⟩:=cq3 bs e;refine⟨by simpa using h1,λm hm=>?_⟩;cases m with
   |zero=>rfl
   |succ m=>have hm:m+1<k+1:=hm;simpa using h2 m W9
def ae1:T->List T->Res T
 |.lst _ us,[t]=>match uM t us with
  |some es=>match ad3 es with
   |some j=>.ok (.int j)
   |none=>.no
  |none=>.no
 |_,_=>.no
def et2:RMR K cn "list" (bj9 K eN) ae1:=λE As H Z t ts x xs A B Q zi rt r w=>by
 unfold ae1 at w;split at w
 . next o us t=>
   refine z33 rt.lstSq λa vs C zz s rs _=>?_;subst zz;simp only[Reps]at r;refine z44 r λv r' B1 C1 zz zy ra zx zw=>?_;clear r;subst zz zy zx zw;cases e:uM t us with
   |none=>rw[e]at w;exact w.elim
   |some es=>
    rw[e]at w;simp only at w;cases e2:ad3 es with
    |none=>rw[e2]at w;exact w.elim
    |some j=>rw[e2]at w;obtain⟨h1,h2⟩:=cq3 es e2;obtain⟨g1,g2⟩:=ay5 ra us rs e;exact⟨a,vs,v,rfl,rfl,s.sq,es,j,g1,g2,h1,h2,w.val zi (kU _)⟩
 . exact w.elim
end
end TL
namespace L2
inductive DRows (w:World):List DictEntry->List (Str×Value)->Prop
 |nil:DRows w [] []
 |cons {x:Str} {t:Tok} {v:Value} {es:List DictEntry} {kvs:ay}:DRows w es kvs->DRows w (⟨hashStr w x,.str x t,v⟩::es) ((x,v)::kvs)
structure DicK (w:World) (K:A5) (a:Addr) (kvs:ay):Prop where
 ex:∃o es ep,K.lookup a=some o/\o.ExactDict/\o.data=.dict es ep/\DRows w es.toList kvs
 nd:(kvs.map (·.1)).Nodup
 sm:(a==sysModules)=false
theorem DRows.keys:∀{es:List DictEntry}{kvs:ay},DRows w es kvs->(∀e∈es,∃k,(strKind P w).is k e.key=true/\e.hash=(strKind P w).hash k)/\Pairs (strKind P w) es kvs
 |_,_,.nil=>⟨λe h=>(nomatch h),.nil⟩
 |_,_,@DRows.cons _ x t v es kvs r=>by
  obtain⟨h1,h2⟩:=DRows.keys (P:=P) r;refine⟨λe he=>?_,.cons (strKind_is P w x t) rfl h2⟩;rcases C4.mp he with rfl|he
  . exact⟨x,strKind_is P w x t,rfl⟩
  . exact h1 e he
def DicK.dictOf{P:G1}{w:World}{K:A5}{a:Addr}{kvs:ay}{h:Heap}(D:DicK w K a kvs)(X:K.In h):h.DictOf (strKind P w) a kvs:=by refine z33 D.ex λo es ep l x d r=>?_;obtain⟨h1,h2⟩:=DRows.keys (P:=P) r;exact⟨o,es,ep,X a o l,x,d,λe he=>h1 e (by simpa using he),h2,D.nd⟩
theorem ai0:∀(kvs:ay),valueAt kvs x=kvs.lookup x
 |[]=>rfl
 |(y,v)::kvs=>by
  unfold valueAt;rw[List.find?_cons,J5];by_cases e:y=x
  . subst e;simp
  . have e1:(x==y)=false:=by simpa using N6 e
    have e2:decide ((y,v).1=x)=false:=F6 e;rw[e1,e2];exact ai0 kvs
structure ac2 (w:World) (K:A5) (mg:ac) (d:Str) (kvs:ay):Prop where
 ex:∃a,mg d=some (.ref a)/\DicK w K a kvs
def dp8(kvs:ay)(ty:TE):TE:=λO H Q=>ty O H λy H1=>∃x u v,y=.str x/\kvs.lookup x=some u/\RelV v u/\Q v H1
def ec8(neg:Bool)(kvs:ay)(ty:TE):TE:=λO H Q=>ty O H λy H1=>∃x,y=.str x/\Q (.bl (if neg=true then !(kvs.lookup x).isSome else(kvs.lookup x).isSome)) H1
def dj7(r:RelV (.str x) u):(strKind P w).is x u=true:=by obtain⟨t,rfl⟩:=r;exact strKind_is P w x t
def cr6(i:Expr):Prop:=∀ov iv,subscripted i false ov iv=operate [ov,iv] (getItem ov iv)
def ex1{prog:G1}{w:World}{A:J0}{E:af}{s:B8}{env:Env}{value slice:Expr}{pos:Pos}{T id:String}{Q:af}
 (hl:typeLookup (.type T) "__getitem__"=pure (some (.builtin id)))(hs:cr6 slice)
 (h:wpAny (model prog w) A (eval value env) (λo s₁=>wpAny (model prog w) A (eval slice env) (λi s₂=>s₂.TypeIs o T/\wpAny (model prog w) A (getItem o i) Q E s₂) E s₁) E s):
 wpAny (model prog w) A (eval (.Subscript value slice pos) env) Q E s:=by
 refine Subscript_ (N9 h (λo s₁ h₁=>N9 h₁ (λi s₂ h₂=>?_) λ_ _ x=>x) λ_ _ x=>x);obtain⟨hT,h₂⟩:=h₂;unfold subscriptTail;refine A7 ?_;rw[getitemInPython_of_ne hT.not_modules];refine A7 (wpAny_specialOf hT hl ?_);have bN:wpAny (model prog w) A (subscripted slice false o i) (λr s₃=>wpAny (model prog w) A (letTemporaryGo value o r>>=λ_=>pure r) Q E s₃) E s₂:=by rw[hs o i];exact wpAny_operating (N9 h₂ (λr s₃ h₃=>A7 (wpAny_letTemporaryGo (B9 h₃))) λ_ _ x=>x)
 first
  |exact B9 (A7 bN)
  |exact A7 (B9 (A7 bN))
  |exact A7 bN
section
variable{X:Cx}
def cd5(hD:ac2 X.w X.K X.mg d kvs)(hi:PE X i ty)(hg:Gl X d)(hdb:(d==("__debug__":Str))=false)(hs:cr6 i)(I:Inv X ζ O H s)
 (h:ty O H W)(hW:∀y H1,W y H1->∃x u,y=.str x/\kvs.lookup x=some u/\∀s1,Inv X ζ O H1 s1->R u s1):wpAny (model X.prog X.w) X.A (eval (.Subscript (.Name d p) i pos) X.env) R X.xe s:=by
 obtain⟨a,hm,D⟩:=hD.ex;refine ex1 PySem.F.slot_dict_getitem.lookup hs (aw1 I hg hm ?_ hdb);refine jI (hi s O H _ I h) λiv s2 y H2 I2 ry q=>?_;refine z22 (hW y H2 q) λx u ey el q2=>?_;subst ey;have dd:=D.dictOf (P:=X.prog) I2.kIn;exact⟨dd.typeIs,wpAny_getItem_of (dj7 ry) dd.mapOf (by rw[ai0];exact el) (q2 _ (I2.tok _))⟩
def xP(hD:ac2 X.w X.K X.mg d kvs)(hi:PE X i ty)(hg:Gl X d:=by rfl)(hdb:(d==("__debug__":Str))=false:=by decide)(hs:cr6 i:=by intro _ _;rfl):PE X (.Subscript (.Name d p) i pos) (dp8 kvs ty):=by intro ζ s O H Q I h;refine cd5 hD hi hg hdb hs I h λy H1 ⟨x,u,v,ey,el,rv,q⟩=>⟨x,u,ey,el,λs1 I1=>⟨v,H1,I1,rv,q⟩⟩
def dq0{d:Str}{kvs:ay}{i:Expr}{ty:TE}{p:Pos}(hD:ac2 X.w X.K X.mg d kvs)(hi:PE X i ty)(hg:Gl X d:=by rfl)(hdb:(d==("__debug__":Str))=false:=by decide):PC X .NotIn i (.Name d p) (ec8 true kvs ty):=by intro ζ s O H Q I h;obtain⟨a,hm,D⟩:=hD.ex;refine jI (hi s O H _ I h) λiv s2 y H2 I2 ry ⟨x,ey,q⟩=>aw1 I2 hg hm ?_ hdb;subst ey;have dd:=D.dictOf (P:=X.prog) I2.kIn;exact wpAny_notIn_of (dj7 ry) D.sm dd.mapOf ⟨.bl (!(valueAt kvs x).isSome),H2,I2.tok _,rfl,by rw[ai0];exact q⟩
def cp8(tab:List (Str×Sp))(ty:TE)(ta:TA):TE:=λO H Q=>ty O H λy H1=>∃z sp,y=.str z/\(z,sp)∈tab/\ta O H1 λvs H2=>sp vs H2 Q E0
structure dl3 (P:G1) (w:World) (K:A5) (mg:ac) (base:Heap) (k:Nat) (d:Str) (tab:List (Str×Sp)):Prop where
 ex:∃kvs,ac2 w K mg d kvs/\∀q∈tab,∃f fd ps,kvs.lookup q.1=some (.ref f)/\FnOk P w K mg base lI k f fd ps q.2/\Binds K fd ps []/\PySem.W.keepIn K (.ref f)=true
def de6(hD:dl3 X.prog X.w X.K X.mg X.base k d tab)(hr:Room k X.A)(hi:PE X i ty)(ha:PA X (e::es) t)(hg:Gl X d:=by rfl)(hdb:(d==("__debug__":Str))=false:=by decide)(hs:cr6 i:=by intro _ _;rfl)
 (hst:starEach (e::es) X.env=(false,eval e X.env)::starEach es X.env:=by rfl)(hpl:(backTo pos (starEach es X.env)).any (·.1)=false:=by rfl):PE X (.Call (.Subscript (.Name d p) i p2) (e::es) [] pos) (cp8 tab ty t):=by
 obtain⟨kvs,D,hT⟩:=hD.ex;intro ζ s O H Q I h;refine Call_ (cd5 D hi hg hdb hs I h λy H1 ⟨z,sp,ey,hq,q⟩=>?_);refine z33 (hT _ hq) λf fd ps el F hb hk=>?_;refine⟨z,.ref f,ey,el,λs1 I1=>?_⟩;refine U3 (first:=[]) (h₀:=X.base) I.ok.mod.kin hk (wM (ha ζ s1 O H1 _ I1 q) λus s2 vs H2 I2 r q2=>⟨I2.kIn,?_⟩) hst hpl;exact bo0 (us:=us) (vs:=vs) F hr hb .nil ab9 I2 r (by rw[K8];exact q2)
def dt7:List V->Hp->VK->Prop:=λxs H Q=>(∃i,xs=[.int i]/\i.natAbs.log2<1920/\Q (.str (toString i)) H)\/∃x,xs=[.str x]/\Q (.str x) H
def dh1:CallR X (.type "str") dt7:=by
 intro ζ s O H xs us Q I r h;rcases h with h|⟨x,rfl,q⟩
 . exact bn8 s O H xs us Q I r h
 . obtain⟨u,rfl,t,rfl⟩:=ah9 r;exact PySem.P.str_of_str ⟨.str _,H,I,⟨_,rfl⟩,q⟩
def di8(K:A5):List V->Hp->VK->Prop:=λxs H Q=>(∃x T tx b,xs=[x,.ty T]/\TyN K H x tx/\iG tx T b/\Q (.bl b) H)\/∃T,xs=[.non,.ty T]/\(T="int"\/T="bool"\/T="str"\/T="list"\/T="tuple")/\Q (.bl false) H
def mV(K:A5)(hK:X.K=K:=by rfl):CallR X (.builtin "isinstance") (di8 K):=by
 subst hK;intro ζ s O H xs us Q I r h;rcases h with h|⟨T,rfl,hT,q⟩
 . exact dh4 s O H xs us Q I r h
 . refine z22 r.two λu v zz rx rT=>?_;subst zz;obtain rfl:v=Value.type T:=rT;obtain rfl:u=Value.none:=rx;have fin2:EP X ζ O Q (.bool false) {s with toks:=s.toks+1}:=⟨.bl false,H,I.tok _,rfl,q⟩;rcases hT with rfl|rfl|rfl|rfl|rfl
   . exact IsiPair.NoneType_int fin2
   . exact IsiPair.NoneType_bool fin2
   . exact IsiPair.NoneType_str fin2
   . exact IsiPair.NoneType_list fin2
   . exact IsiPair.NoneType_tuple fin2
def dY(K:A5)(he:PE X e ta)(hb:attributeBase e f X.env (eval e X.env)=eval e X.env:=by rfl)(hK:X.K=K:=by rfl):PE X (.Attribute e f pos) (dg6 K ta f):=by subst hK;exact ed6 he hb
def pM(K:A5)(ha:PE X o ta)(hv:PE X value tv)(hs:swapsWith value (some (.Attribute o f pos')) pos.line X.env=pure false:=by rfl)(hK:X.K=K:=by rfl):PS X (.Assign [.Attribute o f pos'] value pos) (dc2 K ta tv f):=by subst hK;exact eq7 ha hv hs
def cs3(K:A5)(hm:X.mg "zip"=none)(ha:PA X [a,b] ta)(hg:Gl X "zip":=by rfl)(hs:starEach [a,b] X.env=[(false,eval a X.env),(false,eval b X.env)]:=by rfl)(hs2:starEach [b] X.env=[(false,eval b X.env)]:=by rfl)(hK:X.K=K:=by rfl):
 PI X (.Tuple es n tpos) (.Call (.Name "zip" p) [a,b] [] pos) (dg2 K ta):=by
 subst hK;exact eq4 hg hm ha hs hs2
def dk2(K:A5)(hm:X.mg "enumerate"=none)(ha:PA X [a] ta)(hg:Gl X "enumerate":=by rfl)(hs:starEach [a] X.env=[(false,eval a X.env)]:=by rfl)(hK:X.K=K:=by rfl):
 PI X (.Tuple es n tpos) (.Call (.Name "enumerate" p) [a] [] pos) (cv5 K ta):=by
 subst hK;exact ey0 hg hm ha hs
def di1(K:A5)(hr:Room k X.A)(hn:n<=60:=by decide)(hK:X.K=K:=by rfl):MtR X "list.index" (bj9 K n):=by subst hK;exact dv3 (R6 W9 hr.units)
end
structure nH (K:A5) (C:Addr) (m qual:Str) (st:Stmt):Prop where
 ex:∃f fd,dd3 K C m f/\Fun K m qual st f fd
structure yM (K:A5) (mg:ac) (x:Str) (C:Addr) (qual:Str) (st:Stmt):Prop where
 ex:∃f fd,Mk K C f/\Fun K "__init__" qual st f fd
 mg:mg x=some (.ref C)
def dr9{K:A5}{C f:Addr}{m qual:Str}{st:Stmt}{oc:Value}{od an:br}{osl:bv}{kV doc pm cdv ct:Value}(a:PySem.W.findIn K (.ref C) m=some (some (.ref f)))(b:PySem.W.isFn K (.ref f)=true)
 (l:K.lookup f=some ⟨oc,od,.func (PySem.W.fnOf m qual (kK st) (eJ st) (aN st) .none kV doc pm an cdv ct),osl⟩)(c:PySem.W.codeIn K cdv qual=true)(k:PySem.W.keepIn K (.ref f)=true):nH K C m qual st:=
 ⟨f,_,⟨a,b,k⟩,ad9 l c k⟩
def ek0{K:A5}{h:Heap}{mg:ac}(X:K.In h)(G:h.Ns mainGlobals mg){x:Str}{C f:Addr}{qual:Str}{st:Stmt}{oc:Value}{od an:br}{osl:bv}{kV doc pm cdv ct:Value}(g:PySem.W.nsIn K mainGlobals x=some (some (.ref C)))
 (mk:PySem.W.makesIn K C=true)(a:PySem.W.findIn K (.ref C) "__init__"=some (some (.ref f)))(b:PySem.W.isFn K (.ref f)=true)(kc:PySem.W.keepIn K (.ref C)=true)
 (l:K.lookup f=some ⟨oc,od,.func (PySem.W.fnOf "__init__" qual (kK st) (eJ st) (aN st) .none kV doc pm an cdv ct),osl⟩)(c:PySem.W.codeIn K cdv qual=true)(k:PySem.W.keepIn K (.ref f)=true):yM K mg x C qual st:=
 ⟨⟨f,_,⟨mk,a,b,kc⟩,ad9 l c k⟩,R3 X G g⟩
def eh7{K:A5}{C:Addr}(a:PySem.W.plainGet K C Str.empty=true)(b:PySem.W.hasDictIn K C=true)(c:PySem.W.plainOver K C=true)(d:PySem.W.findIn K (.ref C) "__setattr__"=some (some (.builtin "object.__setattr__"))):Cls K C:=⟨a,b,c,d⟩
def bq2{w:World}{K:A5}{h:Heap}{mg:ac}(X:K.In h)(G:h.Ns mainGlobals mg){d:Str}{a:Addr}{es:Array DictEntry}{ep:Nat}{kvs:ay}(g:PySem.W.nsIn K mainGlobals d=some (some (.ref a)))
 (l:K.lookup a=some ⟨.type "dict",none,.dict es ep,#[]⟩)(r:DRows w es.toList kvs)(nd:(kvs.map (·.1)).Nodup)(sm:(a==sysModules)=false):ac2 w K mg d kvs:=
 ⟨a,R3 X G g,⟨_,es,ep,l,⟨rfl,rfl,rfl⟩,rfl,r⟩,nd,sm⟩
end L2
namespace TL
open L2
section
variable{Jn:gX}{K:A5}{cn:aa}{E:XK}
def GD(K:A5)(cn:aa)(kts:List (Str×T))(kvs:ay):Prop:=Paired (λ(p:Str×T)(q:Str×Value)=>p.1=q.1/\∃v,RelV v q.2/\∀H Z,Rep K cn H Z p.2 v []) kts kvs
theorem GD.lookup(g:GD K cn kts kvs)(z:Str):match kts.lookup z with
 |some t=>∃u v,kvs.lookup z=some u/\RelV v u/\∀H Z,Rep K cn H Z t v []
 |none=>kvs.lookup z=none:=by
 unfold GD at g;induction g with
 |nil=>rfl
 |@cons a b l1 l2 h _ ih=>
  obtain⟨x,t⟩:=a;obtain⟨y,u⟩:=b;obtain⟨rfl,v,rv,r⟩:=h;rw[J5,J5];by_cases e:(z==x)=true
  . rw[e];exact⟨u,v,rfl,rv,r⟩
  . rw[Bool.not_eq_true]at e;rw[e];exact ih
def ac3(kts:List (Str×T)):T->Res T
 |.str z=>match kts.lookup z with
  |some t=>.ok t
  |none=>.no
 |_=>.no
def dq4(neg:Bool)(kts:List (Str×T)):T->Res T
 |.str z=>.ok (.bl (if neg=true then !(kts.lookup z).isSome else(kts.lookup z).isSome))
 |_=>.no
theorem ee1(g:GD K cn kts kvs)(ha:RB Jn K cn E ty a):RE Jn K cn E [] (dp8 kvs ty) (fE (ac3 kts) a):=λAs H Z U O F Q w=>by
 unfold fE at w;refine ha As H Z U O F _ ?_;cases e:a U with
 |ok t=>
  rw[e]at w;intro v H1 Z1 B p;simp only[Res.bind]at w;cases t with
  |str z=>
   have hz:=p.rep.str;subst hz;have gl:=g.lookup z;simp only[ac3]at w;cases el:kts.lookup z with
   |none=>rw[el]at w;exact w.elim
   |some t=>rw[el]at w gl;refine z22 gl λu v hl rv r=>?_;exact⟨z,u,v,rfl,hl,rv,WpE.val (WpE.mo F w p.mo) p.zi (r _ _)⟩
  |_=>exact w.elim
 |ex x=>rw[e]at w;exact w
 |no=>rw[e]at w;exact w
theorem eb0(g:GD K cn kts kvs)(ha:RB Jn K cn E ty a):RE Jn K cn E [] (ec8 neg kvs ty) (fE (dq4 neg kts) a):=λAs H Z U O F Q w=>by
 unfold fE at w;refine ha As H Z U O F _ ?_;cases e:a U with
 |ok t=>
  rw[e]at w;intro v H1 Z1 B p;simp only[Res.bind]at w;cases t with
  |str z=>
   have hz:=p.rep.str;subst hz;have gl:=g.lookup z;have es:(kvs.lookup z).isSome=(kts.lookup z).isSome:=by
    cases el:kts.lookup z with
    |none=>rw[el]at gl;rw[show kvs.lookup z=none from gl];rfl
    |some t=>rw[el]at gl;refine z21 gl λu v hl _=>?_;rw[hl];rfl
   refine⟨z,rfl,?_⟩;rw[es];exact WpE.bl (WpE.mo F w p.mo) p.zi
  |_=>exact w.elim
 |ex x=>rw[e]at w;exact w
 |no=>rw[e]at w;exact w
def an9(n:Nat)(tabs:List (Str×(List T->Res T)))(i:a8)(r:bb):Fr->Res T:=λU=>(i U).bind λt=>match t with
 |.str z=>match tabs.lookup z with
  |some G=>(r U).bind λts=>zO n G ts
  |none=>.no
 |_=>.no
def dg8(K:A5)(cn:aa)(n:Nat)(tabs:List (Str×(List T->Res T))):List (Str×Sp):=tabs.map λp=>(p.1,bO K cn n p.2)
theorem az8:∀{l:List (Str×α)},l.lookup z=some a->(z,a)∈l
 |[],h=>by cases h
 |(y,b)::l,h=>by
  rw[J5]at h;by_cases e:(z==y)=true
  . rw[e]at h;cases h;have:z=y:=by simpa using e
    subst this;exact B7
  . rw[Bool.not_eq_true]at e;rw[e]at h;exact B5 _ (az8 h)
theorem dw4(hi:RB Jn K cn E ty i)(ha:RAB Jn K cn E ta a):RE Jn K cn E [] (cp8 (dg8 K cn n tabs) ty ta) (an9 n tabs i a):=λAs H Z U O F Q w=>by
 unfold an9 at w;refine hi As H Z U O F _ ?_;cases e:i U with
 |ok t=>
  rw[e]at w;intro v H1 Z1 B p;simp only[Res.bind]at w;cases t with
  |str z=>
   have hz:=p.rep.str;subst hz;simp only at w;cases el:tabs.lookup z with
   |none=>rw[el]at w;exact w.elim
   |some G=>
    rw[el]at w;refine⟨z,bO K cn n G,rfl,M3.mpr ⟨(z,G),az8 el,rfl⟩,?_⟩;refine ha As H1 Z1 U O (F.mo p.mo) _ ?_;simp only at w;cases e2:a U with
    |ok ts=>rw[e2]at w;intro vs H2 Z2 B2 m2 r2;exact cb0 (p.mo.trans m2) r2 w
    |ex x=>rw[e2]at w;exact WpX.ev w p.mo.ev
    |no=>rw[e2]at w;exact w.elim
  |_=>exact w.elim
 |ex x=>rw[e]at w;exact w
 |no=>rw[e]at w;exact w
noncomputable def aa0:List T->Res T
 |[.int i]=>gate (i.natAbs.log2<1920) (.ok (.str (toString i)))
 |[.str x]=>.ok (.str x)
 |_=>.no
def ec4:xY K cn dt7 aa0:=λE As H Z ts xs A Q zi r w=>by
 unfold aa0 at w;split at w
 . next i=>
   obtain⟨v,rfl,rv⟩:=r.one1;have:=rv.int;subst this;obtain⟨h,w⟩:=w.gate;exact .inl ⟨i,rfl,h,w.val zi (ai4 _)⟩
 . next x=>
   obtain⟨v,rfl,rv⟩:=r.one1;have:=rv.str;subst this;exact .inr ⟨x,rfl,w.val zi (ai4 _)⟩
 . exact w.elim
def oF:List T->Res T
 |[.non,.ty n]=>if(n="int"\/n="bool"\/n="str"\/n="list"\/n="tuple")then .ok (.bl false)else .no
 |ts=>aq7 ts
def eg4:xY K cn (di8 K) oF:=λE As H Z ts xs A Q zi r w=>by
 unfold oF at w;split at w
 . next n=>
   refine z43 r.two2 λv u B C zz zy rv ru=>?_;subst zz zy;have:=rv.non;subst this;simp only[Rep]at ru;obtain⟨rfl,rfl⟩:=ru;split at w
   . next hn=>exact .inr ⟨n,rfl,hn,WpE.bl w zi⟩
   . exact w.elim
 . exact .inl (fv0 E As H Z _ xs A Q zi r w)
inductive TupR:List T->List Value->Prop
 |nil:TupR [] []
 |str {x:Str} {t:Tok} {ts:aw} {us:ao}:TupR ts us->TupR (.str x::ts) (.str x t::us)
 |int {x:Int} {t:Tok} {ts:aw} {us:ao}:TupR ts us->TupR (.int x::ts) (.int x t::us)
theorem TupR.vals(h:TupR ts us):∃vs,Vals vs us/\∀H Z,Reps K cn H Z ts vs []:=by
 induction h with
 |nil=>exact⟨[],.nil,λ_ _=>Reps.nil⟩
 |@str x t ts us _ ih=>obtain⟨vs,h1,h2⟩:=ih;refine⟨.str x::vs,.cons ⟨t,rfl⟩ h1,λH Z=>?_⟩;simp only[Reps];exact⟨_,_,[],[],rfl,rfl,ai4 x,h2 H Z⟩
 |@int x t ts us _ ih=>obtain⟨vs,h1,h2⟩:=ih;refine⟨.int x::vs,.cons ⟨t,rfl⟩ h1,λH Z=>?_⟩;simp only[Reps];exact⟨_,_,[],[],rfl,rfl,kU x,h2 H Z⟩
def mP(l:K.lookup a=some ⟨.type "tuple",oc,.seq us.toArray n,sl⟩)(r:TupR ts us)(hz:us.length<=sizeLine):
 (x,T.tup ts).1=(x,Value.ref a).1/\∃v,RelV v (x,Value.ref a).2/\∀H Z,Rep K cn H Z (x,T.tup ts).2 v []:=by
 obtain⟨vs,h1,h2⟩:=r.vals (K:=K) (cn:=cn);refine⟨rfl,.ref a,rfl,λH Z=>?_⟩;simp only[Rep];exact⟨a,vs,rfl,.inr ⟨_,us.toArray,n,l,rfl,rfl,by simpa using hz,by simpa using h1⟩,h2 H Z⟩
def fU{P:G1}{w:World}{mg:ac}{base:Heap}{C:Addr}{m qual:Str}{st:Stmt}{N ps:ax}{k:Nat}{d:Fr->bS}(F:nH K C m qual st)(c:Cls K C)(S:aV N ps (aN st))
 (hb:∀(kV doc pm:Value)(an:br)(cdv ct:Value)(us:ao),us.length=ps.length->bindArgs (PySem.W.fnOf m qual (kK st) (eJ st) (aN st) .none kV doc pm an cdv ct) ⟨us,[]⟩=pure (ps.zip us))
 (hbody:∀(f:Addr)(cdv:Value)(A:J0)(outer:bm)(s:B8)(H:Hp)(E:XK),Room k (A.deeper (envOfC qual (aN st) s.heap.objs.size f cdv))->
  ∃t,PSs (nW lI P w K mg base N qual (aN st) f cdv A outer s H E).nox (eJ st) t/\RS [] K cn E t d){n:Nat}{G:bt}(hn:ps.length=n)(hG:∀ts,G ts=bN (d (cD N.length ts))){k':Nat}(hk:k+1<=k'):mI P w K mg base k' C m (bO K cn n G):=by
 refine z21 F.ex λf fd M F=>?_;exact⟨f,fd,ps,c,M,(bb3 F S (λcdv A outer s H E hr=>hbody f cdv A outer s H E hr) hn hG).mono hk,F.binds hb⟩
def lF{P:G1}{w:World}{mg:ac}{base:Heap}{x c:Str}{C:Addr}{qual:Str}{st:Stmt}{N ps:ax}{k:Nat}{d:Fr->bS}(F:yM K mg x C qual st)(S:aV N ps (aN st))
 (hb:∀(kV doc pm:Value)(an:br)(cdv ct:Value)(us:ao),us.length=ps.length->bindArgs (PySem.W.fnOf "__init__" qual (kK st) (eJ st) (aN st) .none kV doc pm an cdv ct) ⟨us,[]⟩=pure (ps.zip us))
 (hbody:∀(f y:Addr)(cdv:Value)(A:J0)(outer:bm)(s:B8)(H:Hp)(E:XK),Room k (A.deeper (envOfC qual (aN st) s.heap.objs.size f cdv))->
  ∃t,PSs (nW lI P w K mg base N qual (aN st) f cdv A outer s H E).nox (eJ st) t/\RS [(0,.ref y)] K cn E t d){n:Nat}{G:bt}(hn:ps.length=n+1)(hG:∀ts,G ts=kT (d (cD N.length (.ins true c [] []::ts)))):Mak P w K mg base (k+1) x C (spI K cn c n G):=by
 refine z21 F.ex λf fd M F'=>?_;exact⟨f,fd,ps,M,ea0 F' S (λy cdv A outer s H E hr=>hbody f y cdv A outer s H E hr) hn hG,F.mg,F'.binds hb⟩
end
end TL
namespace L2
def cj1:bootBuiltins "set"=some (.type "set"):=X0
def av9(ss:ax):Nat:=(rL (λi=>ss.getD i Str.empty) ss.length).length
def co3(K:A5):List V->Hp->VK->Prop:=λxs H Q=>∃p ss,xs=[.ref p]/\SqL K H p (ss.map V.str)/\ss.length<=1000/\Q (.int (av9 ss)) H
section
variable{X:Cx}
theorem cl8(K:A5)(hm:X.mg "len"=none)(hm2:X.mg "set"=none)(ha:PA X [e] t)(hc:X.calm=true:=by rfl)(hg:Gl X "len":=by rfl)(hg2:Gl X "set":=by rfl)(he:starEach [e] X.env=[(false,eval e X.env)]:=by rfl)(hK:X.K=K:=by rfl):
 PE X (.Call (.Name "len" p) [.Call (.Name "set" p2) [e] [] pos2] [] pos) (tCB (co3 K) t):=by
 subst hK;intro ζ s O H Q I h;refine N5 (oR I hg hm boot_len ?_);refine PyProof.Rows.callWith_builtin1 (PyProof.Rows.args_cons ?_) rfl rfl;refine N5 (oR I hg2 hm2 cj1 ?_);refine L0 (wM (ha ζ s O H _ I h) λus s1 vs H1 I1 r1 q1=>?_) he rfl;obtain⟨l,ss,rfl,hq,hl,q⟩:=q1;cases r1 with
 |cons r rr=>
  cases rr;cases r;obtain⟨its,rv,pl,_⟩:=I1.list hq;have e1:its.length=ss.length:=by have:=rv.length;simpa using this.symm
  refine be8 (knd:=strKind X.prog X.w) (val:=λi=>ss.getD i Str.empty) (I.ok.hd hc) pl.isList (λi v hv=>?_) (by rw[B6,e1];unfold scanBound;omega) λh' tk hS kk=>PyProof.Rows.args_nil ?_
  . have hi:i<its.length:=by have:=(L5.mp hv).1;simpa using this
    obtain⟨x,ex,rx⟩:=iB rv hi;have ev:v=its[i]:=by have:=(L5.mp hv).2;simpa using this.symm
    rw[C8]at ex;cases eg:ss[i]? with
    |none=>rw[eg]at ex;cases ex
    |some z=>rw[eg]at ex;cases ex;obtain⟨t,et⟩:=rx;rw[ev,et,A8,eg];exact⟨strKind_is _ _ _ _,rfl⟩
  . have I2:Inv X ζ O H1 {s1 with heap:=h',toks:=tk}:=I1.kept λb u eb=>kk b u (D5 eb) eb;obtain⟨o,es,ep,tb,ho,hx,hd,_,_,hs,hf,hn,_⟩:=hS;refine call_len_set ho hx hd hf (by have:es.size<4096:=hs;omega) ?_;refine⟨.int (av9 ss),H1,I2.tok _,⟨tk+1,?_⟩,q⟩;rw[hn,B6,e1];rfl
end
end L2
namespace TL
open L2
section
variable{Jn:gX}{K:A5}{cn:aa}{E:XK}
def ay0:List T->Res T
 |[.lst _ ts]=>match af2 ts with
  |some ss=>if ss.length<=1000 then .ok (.int (av9 ss))else .no
  |none=>.no
 |_=>.no
def di5:xY K cn (co3 K) ay0:=λE As H Z ts xs A Q zi r w=>by
 unfold ay0 at w;split at w
 . next o ts=>
   obtain⟨v,rfl,rv⟩:=r.one1;refine z33 rv.lstSq λa vs C zz s rs _=>?_;subst zz;split at w
   . next ss hs=>
     split at w
     . next hl=>
       have:=bm3 ts rs hs;subst this;exact⟨a,ss,rfl,s.sq,hl,w.val zi (kU _)⟩
     . exact w.elim
   . exact w.elim
 . exact w.elim
theorem bk0:∀(l acc:ax),(acc++l).Nodup->l.foldl jW acc=acc++l
 |[],acc,_=>by simp
 |x::l,acc,h=>by
  have hx:x∉acc:=λhx=>by rw[D8]at h;exact h.2.2 x hx x B7 rfl
  have hs:jW acc x=acc++[x]:=D7 hx;rw[Q3,hs,bk0 l (acc++[x]) (by simpa using h)];simp
def cj7(l:ax):(List.range l.length).map (λi=>l.getD i Str.empty)=l:=by
 apply List.ext_getElem?;intro i;by_cases h:i<l.length
 . rw[C8,G7 h,A6 h];simp[A8,A6 h]
 . rw[J6 (by simpa using h),J6 W9]
def ck2(h:ss.Nodup):av9 ss=ss.length:=by unfold av9 rL;rw[cj7,bk0 ss [] (by simpa using h)];simp
def de5{ss:ax}(o:Bool)(h:ss.Nodup)(hl:ss.length<=1000):ay0 [.lst o (ss.map .str)]=.ok (.int ss.length):=by simp only[ay0,at5,E3 hl,ck2 h]
end
open L2
section
variable{P:G1}{w:World}{K:A5}{cn:aa}{mg:ac}{base:Heap}{k n:Nat}
def jY:lX K cn [] f:=λ_ h=>nomatch h
def bL(h:cn c=some C)(k:Cls K C)(n:NoAttr K C f)(r:lX K cn cs f):lX K cn (c::cs) f:=λd hd D hD=>by
 rcases C4.mp hd with rfl|hd
 . rw[h]at hD;cases hD;exact⟨k,n⟩
 . exact r d hd D hD
def am7:av7 K cn n [] []:=λc G C h=>by cases h
def fS(h:cn c=some C)(r:av7 K cn n tabs tab):av7 K cn n ((c,G)::tabs) ((C,bO K cn n G)::tab):=λd G' D hl hD=>by
 rw[J5]at hl;by_cases e:(d==c)=true
 . rw[e]at hl;cases hl;have:d=c:=by simpa using e
   subst this;rw[h]at hD;cases hD;exact B7
 . rw[Bool.not_eq_true]at e;rw[e]at hl;exact B5 _ (r d G' D hl hD)
def af8:∀q∈([]:List (Addr×Sp)),mI P w K mg base k q.1 m q.2:=fH
def fV(h:mI P w K mg base k C m sp)(r:∀q∈tab,mI P w K mg base k q.1 m q.2):∀q∈(C,sp)::tab,mI P w K mg base k q.1 m q.2:=λq hq=>by
 rcases C4.mp hq with rfl|hq
 . exact h
 . exact r q hq
def MD(P:G1)(w:World)(K:A5)(mg:ac)(base:Heap)(k:Nat)(kvs:ay)(tab:List (Str×Sp)):Prop:=∀q∈tab,∃f fd ps,kvs.lookup q.1=some (.ref f)/\FnOk P w K mg base lI k f fd ps q.2/\Binds K fd ps []/\PySem.W.keepIn K (.ref f)=true
def dl2:MD P w K mg base k kvs []:=fH
def mR(e:kvs.lookup z=mg x)(d:dR P w K mg base j x ps sp)(h:j<=k)(r:MD P w K mg base k kvs tab):MD P w K mg base k kvs ((z,sp)::tab):=λq hq=>by
 rcases C4.mp hq with rfl|hq
 . refine z23 d.ex λf fd F hm hk hb=>?_;exact⟨f,fd,ps,e.trans hm,F.mono h,hb,hk⟩
 . exact r q hq
def du8(D:ac2 w K mg d kvs)(r:MD P w K mg base k kvs tab):dl3 P w K mg base k d tab:=⟨kvs,D,r⟩
end
end TL
namespace L2
def ea9{K:A5}{h:Heap}{mg:ac}{kvs:ay}{z x:Str}{u:Value}(X:K.In h)(G:h.Ns mainGlobals mg)(a:PySem.W.nsIn K mainGlobals x=some (some u))(e:kvs.lookup z=some u):kvs.lookup z=mg x:=e.trans (R3 X G a).symm
end L2
namespace TL
open L2
def fd3(h1:-(2^64)<i)(h2:i<2^64):mulOk i j:=.inl ⟨h1,h2⟩
def ch7(h1:-(2^64)<j)(h2:j<2^64):mulOk i j:=.inr (.inl ⟨h1,h2⟩)
def di9(i:Int):oF [.int i,.ty "int"]=.ok (.bl true):=ds7 i
def dz9(i:Int):oF [.int i,.ty "bool"]=.ok (.bl false):=ci9 i
def eo0(i:aw):oF [.tup i,.ty "tuple"]=.ok (.bl true):=df7 i
def dy8(o:Bool)(i:aw):oF [.lst o i,.ty "list"]=.ok (.bl true):=dz7 o i
theorem em3(i:Int):aa0 [.int i]=gate (i.natAbs.log2<1920) (.ok (.str (toString i))):=rfl
theorem ew7(x:Str):aa0 [.str x]=.ok (.str x):=rfl
theorem ed7(i j:Int):yQ (.int i) (.int j)=.ok (.bl (!(i==j))):=rfl
theorem em6(i j:Str):yQ (.str i) (.str j)=.ok (.bl (!(i==j))):=rfl
theorem ea8(i j:Bool):yQ (.bl i) (.bl j)=.ok (.bl (!(i==j))):=rfl
open PySem L2
def dz3(h:n<=100000):(n<=sizeLine)=True:=eq_true (K1 h X5)
def dg4(h:n<=100000):(n<sizeLine)=True:=eq_true (R6 h X5)
def uQ{m:Int}(h:0<=m):∃k:Nat,m=k:=⟨m.toNat,W9⟩
end TL
namespace TL
open PySem L2
def ev9(h1:0<j)(h2:j<1073741824):ag0 i j:=⟨h1,h2⟩
def et9(h1:0<=j)(h2:j<=1000000)(h3:i.natAbs<2^64):ak2 i j:=⟨h1,h2,h3⟩
end TL
namespace L2
open PySem
def fc0{K}(h:PySem.W.findIn K (.ref C) f=some none):NoAttr K C f:=h
end L2
namespace L2
section
variable{X:Cx}
theorem bb5(r:Vals xs its):∀k:Nat,Vals (List.replicate k xs).flatten (List.replicate k its).flatten
 |0=>Paired.nil
 |k+1=>by rw[J8,J8,D0,D0];exact r.append (bb5 r k)
theorem be9(its:ao):∀(k:Nat)(acc:ao),List.foldl (λx1 x2=>x1++x2) acc.toArray (List.replicate k its.toArray)=(acc++(List.replicate k its).flatten).toArray
 |0,acc=>by simp
 |k+1,acc=>by
  rw[J8,Q3,J8,D0];have e:acc.toArray++its.toArray=(acc++its).toArray:=X4
  rw[e,be9 its k,K0]
theorem di0(its:ao)(k:Nat):List.foldl (λx1 x2=>x1++x2) #[] (List.replicate (if its.toArray.isEmpty=true then 0 else k) its.toArray)=((List.replicate k its).flatten).toArray:=by
 cases its with
 |nil=>
  have e:(List.replicate k ([]:List Value)).flatten=[]:=by
   induction k with
   |zero=>rfl
   |succ k ih=>rw[J8,D0,ih];rfl
  rw[e];simp
 |cons v its=>have e:=be9 (v::its) k [];simp only[List.nil_append]at e;simpa using e
def do8(K:A5):R2:=λx y H Q=>∃l xs k,x=.ref l/\y=.int k/\SqS K H l xs/\-(2^63)<=k/\k<2^63/\xs.length*k.toNat<=2^24/\∀p,H p=none->Q (.ref p) (upd H p (.lst (List.replicate k.toNat xs).flatten))
def aa6(K:A5)(hK:X.K=K:=by rfl):OpR X (binaryOp .Mult) (do8 K):=by
 subst hK;intro ζ s O H x y v u Q I rx ry h;refine z36 h λl xs k zz zy hH h1 h2 hz q=>?_;clear h;subst zz zy;cases rx;obtain⟨t,rfl⟩:=ry;refine z22 (I.listS hH) λits n r e _=>?_;have hl:=r.length;have hs:its.toArray.size*k.toNat<=2^24:=by rw[B6,<-hl];exact hz
 refine wpAny_binaryOp_repeat_ref (T:="list") (U:="int") X5 ⟨_,e,rfl⟩ (λs'=>typeIs_int s' k t) noFill_list_mul F.fills_int_mul F.slot_int_rmul repeat_list F.slot_int_index.lookup
  (V0 F.slot_int_rmul (typeIs_int s k t) F.entry_int_rmul (F.args_int_rmul_2 _ _) (int___rmul___int_list k t l its.toArray n) ⟨e,rfl,⟨_,e,rfl⟩,V0 F.slot_list_mul ⟨_,e,rfl⟩ F.entry_list_mul (F.args_list_mul_2 _ _)
   (AutoListH.list___mul___list_int_3 l its.toArray n k t (by simp[Builtin.List.listFitsIndex];omega) W9 (by simp[Builtin.List.listTooLong,sizeLine];simpa using hs)) ⟨e,?_⟩⟩)
 rw[di0];refine⟨.ref _,_,I.lnew (t':=s.toks) (bb5 r k.toNat) ?_,rfl,q _ I.fresh⟩;have hm:∀(m:Nat),(List.replicate m xs).flatten.length=m*xs.length:=by intro m;simp
 have hn:=F8;rw[hm,Nat.mul_comm];omega
end
end L2
namespace TL
open PySem L2
section
variable{K:A5}{cn:aa}
noncomputable def pP:T->T->Res T
 |.lst _ xs,.int k=>gate (bB xs=true/\-(2^63)<=k/\k<2^63/\xs.length*k.toNat<=2^24) (.ok (.lst true (List.replicate k.toNat xs).flatten))
 |_,_=>.no
theorem bm5(r:Reps K cn H Z xs vs []):∀k:Nat,Reps K cn H Z (List.replicate k xs).flatten (List.replicate k vs).flatten []
 |0=>Reps.nil
 |k+1=>by rw[J8,J8,D0,D0];exact Reps.append xs r (bm5 r k)
def ei7:qC K cn (do8 K) pP:=λE As H Z t u x y A B Q zi rt ru w=>by
 unfold pP at w;split at w
 . next o xs k=>
   obtain⟨h,w⟩:=w.gate;refine z33 rt.lstSq λa vs C zz hs r1 _=>?_;subst zz;rw[ru.int];exact⟨a,vs,k,rfl,rfl,hs,h.2.1,h.2.2.1,by rw[Reps.length xs r1];exact h.2.2.2,λp hp=>w.newL zi (bm5 (r1.bareE h.1) k.toNat) p hp⟩
 . exact w.elim
def fc3(us:aw):List T->Option (List T)
 |[.int i]=>if 0<=i/\i.toNat<us.length/\us.length<=sizeLine then some (us.eraseIdx i.toNat)else none
 |_=>none
end
end TL
namespace TL
open L2
section
variable{Jn:gX}{K:A5}{cn:aa}{E:XK}
def fp2{mv mw L:az}{te:TE}{tr:TA}{a:a8}{r:bb}(ha:RE Jn K cn E mv te a)(hr:RA Jn K cn E mw tr r)(e:mv++mw=L)(hd:(mv.all λi=>!mw.contains i)=true):RA Jn K cn E L (xJ te tr) (aD a r):=e▸el1 ha hr hd
def ey6{ks ls L:az}{n:Nat}{g:TG}{gs:TGs}{b:bq}{bs:cj}(h1:RG Jn K cn ks g b)(h2:RGs Jn K cn ls n gs bs)(e:ks++ls=L):RGs Jn K cn L (n+1) (ck6 g gs) (bE b bs):=e▸dr3 h1 h2
end
end TL
namespace TL
open L2
section
variable{Jn:gX}{K:A5}{cn:aa}{E:XK}
theorem Slots.keep(hz:∀a,Z a->Z' a):∀{U:Fr}{O:St}{As:ag},Slots K cn H Z U O As->(∀a o,H a=some o->(a∈As.flatten\/Z a\/tY o=true)->H' a=some o)->Slots K cn H' Z' U O As
 |[],_,_,h,_=>h
 |o::U,_,_,h,k=>by
  refine z43 h λw σ' A As' zz zy h1 h2=>?_;clear h;subst zz zy;refine⟨w,σ',A,As',rfl,rfl,?_,Slots.keep hz h2 λa o q c=>k a o q (c.imp_left λc=>by rw[D0,A9];exact .inr c)⟩;cases o with
  |none=>exact h1
  |some t=>obtain⟨v,e,r⟩:=h1;exact⟨v,e,Rep.keep t r (λa o q c=>k a o q (c.imp_left λc=>by rw[D0,A9];exact .inl c)) hz⟩
def bx7(d:a8):Fr->bS:=λU=>match d U with
 |.ok t=>if cP t=true then .rm U t else .no
 |.ex x=>.ex x
 |.no=>.no
theorem eh0(he:RB Jn K cn E te d):RS Jn K cn E (dv2 te) (bx7 d):=λAs H Z U O F D w=>by
 unfold bx7 at w;refine he As H Z U O F _ ?_;cases e:d U with
 |ok t=>
  rw[e]at w;intro v H1 Z1 B p;simp only at w;split at w
  . next hn=>
    have hB:=Rep.bare t hn p.rep;subst hB;exact w v O As H1 Z1 (F.mo p.mo) p.mo.ev p.rep
  . exact w.elim
 |ex x=>rw[e]at w;exact w
 |no=>rw[e]at w;exact w
def spM(K:A5)(cn:aa)(G:b6):Sp:=λvs H Q _=>∃v0 v1 v2,vs=[v0,v1,v2]/\∃t0 t1 t2 Z B1 B2,(∀a,Z a->H a≠none)/\Rep K cn H Z t0 v0 []/\Rep K cn H Z t1 v1 B1/\Rep K cn H Z t2 v2 B2/\(B1++B2).Nodup/\(∀a∈B1++B2,¬Z a)/\
 ∃t u1 u2,G t0 t1 t2=.ok (t,u1,u2)/\∀v H' Z' C1 C2,Ev [B1,B2] H Z [C1,C2] H' Z'->Rep K cn H' Z' t v []->Rep K cn H' Z' u1 v1 C1->Rep K cn H' Z' u2 v2 C2->(C1++C2).Nodup->Q v H'
def bk3:bS->Res (T×T×T)
 |.nx U=>match U[1]?,U[2]? with
  |some (some a),some (some b)=>.ok (.non,a,b)
  |_,_=>.no
 |.rm U t=>match U[1]?,U[2]? with
  |some (some a),some (some b)=>.ok (t,a,b)
  |_,_=>.no
 |_=>.no
def dd4 {P : G1} {w : World} {mg : Str → Option Value} {base : Heap} {x qual : Str} {st : Stmt} {f : Addr} {fd : FuncData} {N ps : List Str} {k : Nat} {d : Fr → bS} (F : Fun K x qual st f fd) (S : aV N ps (aN st))
    (hbody : ∀ (v1 v2 : V) (cdv : Value) (A : J0) (outer : List Env) (s : B8) (H : Hp) (E : XK), Room k (A.deeper (envOfC qual (aN st) s.heap.objs.size f cdv)) →
      ∃ t, PSs (nW lI P w K mg base N qual (aN st) f cdv A outer s H E).nox (eJ st) t ∧ RS [(1, v1), (2, v2)] K cn E t d) {G : T → T → T → Res (T × T × T)} (hn : ps.length = 3) (hG : ∀ t0 t1 t2, G t0 t1 t2 = bk3 (d (cD N.length [t0, t1, t2]))) : FnOk P w K mg base lI (k + 1) f fd ps (spM K cn G) := by
  refine F.ok S (fun vs H Q E h => by refine z31 h fun _ _ _ zz _ => ?_; clear h; subst zz; rw [hn]; rfl) fun cdv A outer s H vs Q E hr h => ?_;obtain ⟨v0, v1, v2, rfl, t0, t1, t2, Z, B1, B2, zi, r0, r1, r2, nd, nz, t, u1, u2, eg, w⟩ := h;obtain ⟨tt, hp, ht⟩ := hbody v1 v2 cdv A outer s H E hr;refine ⟨tt, hp, ?_⟩;let m := N.length - 3;have sl : Slots K cn H Z (cD N.length [t0, t1, t2]) (L2.start N [v0, v1, v2]) ([] :: B1 :: B2 :: List.replicate m []) := by unfold cD L2.start;exact ⟨some v0, _, [], _, rfl, rfl, ⟨_, rfl, r0⟩, some v1, _, B1, _, rfl, rfl, ⟨_, rfl, r1⟩, some v2, _, B2, _, rfl, rfl, ⟨_, rfl, r2⟩, ah4 m⟩
  have fl : ([] :: B1 :: B2 :: List.replicate m []).flatten = B1 ++ B2 := by rw [D0, D0, D0, mX]; simp
  have fl2 : ∀ C1 C2 : List Addr, [C1, C2].flatten = C1 ++ C2 := fun C1 C2 => by simp
  have F0 : Frm [(1, v1), (2, v2)] K cn H Z (cD N.length [t0, t1, t2]) (L2.start N [v0, v1, v2]) ([] :: B1 :: B2 :: List.replicate m []) :=
    ⟨sl, by rw [fl]; exact nd, by rw [fl]; exact nz, zi, fun p hp => by
      rcases C4.mp hp with rfl | hp
      . rfl
      . rw [C5] at hp;subst hp;rfl⟩
  refine ht _ H Z _ _ F0 _ ?_;rw [hG] at eg;have done : ∀ {U : Fr} {σ' : St} {As' : List (List Addr)} {H' : Hp} {Z' : Addr → Prop} {v : V}, Frm [(1, v1), (2, v2)] K cn H' Z' U σ' As' → Ev ([] :: B1 :: B2 :: List.replicate m []) H Z As' H' Z' → Rep K cn H' Z' t v [] → U[1]? = some (some u1) → U[2]? = some (some u2) → Q v H' := by
    intro U σ' As' H' Z' v F' ev rv e1 e2;obtain ⟨x1, s1, q1⟩ := F'.sl.get e1;obtain ⟨x2, s2, q2⟩ := F'.sl.get e2;have p1 := F'.pn (1, v1) (B7);have p2 := F'.pn (2, v2) (B5 _ (C5.mpr rfl));simp only at p1 p2;rw [s1] at p1;rw [s2] at p2;cases p1;cases p2;refine w v H' Z' _ _ ⟨fun a o h q => ev.keep a o h (by rw [fl]; rw [fl2] at q; exact q), fun a ha => ?_, ev.zz, fun a h => ?_, ev.dom⟩ rv q1 q2 ?_
    . rw [fl2, A9] at ha;have q := ev.own a (ha.elim bC bC);rw [fl] at q;rw [fl2];exact q
    . have q := ev.zn a h;rw [fl] at q;rw [fl2];exact q
    . rw [D8];refine ⟨mL F'.nd 1, mL F'.nd 2, fun a ha b hb e => ?_⟩;subst e;have := yH F'.nd ha hb;cases this
  cases ed : d (cD N.length [t0, t1, t2]) with
  | nx U =>
    rw [ed] at eg;intro σ' As' H' Z' F' ev;simp only [bk3] at eg;split at eg
    . next a b e1 e2 =>
      cases eg;exact done F' ev (by simp [Rep]) e1 e2
    . cases eg
  | rm U t' =>
    rw [ed] at eg;intro v σ' As' H' Z' F' ev rv;simp only [bk3] at eg;split at eg
    . next a b e1 e2 =>
      cases eg;exact done F' ev rv e1 e2
    . cases eg
  | rt t => rw [ed] at eg; cases eg
  | ex x => rw [ed] at eg; cases eg
  | bk U => rw [ed] at eg; cases eg
  | ct U => rw [ed] at eg; cases eg
  | no => rw [ed] at eg; cases eg
def cp9{P:G1}{w:World}{mg:ac}{base:Heap}{x:Str}{st:Stmt}{N ps:ax}{k:Nat}{d:Fr->bS}(F:dW K mg x st)(S:aV N ps (aN st))
 (hb:∀(kV doc pm:Value)(an:br)(cdv ct:Value)(us:ao),us.length=ps.length->bindArgs (PySem.W.fnOf x x (kK st) (eJ st) (aN st) .none kV doc pm an cdv ct) ⟨us,[]⟩=pure (ps.zip us))
 (hbody:∀(v1 v2:V)(f:Addr)(cdv:Value)(A:J0)(outer:bm)(s:B8)(H:Hp)(E:XK),Room k (A.deeper (envOfC x (aN st) s.heap.objs.size f cdv))->
  ∃t,PSs (nW lI P w K mg base N x (aN st) f cdv A outer s H E).nox (eJ st) t/\RS [(1,v1),(2,v2)] K cn E t d){G:b6}(hn:ps.length=3)(hG:∀t0 t1 t2,G t0 t1 t2=bk3 (d (cD N.length [t0,t1,t2]))):dR P w K mg base (k+1) x ps (spM K cn G):=by
 refine z21 F.ex λf fd F hm=>?_;exact⟨f,fd,dd4 F S (λv1 v2 cdv A outer s H E hr=>hbody v1 v2 f cdv A outer s H E hr) hn hG,hm,F.kp,F.binds hb⟩
def bu0(G:b6)(j0 j1 j2:Nat)(U:Fr):Option (T×T×T):=match U[j0]? with
 |some (some t0)=>match U[j1]? with
  |some (some t1)=>match U[j2]? with
   |some (some t2)=>match G (frz t0) t1 t2 with
    |.ok (t,u1,u2)=>if(cT t&&cP t&&cT u1&&cT u2)=true then some (t,u1,u2)else none
    |_=>none
   |_=>none
  |_=>none
 |_=>none
def as0(i j0 j1 j2:Nat)(G:b6):Fr->bS:=λU=>match bu0 G j0 j1 j2 U with
 |some (t,u1,u2)=>.nx (((U.set j1 (some u1)).set j2 (some u2)).set i (some t))
 |none=>.no
def br4{α:Type}{l:List α}{i:Nat}{x:α}(h:l[i]?=some x):l.set i x=l:=by
 apply List.ext_getElem?;intro j;by_cases e:i=j
 . subst e;rw[List.getElem?_set_self',h];rfl
 . rw[J9 e]
theorem dp6{i j0 j1 j2:Nat}{G:b6}(h01:j0≠j1)(h02:j0≠j2)(h12:j1≠j2)(hJ:xM Jn i=true)(h1:xM Jn j1=true)(h2:xM Jn j2=true):RS Jn K cn E (bw2 (cl6 (spM K cn G) (xJ (am4 j0) (xJ (am4 j1) (xJ (am4 j2) al8)))) (ag6 i)) (as0 i j0 j1 j2 G):=λAs H Z U O F D w=>by
 unfold as0 at w;cases ec:bu0 G j0 j1 j2 U with
 |none=>rw[ec]at w;exact w.elim
 |some q=>
  obtain⟨t,u1,u2⟩:=q;rw[ec]at w;unfold bu0 at ec;split at ec
  . next t0 e0=>
    split at ec
    . next t1 e1=>
      split at ec
      . next t2 e2=>
        split at ec
        . next t' u1' u2' eG=>
          split at ec
          . next hc=>
            cases ec;simp only[G8]at hc;obtain⟨⟨⟨ct,nt⟩,c1⟩,c2⟩:=hc;obtain⟨v0,s0,r0⟩:=F.sl.get e0;obtain⟨v1,s1,r1⟩:=F.sl.get e1;obtain⟨v2,s2,r2⟩:=F.sl.get e2;have inF:∀{j:Nat}{a:Addr},a∈As.getD j []->a∈As.flatten:=λh=>bC h;have dA:∀a∈As.flatten,H a≠none:=λa ha=>by obtain⟨o,q,_⟩:=F.sl.dom a ha;rw[q];exact λz=>nomatch z
            refine⟨v0,s0,v1,s1,v2,s2,v0,v1,v2,rfl,frz t0,t1,t2,(λa=>Z a\/a∈As.getD j0 []),As.getD j1 [],As.getD j2 [],λa h=>h.elim (F.zi a) λh=>dA a (inF h),Rep.frz t0 r0 (λa h=>.inl h) (λa h=>.inr h),r1.same (Same.refl _) (λa h=>.inl h),r2.same (Same.refl _) (λa h=>.inl h),?_,?_,t,u1,u2,eG,?_⟩
            . rw[D8];refine⟨mL F.nd j1,mL F.nd j2,λa ha b hb e=>?_⟩;subst e;exact h12 (yH F.nd ha hb)
            . intro a ha z;rw[A9]at ha;rcases z with z|z
              . exact F.nz a (ha.elim inF inF) z
              . rcases ha with ha|ha
                . exact h01 (yH F.nd z ha)
                . exact h02 (yH F.nd z ha)
            . intro v H' Z' C1 C2 ev rt q1 q2 ndC;have fl2:∀C1 C2:List Addr,[C1,C2].flatten=C1++C2:=λC1 C2=>by simp
              show D.nx (O.set i (some v)) H';have F1:=(F.kill j1).kill j2;have out:∀a∈((As.set j1 []).set j2 []).flatten,a∈As.flatten/\a∉As.getD j1 []/\a∉As.getD j2 []:=λa ha=>by
               have m1:a∈(As.set j1 []).flatten:=(eW ha).elim (λq=>nomatch q) id;have m0:a∈As.flatten:=(eW m1).elim (λq=>nomatch q) id;refine⟨m0,λh=>?_,λh=>?_⟩
               . exact vX (mv:=[j1]) F.nd (C5.mpr rfl) h m1
               . refine vX (mv:=[j2]) (F.kill j1).nd (C5.mpr rfl) (i:=j2) ?_ ha;rw[A8,J9 h12,<-A8];exact h
              have kp:∀a o,H a=some o->(a∈((As.set j1 []).set j2 []).flatten\/Z a\/tY o=true)->H' a=some o:=λa o q c=>ev.keep a o q λhx=>by
               rw[fl2,A9]at hx;rcases c with c|c|c
               . exact hx.elim (out a c).2.1 (out a c).2.2
               . exact F.nz a (hx.elim inF inF) c
               . obtain⟨o',q',c'⟩:=F.sl.dom a (hx.elim inF inF);rw[q]at q';cases q';rw[c]at c';cases c'
              have dom':∀a,H a≠none->H' a≠none:=λa h q=>h (ev.dom a q);have F2:Frm Jn K cn H' Z ((U.set j1 none).set j2 none) O ((As.set j1 []).set j2 []):=⟨F1.sl.keep (λ_ h=>h) kp,F1.nd,F1.nz,λa h=>dom' a (F.zi a h),F1.pn⟩;have own:∀a∈C1++C2,(a∈As.getD j1 []\/a∈As.getD j2 [])\/H a=none:=λa ha=>by have q:=ev.own a (by rw[fl2];exact ha);rw[fl2,A9]at q;exact q
              have cz:∀a∈C1++C2,¬Z a:=λa ha z=>by
               rcases own a ha with q|q
               . exact F.nz a (q.elim inF inF) z
               . exact F.zi a z q
              have co:∀a∈C1++C2,a∉((As.set j1 []).set j2 []).flatten:=λa ha hm=>by
               rcases own a ha with q|q
               . exact q.elim (out a hm).2.1 (out a hm).2.2
               . exact dA a (out a hm).1 q
              rw[D8]at ndC;have F3:=F2.set (Rep.any u1 c1 q1) ndC.1 (λb hb=>cz b (D9 _ hb)) j1 (λb hb hm=>E8 hm (co b (D9 _ hb))) h1;have F4:=F3.set (Rep.any u2 c2 q2) ndC.2.1 (λb hb=>cz b (C6 _ hb)) j2 (λb hb hm=>by
               rcases eW hm with q|q
               . exact E8 rfl (ndC.2.2 b q b hb)
               . exact E8 q (co b (C6 _ hb))) h2
              have F5:=F4.set (Rep.any t ct rt) J2 fH i fH hJ;have eσ:((O.set j1 (some v1)).set j2 (some v2))=O:=by rw[br4 s1,br4 s2]
              rw[eσ]at F5;have eρ:((((U.set j1 none).set j2 none).set j1 (some u1)).set j2 (some u2))=(U.set j1 (some u1)).set j2 (some u2):=by rw[List.set_comm _ _ h12,List.set_set,List.set_comm _ _ (N6 h12),List.set_set]
              rw[eρ]at F5;refine w _ _ H' Z F5 ⟨λa o q n=>ev.keep a o q λhx=>?_,λa ha=>?_,λ_ h=>h,λ_ h=>.inl h,ev.dom⟩
              . rw[fl2,A9]at hx;exact n (hx.elim inF inF)
              . rcases eW ha with q|q
                . cases q
                . rcases eW q with q|q
                  . rcases own a (C6 _ q)with q|q
                    . exact .inl (q.elim inF inF)
                    . exact .inr q
                  . rcases eW q with q|q
                    . rcases own a (D9 _ q)with q|q
                      . exact .inl (q.elim inF inF)
                      . exact .inr q
                    . exact .inl (out a q).1
          . cases ec
        . cases ec
      . cases ec
    . cases ec
  . cases ec
end
end TL
namespace L2
section
variable{X:Cx}
def du7(K:A5):List V->Hp->VK->Prop:=λxs H Q=>∃(p:Addr)(ns:ah),xs=[.ref p]/\SqL K H p (ns.map V.int)/\Q (.int ns.sum) H
def dh0(K:A5)(hc:X.calm=true:=by rfl)(hK:X.K=K:=by rfl):CallR X (.builtin "sum") (du7 K):=by
 subst hK;intro ζ s O H xs us Q I r h;refine z22 h λp ns zz hp q=>?_;clear h;subst zz;obtain⟨u,rfl,ru⟩:=r.one;obtain rfl:u=Value.ref p:=ru;refine z12 (I.list hp) λits rv pl _=>?_;have hi:IntsAre its ns:=wQ rv;have hl:=pl.isList;obtain⟨zs,e⟩:=hi.allInts.items;have hns:ns=zs.toList.map (·.1):=by rw[<-hi.numsOf,<-nums_intItems,<-e]
 rw[e]at hl;refine sum_intListG (I.ok.hd hc) hl λh' tk t' hk=>?_;have es:preSum (numAt zs) zs.size=ns.sum:=by rw[preSum_eq,V3 X4,<-hns]
 rw[es];exact⟨.int _,H,I.kept hk,⟨t',rfl⟩,q⟩
end
end L2
namespace TL
open PySem L2
section
variable{K:A5}{cn:aa}
def br8:List T->Res T
 |[.lst _ ts]=>match ai2 ts with
  |some ns=>.ok (.int ns.sum)
  |none=>.no
 |_=>.no
def fd2:xY K cn (du7 K) br8:=λE As H Z ts xs A Q zi r w=>by
 unfold br8 at w;split at w
 . next o ts=>
   split at w
   . next ns h=>
     obtain⟨v,rfl,rv⟩:=r.one1;refine z33 rv.lstSq λq vs C zz hs r' _=>?_;subst zz;have:=ap1 ts r' h;subst this;exact⟨q,ns,rfl,hs.sq,w.val zi (kU _)⟩
   . exact w.elim
 . exact w.elim
def ex8(o:Bool)(ns:ah):br8 [.lst o (ns.map .int)]=.ok (.int ns.sum):=by simp only[br8,yK]
end
end TL
namespace L2
section
variable{X:Cx}
structure IsC (K:A5) (C:Addr):Prop where
 ha:PySem.W.findIn K (.ref C) "__class__"=some (some (.builtin "object.__class__"))
 hn:PySem.W.specialIn K (.builtin "object.__class__") "__get__"=some (some (.builtin "getset_descriptor.__get__"))
 htk:PySem.W.takesIn K (.builtin "object.__class__")=some true
 hm:PySem.W.mroIn K C (.type "object")=some true
def fo4{K:A5}{C:Addr}(a:PySem.W.findIn K (.ref C) "__class__"=some (some (.builtin "object.__class__")))(b:PySem.W.specialIn K (.builtin "object.__class__") "__get__"=some (some (.builtin "getset_descriptor.__get__")))(c:PySem.W.takesIn K (.builtin "object.__class__")=some true)
 (d:PySem.W.mroIn K C (.type "object")=some true):IsC K C:=⟨a,b,c,d⟩
def fq2(K:A5)(C D:Addr)(b:Bool):Prop:=PySem.W.kitOne K (.ref C) (.ref D)=some b
def fw3{K:A5}{C D:Addr}{b:Bool}(h:PySem.W.kitOne K (.ref C) (.ref D)=some b):fq2 K C D b:=h
def fn4{K:A5}{h:Heap}{mg:ac}(X:K.In h)(G:h.Ns mainGlobals mg){x:Str}{C:Addr}(a:PySem.W.nsIn K mainGlobals x=some (some (.ref C))):zH mg x (.ref C):=⟨_,R3 X G a,rfl⟩
end
end L2
namespace TL
open L2
section
variable{Jn:gX}{K:A5}{cn:aa}{E:XK}
end
open L2
section
variable{K:A5}{cn:aa}
end
end TL
namespace HT
variable{prog:G1}{w:World}{A:J0}{E:af}{s:B8}
end HT
namespace L2
end L2
namespace TL
open L2
section
variable{K:A5}{cn:aa}
end
end TL
namespace L2
end L2
namespace TL
open L2
section
variable{Jn:gX}{K:A5}{cn:aa}{E:XK}
end
end TL
namespace L2
def oA(ns:ah):List Int:=ns.foldl jW []
def bi8(K:A5):List V->Hp->VK->Prop:=λxs H Q=>∃(p:Addr)(ns:ah),xs=[.ref p]/\SqL K H p (ns.map V.int)/\ns.length<64/\∀(l:Addr)(ms:ah),H l=none->ms.Perm (oA ns)->ms.Pairwise (· <= ·)->Q (.ref l) (upd H l (.lst (ms.map V.int)))
def ba9(ns:ah):rL (λi=>ns.getD i 0) ns.length=oA ns:=by
 unfold rL oA;congr 1;apply List.ext_getElem?;intro i;by_cases h:i<ns.length
 . rw[C8,G7 h,A6 h];simp[A8,A6 h]
 . rw[J6 (by simpa using h),J6 W9]
def ab8(ns:ah):(oA ns).length<=ns.length:=by rw[<-ba9];exact ag8 _ _
section
variable{X:Cx}
def Inv.dr{ζ:ad}{O:St}{H:Hp}{s:B8}(I:Inv X ζ O H s)(d:Drawn):Inv X ζ O H {s with drawn:=d}:=
 ⟨I.ok,I.os,I.bare,I.base,I.loc,I.cell,I.free,I.freeC,I.pin,I.hok,I.len⟩
theorem bv9(K:A5){e:Expr}{t:TA}{p p2 pos pos2:Pos}(hm:X.mg "sorted"=none)(hm2:X.mg "set"=none)(ha:PA X [e] t)(hc:X.calm=true:=by rfl)(hg:Gl X "sorted":=by rfl)(hg2:Gl X "set":=by rfl)(he:starEach [e] X.env=[(false,eval e X.env)]:=by rfl)(hK:X.K=K:=by rfl):
 PE X (.Call (.Name "sorted" p) [.Call (.Name "set" p2) [e] [] pos2] [] pos) (tCB (bi8 K) t):=by
 subst hK;intro ζ s O H Q I h;refine N5 (oR I hg hm ck8 ?_);refine PyProof.Rows.callWith_builtin1 (PyProof.Rows.args_cons ?_) rfl rfl;refine N5 (oR I hg2 hm2 cj1 ?_);refine L0 (wM (ha ζ s O H _ I h) λus s1 vs H1 I1 r1 q1=>?_) he rfl;obtain⟨l,ns,rfl,hq,hl,q⟩:=q1;cases r1 with
 |cons r rr=>
  cases rr;cases r;obtain⟨its,rv,pl,_⟩:=I1.list hq;have e1:its.length=ns.length:=by have:=rv.length;simpa using this.symm
  refine be8 (knd:=intKind X.prog X.w) (val:=λi=>ns.getD i 0) (I.ok.hd hc) pl.isList (λi v hv=>?_) (by rw[B6,e1];unfold scanBound;omega) λh' tk hS kk=>PyProof.Rows.args_nil ?_
  . obtain⟨t,rfl⟩:=(wQ rv).int_at i v (by simpa using hv);exact⟨intKind_is _ _ _ _,rfl⟩
  . have I2:Inv X ζ O H1 {s1 with heap:=h',toks:=tk}:=I1.kept λb u eb=>kk b u (D5 eb) eb;have e2:its.toArray.size=ns.length:=(B6 ..).trans e1;rw[e2,ba9]at hS;refine cc7 (s:={s1 with heap:=h',toks:=tk}) (I.ok.hd hc) hS (br0 _ _ J2) (by have:=ab8 ns;omega) λh2 d tk2 a out ms e a1 a2 a3 ha2 hge hk=>?_;have hz:ms.length<=ns.length:=by rw[a2.length_eq];exact ab8 ns
    refine⟨.ref a,_,(I2.laid (a:=a) (t':=tk2) hk ha2 ?_).dr d,rfl,q a ms (I2.hok.fresh ha2) a2 a3⟩;refine⟨?_,out.toList,e,ap5 a1,?_⟩
    . rw[C3];have:=F8;omega
    . rw[hge];try rfl
end
end L2
namespace TL
open L2
section
variable{Jn:gX}{K:A5}{cn:aa}{E:XK}
def tF:List T->Res T
 |[.lst _ ts]=>match ai2 ts with
  |some ns=>if ns.length<64 then .ok (.lst true ((sN (oA ns)).map .int))else .no
  |none=>.no
 |_=>.no
def ce2:xY K cn (bi8 K) tF:=λE As H Z ts xs A Q zi r w=>by
 unfold tF at w;split at w
 . next o ts=>
   split at w
   . next ns h=>
     split at w
     . next hl=>
       obtain⟨v,rfl,rv⟩:=r.one1;refine z33 rv.lstSq λq vs C zz hs r' _=>?_;subst zz;have:=ap1 ts r' h;subst this;refine⟨q,ns,rfl,hs.sq,hl,λl ms hl hp hs=>?_⟩;have e:ms=sN (oA ns):=bi0 (hp.trans (xB _).symm) hs (ar4 _);rw[e];exact w.newL zi (ee6 _) l hl
     . exact w.elim
   . exact w.elim
 . exact w.elim
theorem bp9:∀(ns acc:ah)(x:Int),x∈ns.foldl jW acc↔x∈acc\/x∈ns
 |[],acc,x=>by simp
 |n::ns,acc,x=>by
  rw[Q3,bp9 ns,C4];unfold jW;split
  . next hy=>exact⟨λh=>h.imp_right .inr,λh=>h.elim .inl (λh=>h.elim (λe=>.inl (e▸hy)) .inr)⟩
  . rw[A9,C5,or_assoc]
def ct2(o:Bool)(ns:ah):tF [.lst o (ns.map .int)]=if ns.length<64 then .ok (.lst true ((sN (oA ns)).map .int))else .no:=by simp only[tF,yK]
def sortedSet_mem{ns:ah}{x:Int}:x∈sN (oA ns)↔x∈ns:=by rw[(xB _).mem_iff];unfold oA;rw[bp9];simp
end
end TL

end
noncomputable section
open TL L2
def Ad4(i:Nat){X}{x}{q}:=@L2.pv X x q i
def Ad5:=@Ad4 0
def Ad6:=@Ad4 1
def Ad7:=@Ad4 2
def Ad8:=@Ad4 3
def Ad9:=@Ad4 4
def Ae0:=@Ad4 5
def Ae1:=@Ad4 6
def Ae2:=@Ad4 7
def Ae3:=@Ad4 8
def Ae4:=@Ad4 9
def Ae5:=@Ad4 10
def Ae6:=@Ad4 11
def Ae7:=@Ad4 12
def Ae9:=@Ad4 14
abbrev Al3:=dC (.int 0)
abbrev Al4:=dC (.int 1)
abbrev Al5:=dC (.int 2)
abbrev Al6:=dC .non
abbrev Al7:List PySem.Str:=["Ink","Reign","Under","Between","After","Same","Within","Apart"]
abbrev Af3:=bG [] (dC (.bl false))
abbrev Af4:=aE aO (aB 1) (dC (.int 2))
abbrev Af5:=aE aO (aB 1) (dC (.int 1))
abbrev Af6:=bE (aI 2) (bE (aI 3) fF)
abbrev Af7:=bU cY (aD (fE (eQ ["Archive"] "letters") (aB 0)) aH)
abbrev Af8:=aD (aE aO (aE aO (aB 3) (aB 5)) (aB 6)) (aD (aE bR (aE aO (aE aO (aB 3) (aB 5)) (aB 7)) (aE aO (aE aO (aB 3) (aB 7)) (aB 6))) aH)
abbrev Af9:=aE cQ (aB 0) (dC (.int 4))
abbrev Ag0:=aE aO (aB 1) (dC (.int 0))
abbrev Ag1:=aD (aE aO (aE aO (aB 3) (aB 5)) (aB 6)) (aD (aE aO (aB 4) (dC (.int 2))) aH)
abbrev Ag2:=fE (eQ ["Archive"] "present") (aB 0)
abbrev Ag3:=bU cY (aD (aB 0) aH)
abbrev Ag4:=aD (aE aO (aE aO (aB 2) (aB 5)) (aB 9)) (aD (aE aO (aB 6) (aB 9)) aH)
abbrev Ag5:=fE (eQ ["Archive"] "first") (aB 0)
abbrev Ag6:=pA (aE lM (aE aO (aE aO (aB 5) (aB 6)) (dC (.int 0))) (aE aO (aE aO (aB 2) (aB 6)) (dC (.int 0)))) (aE lM (aE aO (aE aO (aB 2) (aB 6)) (dC (.int 1))) (aE aO (aE aO (aB 5) (aB 6)) (dC (.int 1))))
abbrev Ag7:=aD (aB 0) (aD (aB 1) aH)
abbrev Ag8:=aD (aE aO (aB 8) (dC (.int 3))) (aD (aB 1) (aD (dF (aD (aU (aB 9)) (aD (aU (aB 11)) aH))) (aD (aE cV (aE aO (aB 10) (aB 9)) (aE aO (aB 10) (aB 11))) aH)))
abbrev Ag9:=bU kS (aD (aB 3) aH)
abbrev Ah0:=aY [] (aE bR (aB 6) (aE cQ (aE bR (aB 3) (aE iX (aE nF (aB 8) (aE cV (aB 7) (aB 6))) (dC (.int 2)))) (aE bR (aE cV (aB 7) (aB 6)) (dC (.int 1))))) (aI 9)
abbrev Ah1:=aE aO (aB 0) (dC (.int 0))
abbrev Ah2:=aE aO (aB 3) (dC (.int 0))
abbrev Ah3:=aE aO (aB 4) (dC (.int 0))
abbrev Ah4:=aE bR Ag0 (aE cQ (aE bR (aE aO (aB 8) (dC (.int 4))) (aE nF (aE nF (dC (.int 7)) (aE aO (aB 8) (dC (.int 5)))) (aB 12))) (aE bR (aB 5) (dC (.int 1))))
abbrev Ah5:=bE (aI 2) (bE (aI 3) (bE (aI 4) (bE (aI 5) fF)))
abbrev Ah6:=bU cY (aD (aB 2) aH)
abbrev Ah7:=aD (aE bR (aB 2) (dC (.int 1))) aH
abbrev Ah8:=aE aO (aB 16) (dC (.int 3))
abbrev Ah9:=aE aO (aB 2) (dC (.int 1))
abbrev Ai0:=aE aO (aB 2) (dC (.int 0))
abbrev Ai1:=aD (aB 3) (aD (aB 4) aH)
abbrev Ai2:=dF (aD (aE cV (dC (.int 0)) (aE aO (aE aO (aB 2) (aB 4)) (aB 3))) (aD (aU (aE aO (aE aO (aB 2) (aB 3)) (aB 4))) aH))
abbrev Ai3:=sF (bH (aE fT (aB 4) (dC (.int 1)))) (bH (aE ltT (aE cQ (aE aO (aB 8) (dC (.int 2))) (dC (.int 5))) (dC (.int 2))))
abbrev Ai4:=cZ (bH (aE yQ (aE aO (aB 5) (dC (.int 0))) (aB 4))) Af3 bQ
abbrev Ai5:=eX (bE (aI 6) (bE (aI 7) fF))
abbrev Ai6:=aD (dC (.int 0)) aH
abbrev Ai7:=bH (aE iA (aB 2) (dC .non))
abbrev Ai8:=aE aO (aB 0) (dC (.int 2))
abbrev Ai9:=aE aO (aB 1) (dC (.int 3))
abbrev Aj0:=aD (aU (aB 5)) (aD (aU (aB 6)) aH)
abbrev Aj1:=cZ (fG (bH (nN lM lM (aE aO (aB 0) (aB 4)) (aE aO (aB 3) (aB 4)) (aE aO (aB 2) (aB 4))))) Af3 bQ
abbrev Aj2:=aD (aB 4) (aD (aB 5) aH)
abbrev Aj3:=aE aO (aB 0) (aB 2)
abbrev Aj4:=aY [] (aU (aE aO (aB 5) (dC (.int 1)))) (aI 4)
abbrev Aj5:=aD (aE aO (aB 4) (dC (.int 1))) (aD (aB 2) aH)
abbrev Aj6:=aE bR (aE pP (eK (aD (aE cV Ag2 Ag5) aH)) (aB 1)) (eK (aD (aE cV (dC (.int 0)) Ag5) aH))
abbrev Aj7:=aD (aE aO (aB 8) (dC (.int 3))) (aD (aB 1) (aD (aB 9) (aD (aE aO (aB 10) (aB 9)) aH)))
abbrev Aj8:=dF (aD (aU (aB 2)) aH)
abbrev Aj9:=eX (bE (aI 1) (bE (aI 2) fF))
abbrev Ak0:=aD (bU kM (aD (dC (.int 3)) (aD (aE bR (aE cV (aB 7) (aB 6)) (dC (.int 1))) aH))) aH
abbrev Ak1:=bH (aE fT Af9 (dC (.int 0)))
abbrev Ak2:=aD (aE aO (aB 0) (aB 4)) (aD (aB 3) aH)
abbrev Ak3:=cZ (bH (aE iA (aB 3) (dC .non))) (aY [] (aU (aE aO (aB 0) (aB 3))) (aI 7)) bQ
abbrev Ak4:=aE aO (aB 0) (dC (.int 3))
abbrev Ak5:=aE aO (aB 0) (dC (.int 1))
abbrev Ak6:=bH (aE fT (aE cQ (aE aO (aB 8) (dC (.int 5))) (dC (.int 8))) (dC (.int 5)))
abbrev Ak7:=bH (aE fT (aB 8) (dC (.str "letter")))
abbrev Ak8:=bH (aE lM (bU aj8 (aD (aE cV (aE aO (aB 0) (aB 7)) (aB 1)) aH)) (aB 2))
abbrev Ak9:=eQ ["Archive"] "letters"
abbrev Al0:=bE (aI 3) (bE (aI 4) fF)
abbrev Al1:=aD (aB 5) (aD (aB 1) aH)
abbrev Al2:=aE bR (aE cV Af5 Ag0) (dC (.int 1))
set_option maxHeartbeats 4000000
open TL
def YQ(t:String):Lean.MacroM (Array (Lean.TSyntax `Lean.Parser.Tactic.tacticSeq)):=(t.splitOn " ").toArray.mapM λs=>do
 let p:=s.splitOn "/";let x:=Lean.mkIdent p[0]!.toName
 match p[1]!.toList with
 |[]=>`(Lean.Parser.Tactic.tacticSeq|exact $x:ident)
 |['9']=>`(Lean.Parser.Tactic.tacticSeq|exact $x:ident ‹_›)
 |k=>do
  let h←k.toArray.mapM λ_=>`(?_)
  let mut a←if k.head! == '@' then `(tactic|apply $x) else `(tactic|refine $x $h*)
  for c in k do if c != '@' then a←`(tactic|($a;walk_at $(Lean.Syntax.mkStrLit (if c == 'r' then "r" else "r"++c.toString))))
  `(Lean.Parser.Tactic.tacticSeq|$a:tactic)
local macro_rules | `(tactic| walk_at "gt") => `(tactic| first | assumption | exact fd3 X5 X5 | exact ch7 X5 X5 | exact ev9 X5 X5 | exact et9 X5 X5 X5 | decide | omega | (refine And.intro ?_ ?_; omega; omega))
local macro_rules|`(tactic|walk_at "e")=>do let l←("eO dz3 dg4 aP aY bG cZ bu7 fR bQ eg5 ev8 aB dC aU aE fE nN pA fg3 aj9 dIf bH fK fG mG sF eK dF aD aH bU aW dBM yA lH lD gS fP dM bY by7 fb3 el9 kills aI eX bE fF bN cD rY dH frz frzs cP bB cT dD bm8 bh0 jC gK gB mB zY ar0 jX sU fN kR al6 GoW cm5 cg0 ex3 et6 cn0 ee7 ej6 ep6 eq5 ep2 eq6 as4 fo1 ft0 fe0 eq9 fy1 fs0 fh2 fm1 em9 fj0 ft2 dr2 dn5 dg5 ds2 fh1 eu9 fn2 es9 de8 ca6 ee9 fh4 fg4 fz3 er9 nZ fl0 fp0 cj8 ds7 ci9 df7 dz7 cz6 eb8 ef7 dx7 fq1 en7 ew6 cq4 eb9 fu0 fw0 ep9 fw1 ft1 pV fq0 fr1 fd0 fg2 fa2 fc2 eu8 fb1 en9 df5 di9 dz9 eo0 dy8 em3 ew7 ed7 em6 ea8 fE ac3 dq4 bz8 cr5 ax7 bw7 frz1 kT oH bf2 cq0 cl7 ff4 fc3 bx7 bk3 ex8 wG bo8 zO an9 C3 Option.map_some Option.isSome_some List.isEmpty_cons List.isEmpty_nil Option.isSome_none C7 L3 List.length_cons List.length_nil List.replicate_succ List.replicate_zero List.cons_append List.nil_append List.set_cons_zero List.set_cons_succ List.getElem?_cons_zero List.getElem?_cons_succ Nat.reduceAdd Nat.reduceSub Bool.not_true P7 Bool.and_true U9 Bool.and_false Bool.false_and Bool.or_true Bool.true_or Bool.or_false Bool.false_or N4 Q2 Q0 reduceIte reduceCtorEq decide_true decide_false and_self and_true true_and H0".splitOn " ").toArray.mapM λs=>`(Lean.Parser.Tactic.simpLemma|$(Lean.mkIdent s.toName):ident);`(tactic|simp (disch:=walk_at "gt")only[$l,*, *])
namespace Nk33
open PySem L2 TL
noncomputable section
def dN(i:Nat):Stmt:=PySem.Challenge.pw_inkyears_k33_whole_datings_together.main.body.getD i (.Pass ⟨0,0,0,0⟩)
abbrev kt_NUMBERS:List (Str×T):=[("dark",.tup [.int 0,.int 1000000]),("place",.tup [.int 1,.int 100]),("year",.tup [.int (-4000),.int 4000]),("later",.tup [.int 0,.int 300]),("gap",.tup [.int (-300),.int 300])]
abbrev kt_PARTS:List (Str×T):=[("ink",.tup [.str "letter",.str "ink",.str "dark",.str "dark"]),("reign",.tup [.str "letter",.str "reign",.str "place"]),("under",.tup [.str "letter",.str "reign"]),("between",.tup [.str "letter",.str "year",.str "year"]),("after",.tup [.str "letter",.str "letter"]),("same",.tup [.str "letter",.str "letter"]),("within",.tup [.str "letter",.str "letter",.str "later"]),("apart",.tup [.str "letter",.str "letter",.str "gap",.str "gap"])]
def wR:Fr->bS:=
 (aP (cZ (bH (aE ltT (aB 1) Ag3)) (bG [] (aU (aE aO (aB 0) (aB 1)))) bQ)
 (bG [] Al3))
def jV:List T->Res T:=λts=>bN (wR (cD 2 ts))
def vA:Fr->bS:=
 (aP (aY [] (eK (aD (dC (.str "a")) (aD (dC (.str "ab")) (aD (dC (.str "abc")) (aD (dC (.str "b")) (aD (dC (.str "ba")) (aD (dC (.str "zzzzzzzz")) (aD (dC (.str "zzzzzzzy")) (aD (dC (.str "q")) aH))))))))) (aI 1))
 (bG [] (aE bR (yA tJ (aB 1) (lH (aE cQ (aB 0) (dC (.int 8)))) lD) (yA tJ (aB 1) lD (lH (aE cQ (aB 0) (dC (.int 8))))))))
def vG:List T->Res T:=λts=>bN (vA (cD 2 ts))
def vJ:Fr->bS:=
 (aP (aY [] (aE bR (aE bR (aE cQ (aB 0) (dC (.int 1000000021))) (aE nF (dC (.int 4099)) (aB 1))) (dC (.int 77))) (aI 0))
 (aP (aY [] (bU ac6 (aD (aE cQ (aE nF (aB 0) (dC (.int 30011))) (dC (.int 2140000027))) (aD (dC (.int 46133)) aH))) (eX Af6))
 (aP (aY [] (aE bR (aE bR (aE bR (aE nF (aB 2) (aB 3)) (aE nF (dC (.int 6007)) (aB 2))) (aE nF (dC (.int 271)) (aB 3))) (aB 1)) (aI 4))
 (bG [] (aE cQ (aE nF (aB 4) (aE bR (aE cQ (aB 4) (dC (.int 1009))) (dC (.int 7919)))) (dC (.int 1700000009)))))))
def fQ:List T->Res T:=λts=>bN (vJ (cD 5 ts))
def vK:Fr->bS:=
 (aP (aY [] (aE cQ (aW 2 jV (aD (aB 0) Ai6)) (aE ah0 (dC (.int 10)) (dC (.int 15)))) (aI 2))
 (aP (aY [] (aU (aE aO (eK (aD Al3 (aD Al4 (aD (dC (.int 3)) (aD (dC (.int 8)) (aD (dC (.int 20)) (aD (dC (.int 20)) (aD (dC (.int 60)) (aD (dC (.int 300)) aH))))))))) (aE cQ (aB 2) (dC (.int 8))))) (aI 3))
 (aP (aY [] (aU (aE aO (eK (aD (fE yF (dC (.int 3000))) (aD (aE cV (dC (.int 3000)) (aB 3)) (aD (fE yF (dC (.int 10))) (aD (dC (.int 1400)) aH))))) (aE cQ (aE iX (aB 2) (dC (.int 8))) (dC (.int 4))))) (aI 4))
 (aP (aY [] (yA tJ (aW 1 vG (aD (aE iX (aB 2) (dC (.int 32))) aH)) lD (lH (aE bR Al4 (aE cQ (aE iX (aB 2) (dC (.int 256))) (aB 1))))) (aI 5))
 (aP (aY [] (eK aH) (aI 6))
 (aP (fR (fP eZ (aD (aE bR Al5 (aE cQ (aW 2 fQ (aD (aB 2) (aD (dC (.int 6)) aH))) (dC (.int 5)))) aH)) (aI 7) (aP (aY [] (aE bR (dC (.int 400)) (aE cQ (aE iX (aB 2) (dC (.int 2048))) (dC (.int 9)))) (aI 8))
 (aP (aY [] (eK (aD (aU (aB 8)) aH)) (aI 9))
 (aP (fR (fP eZ (aD (aE cQ (aW 2 fQ (aD (aB 2) (aD (aB 7) aH))) (aE aO (eK (aD (dC (.int 12)) (aD (dC (.int 60)) aH))) (aE iX (aE cQ (aE iX (aB 2) (dC (.int 18432))) (dC (.int 4))) (dC (.int 3))))) aH)) (aI 10) (aP (aY [] (bU tI (aD Al3 (aD (aE cV (aB 8) (aE cQ (aW 2 fQ (aD (aB 2) (aD (aE bR (aE nF (dC (.int 10)) (aB 10)) (aB 7)) aH))) (dC (.int 13)))) aH))) (aI 8))
 (jX 9 [] dH (aU (aB 8)))))
 (jX 6 [9] dH (dF (aD (aU (aE aO (eK (aD (dC (.str "oak")) (aD (dC (.str "soot")) (aD (dC (.str "oa")) (aD (dC (.str "ink")) (aD (dC (.str "oakoak")) (aD (dC (.str "s")) aH))))))) (aB 7))) (aD (aB 9) aH))))))))
 (aP (aY [] (aE bR (aE cV (aB 4) (dC (.int 5))) (aE cQ (aW 2 fQ (aD (aB 2) (aD (dC (.int 3)) aH))) (aE bR (aB 3) (dC (.int 9))))) (aI 11))
 (aP (aY [] (eK (aD (dF (aD (dC (.str "ann")) (aD (aU (aB 11)) (aD (aE bR Al4 (aE cQ (aW 2 fQ (aD (aB 2) (aD (dC (.int 4)) aH))) (dC (.int 30)))) aH)))) (aD (dF (aD (dC (.str "anna")) (aD (aE bR (aB 11) (dC (.int 3))) (aD (aE bR Al4 (aE cQ (aW 2 fQ (aD (aB 2) (aD (dC (.int 5)) aH))) (dC (.int 100)))) aH)))) aH))) (aI 12))
 (aP (fR (fP eZ (aD (aE cQ (aW 2 fQ (aD (aB 2) (aD (dC (.int 7)) aH))) (dC (.int 7))) aH)) (aI 7) (aP (aY [] (aE cV (aE bR (aB 11) (aE cQ (aW 2 fQ (aD (aB 2) (aD (aE bR (dC (.int 8)) (aB 7)) aH))) (dC (.int 9)))) (dC (.int 4))) (aI 11))
 (bf2 12 [] cl7 dH (aD Al4 (aD (dF (aD (aU (aE aO (eK (aD (dC (.str "an")) (aD (dC (.str "b")) (aD (dC (.str "annab")) (aD (dC (.str "zz")) (aD (dC (.str "nn")) (aD (dC (.str "a")) aH))))))) (aB 7))) (aD (aU (aB 11)) (aD (aE bR Al4 (aE cQ (aW 2 fQ (aD (aB 2) (aD (aE bR (dC (.int 14)) (aB 7)) aH))) (dC (.int 60)))) aH)))) aH)))))
 (bG [5,6,12] (dF (aD (aU (aB 4)) (aD (aE bR (aB 4) (aB 3)) (aD (aB 5) (aD (aB 6) (aD (aB 12) aH))))))))))))))))
def vM:List T->Res T:=λts=>bN (vK (cD 13 ts))
def zQ:Fr->bS:=
 (aP (aY [] (aE cQ (bU aj8 (aD (aB 0) aH)) (aE ah0 (dC (.int 10)) (dC (.int 60)))) (aI 2))
 (aP (aY [] (eK aH) (aI 3))
 (aP (fR (fP eZ (aD (aB 1) aH)) (aI 4) (cZ (sF (bH (aE ltT (aB 0) Al3)) (bH (aE geT (aB 0) (aE ah0 (dC (.int 10)) (dC (.int 18)))))) (aP (jX 3 [] dH (aE cQ (aB 2) (dC (.int 10007))))
 (aY [] (aE iX (aB 2) (dC (.int 10007))) (aI 2))) (jX 3 [] dH (aW 2 fQ (aD (aE bR (aW 2 fQ (aD (aB 0) (aD (aB 4) aH))) (aB 0)) (aD (aB 4) aH))))))
 (bG [3] (aB 3)))))
def sJ:List T->Res T:=λts=>bN (zQ (cD 5 ts))
def sT:Fr->bS:=
 (bG [] (dM [2] (gS jJ (aW 2 sJ (aD (aB 0) (aD (bU cY (aD Af4 aH)) aH)))) (aI 2) bY (aE bR Ag0 (aE cQ (aB 2) Al2))))
def sP:List T->Res T:=λts=>bN (sT (cD 3 ts))
def wX:Fr->bS:=
 (aP (aY [] (eK (aD (aU (aE aO Af4 (aB 2))) (aD (aU (aE aO Af4 (aB 3))) aH))) (aI 4))
 (aP (cZ (sF (bH (aE fT (aB 2) (aB 3))) (bH (aE fT (aE cQ Ai8 Al5) Al3))) (aP (aY [] (aE bR (aE cV Ag0 (dC (.int 30))) (aE cQ Ak4 (aE bR (aE cV Af5 Ag0) (dC (.int 61))))) (aI 5))
 (aP (aY [] (aE bR (aB 5) (aE cQ (aE aO (aB 0) (dC (.int 4))) (dC (.int 40)))) (aI 6))
 (bG [] (dF (aD (dC (.str "between")) (aD (aE bR (yA tJ (aB 4) lD (lH Al4)) (eK Aj0)) (aD Aj8 (aD (dF Aj0) aH)))))))) bQ)
 (aP (aY [] (aE cV (aE cQ Ak4 (dC (.int 601))) (dC (.int 300))) (aI 5))
 (aP (aY [] (bU kM (aD (dC (.int 300)) (aD (aE bR (aB 5) (aE cQ (aE aO (aB 0) (dC (.int 4))) (dC (.int 40)))) aH))) (aI 6))
 (bG [] (dF (aD (dC (.str "apart")) (aD (aE bR (aB 4) (eK Aj0)) (aD (dF (aD (aU (aB 2)) (aD (aU (aB 3)) aH))) (aD (dF Aj0) aH))))))))))
def tR:List T->Res T:=λts=>bN (wX (cD 7 ts))
def tL:Fr->bS:=
 (aP (aY [] (aU (aE aO Af4 (aB 2))) (aI 4))
 (aP (aY [] (aE iX (aB 0) (dC (.int 4))) (aI 5))
 (aP (cZ Ak1 (aP (aY [] (aU (aE aO Ai9 (aE cQ (aB 5) (bU cY (aD Ai9 aH))))) Ai5)
 (aP (aY [] (aE cQ (aE iX (aB 5) Al5) (dC (.int 5))) (aI 8))
 (aP (aY [] (aU (aE aO (aB 7) (bU kM (aD (aE cV Af5 (aB 3)) (aD (aE cV (bU cY (aD (aB 7) aH)) Al4) aH))))) (aI 9))
 (aP (aY [] (bU tI (aD Al3 (aD (aE cV (aE bR (aB 9) (aE cQ (aE iX (aB 5) (dC (.int 10))) (aE bR (aE nF Al5 (aB 8)) Al4))) (aB 8)) aH))) (aI 9))
 (aP (aY [] (eK aH) (aI 10))
 (aP (fR (fP eZ (aD Al2 aH)) (aI 11) (cZ (bH (aE lM (bU aj8 (aD (aE cV (aE aO (aB 7) (bU kM (aD (aB 11) (aD (aE cV (bU cY (aD (aB 7) aH)) Al4) aH)))) (aB 9)) aH)) (aB 8))) (jX 10 [] dH (aU (aB 11))) bQ))
 (bG [] (dF (aD (dC (.str "ink")) (aD (eK (aD (aU (aB 4)) (aD (aU (aB 6)) (aD (aU (aB 9)) (aD (aU (aB 8)) aH))))) (aD Aj8 (aD (dF (aD (aE cV Af5 (aE aO (aB 10) (fE yF Al4))) (aD (aE cV Af5 (aE aO (aB 10) Al3)) aH))) aH)))))))))))) bQ)
 (aP (aY [] (aE cQ (aE iX (aB 5) Al5) (bU cY (aD (aE aO (aB 1) (dC (.int 4))) aH))) (aI 12))
 (aP (fR (gS vS (by7 (aE bR (yA tJ (aE aO (aB 1) (dC (.int 4))) (lH (aB 12)) lD) (yA tJ (aE aO (aB 1) (dC (.int 4))) lD (lH (aB 12)))))) (eX (bE (aI 13) (bE (aI 14) (bE (aI 15) fF)))) (cZ (mG (bH (aE fT Af9 Al4)) (bH (nN lM ltT (aB 14) (aB 3) (aE bR (aB 14) (aB 15))))) (aP (cZ (bH (aE fT (aE cQ (aB 5) Al5) Al3)) (bG [] (dF (aD (dC (.str "reign")) (aD (eK (aD (aU (aB 4)) (aD (aU (aB 13)) (aD (aE bR (aE cV (aB 3) (aB 14)) Al4) aH)))) (aD Aj8 (aD (dF (aD (aU (aB 3)) (aD (aU (aB 3)) aH))) aH)))))) bQ)
 (bG [] (dF (aD (dC (.str "under")) (aD (eK (aD (aU (aB 4)) (aD (aU (aB 13)) aH))) (aD Aj8 (aD (dF (aD (aU (aB 14)) (aD (aE cV (aE bR (aB 14) (aB 15)) Al4) aH))) aH))))))) bQ))
 (aP (aY [] (bU tI (aD (fE yF (dC (.int 4000))) (aD (aE cV (aB 3) (aE cQ (aB 5) (dC (.int 9)))) aH))) (aI 16))
 (aP (aY [] (bU kM (aD (dC (.int 4000)) (aD (aE bR (aB 3) (aE cQ (aE iX (aB 5) (dC (.int 9))) (dC (.int 9)))) aH))) (aI 17))
 (bG [] (dF (aD (dC (.str "between")) (aD (eK (aD (aU (aB 4)) (aD (aU (aB 16)) (aD (aU (aB 17)) aH)))) (aD Aj8 (aD (dF (aD (aU (aB 16)) (aD (aU (aB 17)) aH))) aH)))))))))))))
def oU:List T->Res T:=λts=>bN (tL (cD 18 ts))
def sW:Fr->bS:=
 (aP (aY [] (dM [9] (gS jJ (aB 2)) (aI 9) bY (aU (aE aO Af4 (aB 9)))) (aI 4))
 (aP (aY [] (aE iX (aB 0) (dC (.int 4))) (aI 5))
 (aP (cZ (mG (bH (aE fT (aB 3) Al3)) Ak1) (bG [4] (dF (aD (dC (.str "same")) (aD (aB 4) (aD (aU (aB 2)) (aD (dF (aD Al3 Ai6)) aH)))))) bQ)
 (aP (cZ (mG (bH (aE gtT (aB 3) Al3)) (bH (aE ltT Af9 Al5))) (bG [4] (dF (aD (dC (.str "after")) (aD (aB 4) (aD (aU (aB 2)) (aD (dF (aD Al4 (aD Al6 aH))) aH)))))) bQ)
 (aP (cZ (mG (bH (aE geT (aB 3) Al3)) (bH (aE fT Af9 Al5))) (aP (aY [] (bU kM (aD (dC (.int 300)) (aD (aE bR (aB 3) (aE cQ (aB 5) (dC (.int 4)))) aH))) (aI 6))
 (bG [] (dF (aD (dC (.str "within")) (aD (aE bR (aB 4) (eK (aD (aU (aB 6)) aH))) (aD (aU (aB 2)) (aD (dF (aD Al3 (aD (aU (aB 6)) aH))) aH))))))) bQ)
 (aP (aY [] (bU tI (aD (fE yF (dC (.int 300))) (aD (aE cV (aB 3) (aE cQ (aB 5) (dC (.int 6)))) aH))) (aI 7))
 (aP (aY [] (bU kM (aD (dC (.int 300)) (aD (aE bR (aB 3) (aE cQ (aE iX (aB 5) (dC (.int 6))) (dC (.int 6)))) aH))) (aI 8))
 (bG [] (dF (aD (dC (.str "apart")) (aD (aE bR (aB 4) (eK (aD (aU (aB 7)) (aD (aU (aB 8)) aH)))) (aD (aU (aB 2)) (aD (dF (aD (aU (aB 7)) (aD (aU (aB 8)) aH))) aH)))))))))))))
def oN:List T->Res T:=λts=>bN (sW (cD 10 ts))
def rE:Fr->bS:=
 (aP (aY [] (bU cY (aD Af4 aH)) (aI 4))
 (aP (aY [] (aE cV Af5 Ag0) (aI 5))
 (aP (aY [] (eK aH) (aI 6))
 (aP (fR (gS vS (aB 0)) (aI 7) (aP (aY [] (aW 2 sJ (aD (aB 7) (aD (dC (.int 6)) aH))) (aI 8))
 (aP (aY [] (aE cQ (aE aO (aB 8) Al3) (aB 4)) (aI 9))
 (aP (aY [] Ag9 (aI 10))
 (aP (cZ (mG (fK (aB 2)) (bH (aE fT (aE cQ (aE aO (aB 8) Al4) (dC (.int 3))) Al3))) (aY [] (dM [12] (fP eZ (aD (aB 4) aH)) (aI 12) bY Ah4) (aI 10)) bQ)
 (aP (aY [] (aE cQ (aE bR (aE bR (aB 9) Al4) (aE cQ (aE iX (aE aO (aB 8) Al4) (dC (.int 3))) (bU tI (aD Al4 (aD (aE cV (aB 4) Al4) aH))))) (aB 4)) (aI 11))
 (cZ (mG (fK (aB 2)) Ak6) (jX 6 [] dH (aW 4 tR (aD (aB 8) (aD (aB 1) (aD (aB 9) (aD (aB 11) aH)))))) (cZ Ai3 (jX 6 [] dH (aW 4 oU Aj7)) (jX 6 [] dH (aW 4 oN Ag8))))))))))
 (bG [6] (aB 6))))))
def qO:List T->Res T:=λts=>bN (rE (cD 13 ts))
def tW:Fr->bS:=
 (bG [] (pA (bU oF (aD (aB 0) (aD (dC (.ty "int")) aH))) (aj9 (bU oF (aD (aB 0) (aD (dC (.ty "bool")) aH))))))
def lG:List T->Res T:=λts=>bN (tW (cD 1 ts))
def oG:Fr->bS:=
 (bG [] (pA (aW 1 lG (aD (aB 0) aH)) (nN lM lM (aB 1) (aB 0) (aB 2))))
def eF:List T->Res T:=λts=>bN (oG (cD 3 ts))
def vC:Fr->bS:=
 (aP (cZ (fG (fK (aW 3 eF (aD (aB 0) (aD (fE yF (dC (.int 3000))) (aD (dC (.int 3000)) aH)))))) Af3 bQ)
 (aP (cZ (fG (fK (aW 3 eF (aD (aB 1) (aD (fE yF (dC (.int 3000))) (aD (dC (.int 3000)) aH)))))) Af3 bQ)
 (bG [] (nN lM lM Al3 (aE cV (aB 1) (aB 0)) (dC (.int 300))))))
def vD:List T->Res T:=λts=>bN (vC (cD 2 ts))
def tU:Fr->bS:=
 (bG [] (pA (nN lM lM Al4 Ag3 (aB 2)) (bU (kN false) (aD (dM [3] (gS jJ (aB 0)) (aI 3) bY (aE (inT false) (aB 3) (aB 1))) aH))))
def tK:List T->Res T:=λts=>bN (tU (cD 4 ts))
def zN:Fr->bS:=
 (bG [] (aW 3 tK (aD (aB 0) (aD (dC (.str "abcdefghijklmnopqrstuvwxyz")) (aD (dC (.int 8)) aH)))))
def vU:List T->Res T:=λts=>bN (zN (cD 1 ts))
def vE:Fr->bS:=
 (aP (cZ (fG (bH (nN lM lM (aB 1) Ag3 (aB 2)))) Af3 bQ)
 (bG [] (pA (bU (kN false) (aD (dM [3] (gS jJ (aB 0)) (aI 3) bY (aW 1 vU (aD (aB 3) aH))) aH)) (aE fT (bU ay0 (aD (aB 0) aH)) Ag3))))
def nR:List T->Res T:=λts=>bN (vE (cD 4 ts))
def xD:Fr->bS:=
 (aP (cZ (fG (bH (nN lM lM Al4 Ag3 (dC (.int 60))))) Af3 bQ)
 (aP (cZ (fG (fK (bU (kN false) (aD (dM [1] (gS jJ (aB 0)) (aI 1) bY (aW 3 eF (aD (aB 1) (aD Al3 (aD (dC (.int 1000000)) aH))))) aH)))) Af3 bQ)
 (bG [] (bU (kN false) (aD (dM [2] (fP co5 (aD Al4 (aD Ag3 aH))) (aI 2) bY (aE lM Aj3 (aE aO (aB 0) (aE cV (aB 2) Al4)))) aH)))))
def sO:List T->Res T:=λts=>bN (xD (cD 3 ts))
def wS:Fr->bS:=
 (aP (cZ (fG (fK (aW 3 nR (aD (dM [1,2] (gS jJ (aB 0)) Aj9 bY (aU (aB 1))) (aD Al3 (aD (dC (.int 6)) aH)))))) Af3 bQ)
 (bG [] (bU (kN false) (aD (dM [1,2] (gS jJ (aB 0)) Aj9 bY (aW 1 sO (aD (aB 2) aH))) aH))))
def xA:List T->Res T:=λts=>bN (wS (cD 3 ts))
def xK:Fr->bS:=
 (bG [] (pA (aW 3 eF (aD (aB 0) (aD (fE yF (dC (.int 4000))) (aD (dC (.int 4000)) aH)))) (aW 3 eF (aD (aB 1) (aD Al4 (aD (dC (.int 100)) aH))))))
def tQ:List T->Res T:=λts=>bN (xK (cD 2 ts))
def sR:Fr->bS:=
 (aP (cZ (fG (fK (aW 3 nR (aD (dM [1,2,3] (gS jJ (aB 0)) (eX (bE (aI 1) Af6)) bY (aU (aB 1))) (aD Al3 (aD (dC (.int 8)) aH)))))) Af3 bQ)
 (bG [] (bU (kN false) (aD (dM [1,2,3] (gS jJ (aB 0)) (eX (bE (aI 1) Af6)) bY (aW 2 tQ (aD (aB 2) (aD (aB 3) aH)))) aH))))
def uE:List T->Res T:=λts=>bN (sR (cD 4 ts))
def mH:Fr->bS:=
 (aP (cZ (fG (fK (aW 2 vD (aD (aB 1) (aD (aB 2) aH))))) oH bQ)
 (aP (cZ (fG (fK (aW 3 nR (aD (aB 3) (aD Al4 (aD (dC (.int 8)) aH)))))) oH bQ)
 (aP (cZ (fG (fK (aW 1 xA (aD (aB 4) aH)))) oH bQ)
 (aP (cZ (fG (fK (aW 1 uE (aD (aB 5) aH)))) oH bQ)
 (aP (wG 0 [] ["Archive"] "first" (aU (aB 1)) dH)
 (aP (wG 0 [] ["Archive"] "present" (aU (aB 2)) dH)
 (aP (wG 0 [] ["Archive"] "letters" Ag9 dH)
 (aP (wG 0 [] ["Archive"] "inks" (dM [6,7] (gS jJ (aB 4)) Ai5 bY (dF (aD (aU (aB 6)) (aD (bU kS (aD (aB 7) aH)) aH)))) dH)
 (wG 0 [] ["Archive"] "reigns" (dM [6,8,9] (gS jJ (aB 5)) (eX (bE (aI 6) (bE (aI 8) (bE (aI 9) fF)))) bY (dF (aD (aU (aB 6)) (aD (aU (aB 8)) (aD (aU (aB 9)) aH))))) dH)))))))))
def tV:List T->Res T:=λts=>kT (mH (cD 10 (.ins true "Archive" [] []::ts)))
def rF:Fr->bS:=
 (aP (aY [] (dM [2,3] (gS jJ Ak4) (eX Af6) bY (dF (aD (aU (aB 2)) (aD Ag9 aH)))) (aI 1))
 (bG [] (aW 5 tV (aD Ah1 (aD Ak5 (aD (bU kS (aD Ai8 aH)) (aD (aB 1) (aD (bU kS (aD (aE aO (aB 0) (dC (.int 4))) aH)) aH))))))))
def qY:List T->Res T:=λts=>bN (rF (cD 4 ts))
def rK:Fr->bS:=
 (aP (cZ (bH (aE fT (aB 1) (dC (.str "letter")))) (bG [] (aE (inT false) (aB 2) (fE Ak9 (aB 0)))) bQ)
 (aP (cZ (bH (aE fT (aB 1) (dC (.str "ink")))) (bG [] (aE (inT false) (aB 2) (dM [3] (gS jJ (fE (eQ ["Archive"] "inks") (aB 0))) (aI 3) bY (aU Ah2)))) bQ)
 (aP (cZ (bH (aE fT (aB 1) (dC (.str "reign")))) (bG [] (aE (inT false) (aB 2) (dM [4] (gS jJ (fE (eQ ["Archive"] "reigns") (aB 0))) (aI 4) bY (aU Ah3)))) bQ)
 (bG [] (aW 3 eF (aD (aB 2) (aD (aE aO (fE (ac3 kt_NUMBERS) (aB 1)) Al3) (aD (aE aO (fE (ac3 kt_NUMBERS) (aB 1)) Al4) aH))))))))
def gY:List T->Res T:=λts=>bN (rK (cD 5 ts))
def yZ:Fr->bS:=
 (aP (cZ (sF (bH (fE (dq4 true kt_PARTS) (aB 1))) (bH (aE yQ Ah6 (bU cY (aD (fE (ac3 kt_PARTS) (aB 1)) aH))))) Af3 bQ)
 (bG [] (bU (kN false) (aD (dM [3,4] (fP (bz8 false) (aD (fE (ac3 kt_PARTS) (aB 1)) (aD (aB 2) aH))) (eX Al0) bY (aW 3 gY (aD (aB 0) Ai1))) aH))))
def vY:List T->Res T:=λts=>bN (yZ (cD 5 ts))
def lT:Fr->bS:=
 (aP (fR (gS vS (fE (eQ ["Archive"] "inks") (aB 0))) (eX Af6) (cZ (bH (aE fT (aB 2) (aB 1))) (bG [] Ag9) bQ))
 (bG [] Al6))
def gR:List T->Res T:=λts=>bN (lT (cD 4 ts))
def zU:Fr->bS:=
 (aP (aY [] (aE cV Ag3 Al4) (aI 4))
 (aP (aY [] (dM [7] (fP eZ (aD (aE bR (bU kM (aD (aB 4) (aD (aB 3) aH))) Al4) aH)) (aI 7) Ak8 (aU (aB 7))) (aI 5))
 (aP (cZ (bH (aE fT (bU cY (aD (aB 5) aH)) Al3)) (bG [] Al6) bQ)
 (aP (aY [] (aU (aE aO (aB 5) (aE cV (bU cY (aD (aB 5) aH)) Al4))) (aI 6))
 (bG [] (dF (aD (aU (aE aO (aB 5) Al3)) (aD (dIf (bH (aE fT (aB 6) (aB 4))) (aU (aB 3)) (aU (aB 6))) aH))))))))
def vZ:List T->Res T:=λts=>bN (zU (cD 8 ts))
def az2:Fr->bS:=
 (bG [] (dBM bm8 ap2 (dC (.str " ")) (aD (dM [1] (gS jJ (aB 0)) (aI 1) bY (bU aa0 (aD (aB 1) aH))) aH)))
def ab3:List T->Res T:=λts=>bN (az2 (cD 2 ts))
def cO:Fr->bS:=
 (aP (aY [] (dM [7,8] (fP (bz8 false) (aD (aB 3) (aD (fE (ac3 kt_PARTS) (aB 2)) aH))) (eX (bE (aI 7) (bE (aI 8) fF))) Ak7 (aU (aB 7))) (aI 6))
 (aP (wG 0 []  Al7  "spoken" (dM [9] (gS jJ (aB 6)) (aI 9) bY (dBM bh0 ae1 (fE Ak9 (aB 1)) (aD (aB 9) aH))) dH)
 (aP (wG 0 []  Al7  "low" (aU (aB 4)) dH)
 (aP (wG 0 []  Al7  "high" (aU (aB 5)) dH)
 (wG 0 []  Al7  "text" (aW 1 ab3 (aD (aE bR (eK (aD (aU (aB 2)) aH)) Ag9) aH)) dH)))))
abbrev tm_table:List (Str×(List T->Res T)):=[("Archive",gR)]
def az7:List T->Res T:=λts=>kT (cO (cD 10 (.ins true "Ink" [] []::ts)))
def uB:Fr->bS:=
 (aP (aY [] (aW 4 vZ (aD (nX 2 "table" tm_table (aB 0) (aD Af5 aH)) (aD Af4 (aD Ai9 (aD (aE cV Ag2 Ag5) aH))))) (aI 2))
 (aP (cZ (bH (aE isT (aB 2) Al6)) oH bQ)
 (bG [] (aW 5 az7 (aD (aB 0) (aD (dC (.str "ink")) (aD (aB 1) (aD (aE cV Ag2 Ah9) (aD (aE cV Ag2 Ai0) aH)))))))))
def tP:List T->Res T:=λts=>bN (uB (cD 3 ts))
def pQ:Fr->bS:=
 (aP (fR (gS vS (fE (eQ ["Archive"] "reigns") (aB 0))) (aI 2) (cZ (bH (aE fT Ai0 (aB 1))) (bG [] (aU (aB 2))) bQ))
 (bG [] Al6))
def mF:List T->Res T:=λts=>bN (pQ (cD 3 ts))
def uG:Fr->bS:=
 (aP (cZ (fG (fK (aW 3 eF (aD (aB 2) (aD Al4 (aD (aB 1) aH)))))) (bG [] Al6) bQ)
 (bG [] (aE cV (aE bR (aB 0) (aB 2)) Al4)))
def oT:List T->Res T:=λts=>bN (uG (cD 3 ts))
def aa2:List T->Res T:=λts=>kT (cO (cD 10 (.ins true "Reign" [] []::ts)))
def pK:Fr->bS:=
 (aP (aY [] (aW 2 mF (aD (aB 0) (aD Af5 aH))) (aI 2))
 (aP (aY [] (aW 3 oT (aD Ah9 (aD (aE aO (aB 2) Al5) (aD Af4 aH)))) (aI 3))
 (aP (cZ (bH (aE isT (aB 3) Al6)) oH bQ)
 (bG [] (aW 5 aa2 (aD (aB 0) (aD (dC (.str "reign")) (aD (aB 1) (aD (aB 3) (aD (aB 3) aH))))))))))
def pX:List T->Res T:=λts=>bN (pK (cD 4 ts))
def af3:List T->Res T:=λts=>kT (cO (cD 10 (.ins true "Under" [] []::ts)))
def pZ:Fr->bS:=
 (aP (aY [] (aW 2 mF (aD (aB 0) (aD Af5 aH))) (aI 2))
 (bG [] (aW 5 af3 (aD (aB 0) (aD (dC (.str "under")) (aD (aB 1) (aD Ah9 (aD (aW 3 oT (aD Ah9 (aD (aE aO (aB 2) Al5) (aD (aE aO (aB 2) Al5) aH)))) aH))))))))
def pC:List T->Res T:=λts=>bN (pZ (cD 3 ts))
def yR:List T->Res T:=λts=>kT (cO (cD 10 (.ins true "Between" [] []::ts)))
def nG:Fr->bS:=
 (aP (cZ (bH (aE gtT Af5 Af4)) oH bQ)
 (bG [] (aW 5 yR (aD (aB 0) (aD (dC (.str "between")) (aD (aB 1) (aD Af5 (aD Af4 aH))))))))
def mZ:List T->Res T:=λts=>bN (nG (cD 2 ts))
def aa3:List T->Res T:=λts=>kT (cO (cD 10 (.ins true "After" [] []::ts)))
def pS:Fr->bS:=
 (bG [] (aW 5 aa3 (aD (aB 0) (aD (dC (.str "after")) (aD (aB 1) (aD Al4 (aD Al6 aH)))))))
def pE:List T->Res T:=λts=>bN (pS (cD 2 ts))
def ah5:List T->Res T:=λts=>kT (cO (cD 10 (.ins true "Same" [] []::ts)))
def qW:Fr->bS:=
 (bG [] (aW 5 ah5 (aD (aB 0) (aD (dC (.str "same")) (aD (aB 1) (aD Al3 Ai6))))))
def qR:List T->Res T:=λts=>bN (qW (cD 2 ts))
def ap0:List T->Res T:=λts=>kT (cO (cD 10 (.ins true "Within" [] []::ts)))
def oC:Fr->bS:=
 (bG [] (aW 5 ap0 (aD (aB 0) (aD (dC (.str "within")) (aD (aB 1) (aD Al3 (aD Af4 aH)))))))
def oB:List T->Res T:=λts=>bN (oC (cD 2 ts))
def az1:List T->Res T:=λts=>kT (cO (cD 10 (.ins true "Apart" [] []::ts)))
def pY:Fr->bS:=
 (aP (cZ (bH (aE gtT Af4 Ai9)) oH bQ)
 (bG [] (aW 5 az1 (aD (aB 0) (aD (dC (.str "apart")) (aD (aB 1) (aD Af4 (aD Ai9 aH))))))))
def pG:List T->Res T:=λts=>bN (pY (cD 2 ts))
abbrev tb_MAKERS:List (Str×(List T->Res T)):=[("ink",tP),("reign",pX),("under",pC),("between",mZ),("after",pE),("same",qR),("within",oB),("apart",pG)]
def vO:Fr->bS:=
 (aP (cZ (fG (fK (aW 3 vY (aD (aB 0) (aD (aB 1) (aD (aB 2) aH)))))) oH bQ)
 (aP (cZ (mG (bH (aE fT (aE aO (fE (ac3 kt_PARTS) (aB 1)) Al4) (dC (.str "letter")))) (bH (aE fT Ai0 Ah9))) oH bQ)
 (bG [] (an9 2 tb_MAKERS (aB 1) (aD (aB 0) (aD (aB 2) aH))))))
def dZ:List T->Res T:=λts=>bN (vO (cD 3 ts))
def wY:Fr->bS:=
 (bG [] (dM [2,3,4,5] (gS jJ (aB 1)) (eX Ah5) bY (aW 3 dZ (aD (aB 0) (aD (aB 2) (aD Ag9 aH))))))
def xN:List T->Res T:=λts=>bN (wY (cD 6 ts))
def vN:Fr->bS:=
 (aP (aY [] (eK aH) (aI 2))
 (aP (fR (fP eZ (aD (bU cY (aD (aB 1) aH)) aH)) (aI 3) (aP (aY [] (aU (aE aO (aE aO (aB 1) (aB 3)) Al5)) (aI 4))
 (aP (aY [] (aU (aE aO (aE aO (aB 1) (aB 3)) (dC (.int 3)))) (eX (bE (aI 5) (bE (aI 6) fF))))
 (aP (aY [] (aU (aE aO (aE bR (aB 4) (dF (aD Al6 aH))) Al4)) (aI 7))
 (aP (cZ (bH (aE iA (aB 6) Al6)) (jX 2 [] dH (dF (aD (aU (aB 7)) (aD (aU Ah3) (aD (aU (aB 6)) (aD (aU (aB 3)) aH)))))) bQ)
 (cZ (bH (aE iA (aB 5) Al6)) (jX 2 [] dH (dF (aD (aU Ah3) (aD (aU (aB 7)) (aD (aE cV Al3 (aB 5)) (aD (aU (aB 3)) aH)))))) bQ))))))
 (aP (fR (fP eZ (aD (bU cY (aD Ai8 aH)) aH)) (aI 8) (aP (jX 2 [] dH (dF (aD Al6 (aD (aU (aB 8)) (aD (aU Ak5) (aD Al6 aH))))))
 (jX 2 [] dH (dF (aD (aU (aB 8)) (aD Al6 (aD (aE cV Al3 Ah1) (aD Al6 aH))))))))
 (bG [2] (aB 2)))))
def vI:List T->Res T:=λts=>bN (vN (cD 9 ts))
def eT:Fr->bS:=
 (bG [] (bU kS (aD (fE (eQ  Al7  "spoken") (aB 0)) aH)))
def bD:List T->Res T:=λts=>bN (eT (cD 1 ts))
def eE:Fr->bS:=
 (bG [] (dF (aD (aU (fE (eQ  Al7  "low") (aB 0))) (aD (aU (fE (eQ  Al7  "high") (aB 0))) aH))))
def aX:List T->Res T:=λts=>bN (eE (cD 1 ts))
abbrev tm_about:List (Str×(List T->Res T)):=[("Ink",bD),("Reign",bD),("Under",bD),("Between",bD),("After",bD),("Same",bD),("Within",bD),("Apart",bD)]
abbrev tm_bounds:List (Str×(List T->Res T)):=[("Ink",aX),("Reign",aX),("Under",aX),("Between",aX),("After",aX),("Same",aX),("Within",aX),("Apart",aX)]
def pU:Fr->bS:=
 (aP (aY [] (nX 1 "about" tm_about (aB 0) aH) (aI 2))
 (aP (aY [] (nX 1 "bounds" tm_bounds (aB 0) aH) (aI 3))
 (aP (aY [] (dIf (bH (aE fT Ah6 Al5)) (aU Ah9) Al6) (aI 4))
 (aP (aY [] (eK aH) (aI 5))
 (aP (cZ (bH (aE iA (aE aO (aB 3) Al4) Al6)) (jX 5 [] dH (dF (aD (aU (aB 4)) (aD (aU Ai0) (aD (aU (aE aO (aB 3) Al4)) (aD (aU (aB 1)) aH)))))) bQ)
 (aP (cZ (bH (aE iA Ah2 Al6)) (jX 5 [] dH (dF (aD (aU Ai0) (aD (aU (aB 4)) (aD (aE cV Al3 Ah2) (aD (aU (aB 1)) aH)))))) bQ)
 (bG [5] (aB 5))))))))
def pT:List T->Res T:=λts=>bN (pU (cD 6 ts))
def tS:Fr->bS:=
 (bG [] (eK (aD (dF (aD Al6 (aD (aU (aB 1)) (aD (aU Ag2) (aD Al6 aH))))) (aD (dF (aD (aU (aB 1)) (aD Al6 (aD (aE cV Al3 Ag5) (aD Al6 aH))))) aH))))
def tD:List T->Res T:=λts=>bN (tS (cD 2 ts))
def xL:Fr->bS:=
 (aP (aY [] (eK aH) (aI 2))
 (aP (fR (fP (cr5 true) (aD (aB 1) aH)) (eX Al0) (bf2 2 [] cq0 dH (aD (aW 2 pT (aD (aB 4) (aD (aB 3) aH))) aH)))
 (aP (fR (fP eZ (aD Af7 aH)) (aI 5) (bf2 2 [] cq0 dH (aD (aW 2 tD (aD (aB 0) (aD (aB 5) aH))) aH)))
 (bG [2] (aB 2)))))
def pW:List T->Res T:=λts=>bN (xL (cD 6 ts))
def tO:Fr->bS:=
 (bG [] (dIf (bH (aE isT (aB 0) Al6)) (aU (aB 1)) (aU (aB 0))))
def dL:List T->Res T:=λts=>bN (tO (cD 2 ts))
def yX:Fr->bS:=
 (aP (aY [] (aE cV (bU cY (aD (aB 1) aH)) Al4) (aI 2))
 (bG [] (aE lM (aE aO (aB 1) (aW 2 dL (aD Ak5 (aD (aB 2) aH)))) (aE bR (aE aO (aB 1) (aW 2 dL (aD Ah1 (aD (aB 2) aH)))) Ai8))))
def oK:List T->Res T:=λts=>bN (yX (cD 3 ts))
def rG:Fr->bS:=
 (aP (aY [] (aE cV (bU cY (aD (aB 1) aH)) Al4) (aI 3))
 (aP (aY [] Al6 (aI 4))
 (aP (fR (gS vS (aB 0)) (aI 5) (cZ (fG (fK (aW 2 oK Al1))) (aP (aY [] (aW 2 dL (aD (aE aO (aB 5) Al3) (aD (aB 3) aH))) (aI 4))
 (aP (sU 1 [] (aE cV (aE aO (aB 1) (aW 2 dL (aD (aE aO (aB 5) Al4) (aD (aB 3) aH)))) (aE aO (aB 5) Al5)) dH (aB 4))
 (sU 2 [] (aU (aB 5)) dH (aB 4)))) bQ))
 (bx7 (aB 4)))))
def jQ:T->T->T->Res (T×T×T):=λa b c=>bk3 (rG (cD 6 [a,b,c]))
def qN:Fr->bS:=
 (aP (aY [] (aE cV Ag3 Al4) (aI 2))
 (aP (fR (fP eZ (aD Ag3 aH)) (aI 3) (aY [] (aW 2 dL (aD (aE aO (aE aO (aB 0) (aB 1)) Al4) (aD (aB 2) aH))) (aI 1)))
 (aP (aY [] (eK (aD (aU (aE aO (aB 0) (aB 1))) aH)) (aI 4))
 (aP (aY [] (aW 2 dL (aD (aE aO (aE aO (aB 0) (aB 1)) Al4) (aD (aB 2) aH))) (aI 5))
 (aP (ab5 (bH (aE yQ (aB 5) (aB 1))) (aP (jX 4 [] dH (aU (aE aO (aB 0) (aB 5))))
 (aY [] (aW 2 dL (aD (aE aO (aE aO (aB 0) (aB 5)) Al4) (aD (aB 2) aH))) (aI 5))))
 (bG [4] (aB 4)))))))
def rD:List T->Res T:=λts=>bN (qN (cD 6 ts))
def tX:Fr->bS:=
 (aP (aY [] Af7 (aI 2))
 (aP (aY [] (aE bR (aE pP (eK (aD (aE cV Ag5 Al4) aH)) (aB 2)) (eK Ai6)) (aI 3))
 (aP (aY [] (aE pP (eK (aD Al6 aH)) (aE bR (aB 2) Al4)) (aI 4))
 (aP (aY [] Al6 (aI 5))
 (aP (fR (fP eZ Ah7) (aI 6) (as0 5 1 3 4 jQ))
 (aP (cZ (bH (aE isT (aB 5) Al6)) (bG [] (dF (aD (dC (.str "dating")) (aD (yA tJ (aB 3) (lH Al3) (lH (aB 2))) aH)))) bQ)
 (bG [] (dF (aD (dC (.str "ring")) (aD (aW 2 rD Aj2) aH))))))))))
def jM:List T->Res T:=λts=>bN (tX (cD 7 ts))
def vR:Fr->bS:=
 (bG [] (aW 2 jM (aD (aB 0) (aD (aW 2 pW Ag7) aH))))
def mT:List T->Res T:=λts=>bN (vR (cD 2 ts))
def vL:Fr->bS:=
 (bG [] (pA (bU oF (aD (aB 0) (aD (dC (.ty "int")) aH))) (aj9 (bU oF (aD (aB 0) (aD (dC (.ty "bool")) aH))))))
def jF:List T->Res T:=λts=>bN (vL (cD 1 ts))
def qT:Fr->bS:=
 (aP (cZ (sF (fG (fK (bU oF (aD (aB 0) (aD (dC (.ty "tuple")) aH))))) (sF (bH (aE yQ Ag3 (dC (.int 4)))) (fG (fK (aW 1 jF (aD Ai8 aH)))))) Af3 bQ)
 (aP (fR (gS vS (by7 (eK (aD (aU Ah1) (aD (aU Ak5) (aD (aU Ak4) aH)))))) (aI 2) (cZ (mG Ai7 (fG (fK (aW 1 jF (aD (aB 2) aH))))) Af3 bQ))
 (bG [] (aE (inT false) (aB 0) (aB 1)))))
def jU:List T->Res T:=λts=>bN (qT (cD 3 ts))
def pD:Fr->bS:=
 (aP (cZ (sF (fG (fK (bU oF (aD (aB 0) (aD (dC (.ty "list")) aH))))) (fG (fK (bU (kN false) (aD (dM [5] (gS jJ (aB 0)) (aI 5) bY (aW 2 jU Al1)) aH))))) Af3 bQ)
 (aP (aY [] (aU (aB 2)) (aI 4))
 (aP (fR (gS vS (aB 0)) (aI 5) (aP Ai4
 Aj4))
 (bG [] (aE fT (aB 4) (aB 3))))))
def pF:List T->Res T:=λts=>bN (pD (cD 6 ts))
def qQ:Fr->bS:=
 (aP (cZ (sF (fG (fK (bU oF (aD (aB 0) (aD (dC (.ty "list")) aH))))) (sF (bH (aE fT (aB 0) (eK aH))) (fG (fK (aW 2 jU (aD Ah1 (aD (aB 1) aH))))))) Af3 bQ)
 (aP (cZ (fG (fK (aW 4 pF (aD (aB 0) (aD (aB 1) (aD (aE aO Ah1 Al3) (aD (aE aO Ah1 Al3) aH))))))) Af3 bQ)
 (aP (aY [] (dM [3] (gS jJ (aB 0)) (aI 3) bY (aU Ah2)) (aI 2))
 (aP (cZ (fK (bU (kN true) (aD (dM [4] (fP eZ (aD Ah6 aH)) (aI 4) bY (aE (inT false) (aE aO (aB 2) (aB 4)) (yA tJ (aB 2) lD (lH (aB 4))))) aH))) Af3 bQ)
 (bG [] (aE ltT (bU br8 (aD (dM [3] (gS jJ (aB 0)) (aI 3) bY (aU (aE aO (aB 3) Al5))) aH)) Al3))))))
def nK:List T->Res T:=λts=>bN (qQ (cD 5 ts))
def oX:Fr->bS:=
 (cZ (bH (aE fT (aE aO (aW 2 jM Ag7) Al3) (dC (.str "ring")))) oH bQ)
def oZ:List T->Res T:=λts=>bN (oX (cD 2 ts))
def tZ:Fr->bS:=
 (aP (aY [] Af7 (aI 1))
 (aP (aY [] (dM [3] (gS jJ (fE Ak9 (aB 0))) (aI 3) bY Aj6) (aI 2))
 (aP (jX 2 [] dH (aE bR (aE pP (eK (aD (aU Ag2) aH)) (aB 1)) (eK Ai6)))
 (aP (fR (fP eZ (aD (aB 1) aH)) (aI 3) (sU 2 [] Al3 (pIx 2 dH (aB 3)) (aB 3)))
 (bG [2] (aB 2))))))
def sV:List T->Res T:=λts=>bN (tZ (cD 4 ts))
def xE:Fr->bS:=
 (aP (bu7 (aW 2 oZ Ag7))
 (aP (aY [] Af7 (aI 2))
 (aP (aY [] (aW 1 sV (aD (aB 0) aH)) (aI 3))
 (aP (fR (gS vS (aB 1)) (aI 4) (aP (aY [] (aW 2 dL (aD Ah3 (aD (aB 2) aH))) (aI 5))
 (aP (aY [] (aW 2 dL Aj5) (aI 6))
 (sU 3 [] (bU kM Ag1) (pIx 3 dH (aB 5)) (aB 6)))))
 (aP (fR (fP eZ Ah7) (aI 7) (fR (fP eZ Ah7) (aI 5) (fR (fP eZ Ah7) (aI 6) (sU 3 [] (bU kM Af8) (pIx 3 dH (aB 5)) (aB 6)))))
 (bG [3] (aB 3)))))))
def wO:List T->Res T:=λts=>bN (xE (cD 8 ts))
def qM:Fr->bS:=
 (bG [] (aW 2 wO (aD (aB 0) (aD (aW 2 pW Ag7) aH))))
def fZ:List T->Res T:=λts=>bN (qM (cD 2 ts))
def wT:Fr->bS:=
 (aP (aY [] (aW 2 fZ Ag7) (aI 2))
 (aP (aY [] Af7 (aI 3))
 (bG [] (dM [4] (fP eZ (aD (aB 3) aH)) (aI 4) bY Ai2))))
def nC:List T->Res T:=λts=>bN (wT (cD 5 ts))
def pH:Fr->bS:=
 (bG [] (bU tI (aD (dM [2,3] (gS jJ (aB 1)) (eX Af6) bY (aE cV (aB 3) Aj3)) aH)))
def kH:List T->Res T:=λts=>bN (pH (cD 4 ts))
def mC:Fr->bS:=
 (aP (aY [] (aE cV Ag3 Al4) (aI 2))
 (aP (aY [] (aE bR (aB 1) (eK (aD (dF (aD (aU (aB 2)) Ai6)) aH))) (aI 3))
 (bG [] (dM [4] (fP eZ (aD (aB 2) aH)) (aI 4) bY (aW 2 kH Ak2)))))
def mE:List T->Res T:=λts=>bN (mC (cD 5 ts))
def qX:Fr->bS:=
 (aP (aY [] (aW 2 fZ Ag7) (aI 4))
 (aP (aY [] Af7 (aI 5))
 (aP (cZ (fG (bH (nN lM lM (aE cV Al3 (aE aO (aE aO (aB 4) (aB 2)) (aB 5))) (aB 3) (aE aO (aE aO (aB 4) (aB 5)) (aB 2))))) oH bQ)
 (bG [] (aW 2 mE (aD (aB 4) (aD (eK (aD (dF (aD (aU (aB 2)) (aD (aU (aB 3)) aH))) aH)) aH)))))))
def kX:List T->Res T:=λts=>bN (qX (cD 6 ts))
def rC:Fr->bS:=
 (aP (aY [] (eK aH) (aI 4))
 (aP (fR (fP eZ (aD Ah6 aH)) (aI 5) (aP (aY [] (aU (aE aO (aB 2) (aB 5))) Ai5)
 (fR (fP eZ Ak0) (aI 8) (aP Ah0
 (jX 4 [] dH (aW 4 kX (aD (aB 0) (aD (aB 1) (aD (aB 5) (aD (aB 9) aH))))))))))
 (bG [4] (aB 4))))
def qP:List T->Res T:=λts=>bN (rC (cD 10 ts))
def ai6:Fr->bS:=
 (aP (cZ (sF (bH (aE yQ Ah6 Af7)) (fG (fK (bU (kN false) (aD (dM [4] (gS jJ (aB 2)) (aI 4) bY (aW 1 lG (aD (aB 4) aH))) aH))))) Af3 bQ)
 (aP (aY [] (aE bR (aB 2) (eK Ai6)) (aI 3))
 (bG [] (bU (kN false) (aD (dM [5] (gS jJ (aW 2 pW Ag7)) (aI 5) bY (aW 2 oK (aD (aB 5) (aD (aB 3) aH)))) aH)))))
def xQ:List T->Res T:=λts=>bN (ai6 (cD 6 ts))
def vB:Fr->bS:=
 (aP (fR (gS vS (aB 1)) (eX Ah5) (aP (aY [] Al3 (aI 6))
 (aP (aY [] Al3 (aI 7))
 (aP (cZ Ai7 (aY [] (aU Aj3) (aI 6)) bQ)
 (aP Ak3
 (cZ (bH (aE gtT (aB 7) (aE bR (aB 6) (aB 4)))) Af3 bQ))))))
 (bG [] (dC (.bl true))))
def vH:List T->Res T:=λts=>bN (vB (cD 8 ts))
def oE:Fr->bS:=
 (aP (cZ (sF (fG (fK (bU oF (aD (aB 0) (aD (dC (.ty "list")) aH))))) (sF (bH (aE yQ Ag3 (aB 1))) (fG (fK (bU (kN false) (aD (dM [3] (gS jJ (aB 0)) (aI 3) bY (aW 1 jF (aD (aB 3) aH))) aH)))))) Af3 bQ)
 (bG [] (aW 2 vH (aD (aB 0) (aD (aB 2) aH)))))
def gF:List T->Res T:=λts=>bN (oE (cD 4 ts))
def oY:Fr->bS:=
 (aP (fR (fP eZ (aD Ah6 aH)) (aI 5) (aP (cZ (sF (fG (fK (aW 3 gF (aD (aE aO (aB 2) (aB 5)) Ai1)))) (fG (fK (aW 3 xQ (aD (aB 0) (aD (aB 1) (aD (aE aO (aB 2) (aB 5)) aH))))))) Af3 bQ)
 (aP (aY [] (aU (aE aO (aB 2) (aE cQ (aE bR (aE nF (dC (.int 7)) (aB 5)) (dC (.int 3))) Ah6))) (aI 6))
 (aP (aY [] (dM [9] (fP eZ (aD (aB 3) aH)) (aI 9) bY (bU kM Ag4)) (aI 7))
 (aP (aY [] (dM [9] (fP eZ (aD (aB 3) aH)) (aI 9) bY (bU tI Ag4)) (aI 8))
 (aP (cZ (sF (fG (fK (aW 3 gF (aD (aB 7) Ai1)))) (fG (fK (aW 3 gF (aD (aB 8) Ai1))))) Af3 bQ)
 (cZ (sF (fG (fK (aW 3 xQ (aD (aB 0) (aD (aB 1) (aD (aB 7) aH)))))) (fG (fK (aW 3 xQ (aD (aB 0) (aD (aB 1) (aD (aB 8) aH))))))) Af3 bQ)))))))
 (bG [] (dC (.bl true))))
def pO:List T->Res T:=λts=>bN (oY (cD 10 ts))
def wV:Fr->bS:=
 (bG [] (dM [2,3] (gS jJ (aW 2 nC Ag7)) (eX Af6) bY (aU (aB 2))))
def wU:List T->Res T:=λts=>bN (wV (cD 4 ts))
def aw2:Fr->bS:=
 (bG [] (dM [2,3] (gS jJ (aW 2 nC Ag7)) (eX Af6) bY (aU (aB 3))))
def ax2:List T->Res T:=λts=>bN (aw2 (cD 4 ts))
def vQ:Fr->bS:=
 (aP (cZ (bH (aE fT (aB 1) (eK aH))) (bG [] (dC (.bl true))) bQ)
 (aP (aY [] (aE cQ (aB 3) (bU cY (aD (aB 1) aH))) (aI 4))
 (aP (aY [] (aW 2 nC (aD (aB 0) (aD (aE bR (yA tJ (aB 1) lD (lH (aB 4))) (yA tJ (aB 1) (lH (aE bR (aB 4) Al4)) lD)) aH))) (aI 5))
 (bG [] (bU (kN false) (aD (dM [6] (fP eZ (aD Ah6 aH)) (aI 6) bY Ag6) aH))))))
def qK:List T->Res T:=λts=>bN (vQ (cD 7 ts))
def qV:Fr->bS:=
 (aP (fR (gS vS (aB 1)) (aI 3) (fR (fP eZ (aD (bU cY (aD (aB 3) aH)) aH)) (aI 4) Aj1))
 (bG [] (dC (.bl true))))
def qU:List T->Res T:=λts=>bN (qV (cD 5 ts))
def bq7:Fr->bS:=
 (aP (aY [] (aW 2 vM (aD (aB 0) (aD (dC (.int 8)) aH))) (aI 1))
 (aP (aY [] (aW 2 sP (aD (aE iX (aW 2 jV (aD (aB 0) (aD Al4 aH))) (dC (.int 32))) (aD (aB 1) aH))) (aI 2))
 (aP (aY [] (aW 4 qO (aD (yA tJ (aB 0) (lH Al5) (lH (dC (.int 18)))) (aD (aB 1) (aD (aE fT (aE cQ (aW 2 jV (aD (aB 0) (aD Al4 aH))) (dC (.int 4))) Al4) (aD (aB 2) aH))))) (aI 3))
 (aP (aY [] (aW 1 qY (aD (aB 1) aH)) (aI 4))
 (aP (aY [] (bw7 (aW 2 xN (aD (aB 4) (aD (aB 3) aH)))) (aI 5))
 (aP (aY [] (aW 2 vI (aD (aB 1) (aD (aB 3) aH))) (aI 6))
 (aP (aY [] (bU cY (aD Af4 aH)) (aI 7))
 (aP (aY [] (aE cQ (aE iX (aW 2 jV (aD (aB 0) (aD Al4 aH))) (dC (.int 4))) (aE ah0 (dC (.int 10)) (dC (.int 9)))) (aI 8))
 (aP (aY [] (aW 2 mT Aj2) (eX (bE (aI 9) (bE (aI 10) fF))))
 (aP (cZ (bH (aE fT (aB 9) (dC (.str "ring")))) (aP (aY [] (bU tF (aD (dM [16] (gS jJ (aB 10)) (aI 16) (bH (aE iA Ah8 Al6)) (aU Ah8)) aH)) (aI 11))
 (bG [] (pA (aW 2 nK (aD (aB 10) (aD (aB 6) aH))) (aE fT (aE aO (aW 2 mT (aD (aB 4) (aD (dM [17] (gS jJ (aB 11)) (aI 17) bY (aU (aE aO (aB 5) (aB 17)))) aH))) Al3) (dC (.str "ring")))))) bQ)
 (aP (aY [] (aW 2 nC Aj2) (aI 12))
 (aP (aY [] (aW 4 qP (aD (aB 4) (aD (aB 5) (aD (aB 12) (aD (aB 8) aH))))) (aI 13))
 (aP (cZ (fG (fK (aW 5 pO (aD (aB 4) (aD (aB 5) (aD (aB 13) (aD (aB 7) (aD (aB 6) aH)))))))) Af3 bQ)
 (aP (aY [] (aW 2 wU Aj2) (aI 14))
 (aP (aY [] (aW 2 ax2 Aj2) (aI 15))
 (aP (cZ (sF (fG (fK (aW 3 gF (aD (aB 14) (aD (aB 7) (aD (aB 6) aH)))))) (fG (fK (aW 3 gF (aD (aB 15) (aD (aB 7) (aD (aB 6) aH))))))) Af3 bQ)
 (bG [] (pA (aW 3 qU (aD (aB 14) (aD (aB 13) (aD (aB 15) aH)))) (aW 4 qK (aD (aB 4) (aD (aB 5) (aD (aB 12) (aD (aB 8) aH)))))))))))))))))))))))
def bp7:List T->Res T:=λts=>bN (bq7 (cD 18 ts))
abbrev ay8:Stmt:=dN 85
abbrev aw6:Stmt:=dN 87
abbrev ad7:Stmt:=dN 86
abbrev ag7:Stmt:=dN 88
abbrev bs5:Stmt:=dN 91
abbrev af5:Stmt:=dN 92
abbrev bl0:Stmt:=dN 93
abbrev ad5:Stmt:=dN 89
abbrev ai5:Stmt:=dN 90
abbrev az3:Stmt:=dN 94
abbrev bq0:Stmt:=dN 15
abbrev zJ:Stmt:=dN 16
abbrev ay6:Stmt:=dN 54
abbrev ab4:Stmt:=dN 17
abbrev bt4:Stmt:=dN 18
abbrev aj7:Stmt:=dN 55
abbrev aa9:Stmt:=dN 44
abbrev bc0:Stmt:=dN 56
abbrev bx0:Stmt:=dN 46
abbrev av4:Stmt:=dN 57
abbrev mN:Stmt:=au1 (dN 58) 0
abbrev am3:Stmt:=dN 96
abbrev ck0:Stmt:=dN 72
abbrev bl5:Stmt:=dN 73
abbrev lL:Stmt:=au1 (dN 58) 1
abbrev br5:Stmt:=dN 45
abbrev cu0:Stmt:=dN 19
abbrev fI:Stmt:=au1 (dN 62) 0
abbrev au4:Stmt:=dN 74
abbrev aw0:Stmt:=dN 71
abbrev al4:Stmt:=dN 47
abbrev ar1:Stmt:=dN 75
abbrev ab1:Stmt:=dN 76
abbrev yE:Stmt:=dN 77
abbrev ag1:Stmt:=dN 78
abbrev ao3:Stmt:=dN 79
abbrev zP:Stmt:=dN 80
abbrev ax0:Stmt:=dN 81
abbrev ae7:Stmt:=dN 83
abbrev ak9:Stmt:=dN 97
abbrev ah7:Stmt:=dN 95
abbrev eU:Stmt:=au1 (dN 62) 1
abbrev eD:Stmt:=au1 (dN 62) 2
abbrev an1:Stmt:=dN 9
abbrev ak4:Stmt:=dN 10
abbrev al9:Stmt:=dN 11
abbrev bg0:Stmt:=dN 21
abbrev bc5:Stmt:=dN 22
abbrev aw3:Stmt:=dN 24
abbrev av3:Stmt:=dN 25
abbrev az4:Stmt:=dN 26
abbrev bg5:Stmt:=dN 27
abbrev ab7:Stmt:=dN 98
abbrev ax3:Stmt:=dN 101
abbrev aa1:Stmt:=dN 102
abbrev as3:Stmt:=dN 103
abbrev as1:Stmt:=dN 28
abbrev ap4:Stmt:=dN 29
abbrev af9:Stmt:=dN 30
abbrev au3:Stmt:=dN 31
abbrev as9:Stmt:=dN 33
abbrev ak1:Stmt:=dN 36
abbrev wJ:Stmt:=dN 37
abbrev al3:Stmt:=dN 38
abbrev an3:Stmt:=dN 104
abbrev ca4:Stmt:=dN 23
abbrev av6:Stmt:=dN 99
abbrev yV:Stmt:=dN 100
abbrev ah1:Stmt:=dN 105
abbrev bj0:Stmt:=dN 34
abbrev cz0:Stmt:=dN 35
abbrev az6:Stmt:=dN 107
abbrev ar3:Stmt:=dN 106
abbrev xH:Stmt:=dN 108
end
structure Txt (w:World) (K:A5) (cn:aa) (mg:ac) (Am0 Am2 Am3 Am5 Am1 Al8 Am4 Am6 Al9:Addr) (sL xU iU:ay):Prop where
 cu7:mg "abs"=none
 rH:mg "all"=none
 fv2:mg "any"=none
 db2:mg "bool"=none
 dx6:mg "divmod"=none
 cb3:mg "enumerate"=none
 dr8:mg "int"=none
 jO:mg "isinstance"=none
 dO:mg "len"=none
 mQ:mg "list"=none
 aj3:mg "max"=none
 uI:mg "min"=none
 eC:mg "range"=none
 ds8:mg "set"=none
 db7:mg "sorted"=none
 fw2:mg "str"=none
 fu2:mg "sum"=none
 ea3:mg "tuple"=none
 dq8:mg "zip"=none
 g_DARKEST:zH mg "DARKEST" (.int 1000000)
 g_FARTHEST_END:zH mg "FARTHEST_END" (.int 3000)
 g_FARTHEST_YEAR:zH mg "FARTHEST_YEAR" (.int 4000)
 g_LETTERS:zH mg "LETTERS" (.str "abcdefghijklmnopqrstuvwxyz")
 g_LONGEST_REIGN:zH mg "LONGEST_REIGN" (.int 100)
 g_LONGEST_SPAN:zH mg "LONGEST_SPAN" (.int 300)
 g_MOST_AGES:zH mg "MOST_AGES" (.int 60)
 g_MOST_INKS:zH mg "MOST_INKS" (.int 6)
 g_MOST_LETTERS_archives:zH mg "MOST_LETTERS_archives" (.int 8)
 g_MOST_LETTERS_words:zH mg "MOST_LETTERS_words" (.int 8)
 g_MOST_REIGNS:zH mg "MOST_REIGNS" (.int 8)
 d_NUMBERS:ac2 w K mg "NUMBERS" sL
 g_NUMBERS:GD K cn kt_NUMBERS sL
 d_PARTS:ac2 w K mg "PARTS" xU
 g_PARTS:GD K cn kt_PARTS xU
 nI:cn "Archive"=some Am0
 qB:Cls K Am0
 yT:cn "Ink"=some Am2
 ay1:Cls K Am2
 rS:cn "Reign"=some Am3
 uY:Cls K Am3
 rQ:cn "Under"=some Am5
 uW:Cls K Am5
 nJ:cn "Between"=some Am1
 qA:Cls K Am1
 rP:cn "After"=some Al8
 uV:Cls K Al8
 uZ:cn "Same"=some Am4
 xV:Cls K Am4
 oW:cn "Within"=some Am6
 sM:Cls K Am6
 rV:cn "Apart"=some Al9
 uX:Cls K Al9
 ap8:NoAttr K Am0 "first"
 ci3:NoAttr K Am2 "high"
 bh7:NoAttr K Am3 "high"
 bk7:NoAttr K Am5 "high"
 bh1:NoAttr K Am1 "high"
 bn6:NoAttr K Al8 "high"
 cv1:NoAttr K Am4 "high"
 by3:NoAttr K Am6 "high"
 bu6:NoAttr K Al9 "high"
 bz0:NoAttr K Am0 "inks"
 aw5:NoAttr K Am0 "letters"
 ct7:NoAttr K Am2 "low"
 cw1:NoAttr K Am3 "low"
 co1:NoAttr K Am5 "low"
 bd4:NoAttr K Am1 "low"
 cl1:NoAttr K Al8 "low"
 cd3:NoAttr K Am4 "low"
 bt6:NoAttr K Am6 "low"
 cy1:NoAttr K Al9 "low"
 ax5:NoAttr K Am0 "present"
 as6:NoAttr K Am0 "reigns"
 bs6:NoAttr K Am2 "spoken"
 bm1:NoAttr K Am3 "spoken"
 bb1:NoAttr K Am5 "spoken"
 at6:NoAttr K Am1 "spoken"
 bl1:NoAttr K Al8 "spoken"
 bb4:NoAttr K Am4 "spoken"
 at8:NoAttr K Am6 "spoken"
 bi1:NoAttr K Al9 "spoken"
 ca3:NoAttr K Am2 "text"
 bj7:NoAttr K Am3 "text"
 br6:NoAttr K Am5 "text"
 ba1:NoAttr K Am1 "text"
 bf7:NoAttr K Al8 "text"
 cq1:NoAttr K Am4 "text"
 bw3:NoAttr K Am6 "text"
 bq6:NoAttr K Al9 "text"
 cq7:dW K mg "_law_cell" ay8
 cn3:dW K mg "_law_names" aw6
 cj3:dW K mg "_law_whirl" ad7
 ce3:dW K mg "_law_frame" ag7
 dz1:dW K mg "_law_row" bs5
 cn1:dW K mg "_law_hidden" af5
 co7:dW K mg "_law_free" bl0
 cu1:dW K mg "_law_of_one" ad5
 cx1:dW K mg "_law_of_two" ai5
 ba7:dW K mg "_law_sayings" az3
 cp7:dW K mg "is_whole" bq0
 bo1:dW K mg "is_whole_from" zJ
 cm3:dW K mg "are_years" ay6
 ca2:dW K mg "is_made_of" ab4
 dt1:dW K mg "is_name" bt4
 cl3:dW K mg "are_names" aj7
 cn7:dW K mg "is_table" aa9
 ca8:dW K mg "are_inks" bc0
 cc8:dW K mg "is_reign" bx0
 cm1:dW K mg "are_reigns" av4
 bx6:dW K mg "_law_archive" am3
 dv6:dW K mg "is_due" ck0
 dw1:dW K mg "are_due" bl5
 da2:dW K mg "ages_of" br5
 dw6:dW K mg "spaced" cu0
 cz1:dW K mg "ink_saying" au4
 bo3:dW K mg "reign_called" aw0
 ck1:dW K mg "reign_year" al4
 bc4:dW K mg "reign_saying" ar1
 br3:dW K mg "under_saying" ab1
 an8:dW K mg "between_saying" yE
 bt3:dW K mg "after_saying" ag1
 bd7:dW K mg "same_saying" ao3
 bf1:dW K mg "within_saying" zP
 bf4:dW K mg "apart_saying" ax0
 cf3:dW K mg "saying_of" ae7
 cw7:dW K mg "_law_heap" ak9
 cc3:dW K mg "_law_steps" ah7
 bu3:dW K mg "saying_steps" an1
 cp1:dW K mg "span_steps" ak4
 cb8:dW K mg "steps_of" al9
 cv7:dW K mg "place_of" bg0
 du1:dW K mg "is_kept" bc5
 bo6:dW K mg "raise_years" aw3
 bv6:dW K mg "ring_behind" av3
 cb2:dW K mg "settled_by" az4
 dy1:dW K mg "settled" bg5
 ck3:dW K mg "_law_whole" ab7
 bz6:dW K mg "_law_is_step" ax3
 bg4:dW K mg "_law_is_chain" aa1
 bw6:dW K mg "_law_is_ring" as3
 bx3:dW K mg "refuse_rings" as1
 cr1:dW K mg "span_costs" ap4
 cz7:dW K mg "costs_by" af9
 bi7:dW K mg "least_costs" au3
 cr7:dW K mg "years_of" as9
 bq3:dW K mg "least_beside" ak1
 ap6:dW K mg "earliest_beside" wJ
 bb7:dW K mg "dating_with" al3
 bc7:dW K mg "_law_datings" an3
 ec3:dW K mg "holds" ca4
 ch3:dW K mg "_law_holds" av6
 bc1:dW K mg "_law_is_dating" yV
 bv3:dW K mg "_law_together" ah1
 cy7:dW K mg "earliest" bj0
 dz6:dW K mg "latest" cz0
 cg3:dW K mg "_law_wider" az6
 bp6:dW K mg "_law_between" ar3
 cs7:yM K mg "Archive" Am0 "Archive.__init__" mN
 er8:yM K mg "Ink" Am2 "Saying.__init__" fI
 dt6:yM K mg "Reign" Am3 "Saying.__init__" fI
 du6:yM K mg "Under" Am5 "Saying.__init__" fI
 cx7:yM K mg "Between" Am1 "Saying.__init__" fI
 dy6:yM K mg "After" Al8 "Saying.__init__" fI
 eb3:yM K mg "Same" Am4 "Saying.__init__" fI
 dv1:yM K mg "Within" Am6 "Saying.__init__" fI
 da7:yM K mg "Apart" Al9 "Saying.__init__" fI
 ar8:nH K Am0 "table" "Archive.table" lL
 cs1:nH K Am2 "about" "Saying.about" eU
 bs3:nH K Am3 "about" "Saying.about" eU
 be4:nH K Am5 "about" "Saying.about" eU
 as8:nH K Am1 "about" "Saying.about" eU
 ba4:nH K Al8 "about" "Saying.about" eU
 by6:nH K Am4 "about" "Saying.about" eU
 bj1:nH K Am6 "about" "Saying.about" eU
 bp3:nH K Al9 "about" "Saying.about" eU
 be7:nH K Am2 "bounds" "Saying.bounds" eD
 bg1:nH K Am3 "bounds" "Saying.bounds" eD
 bq1:nH K Am5 "bounds" "Saying.bounds" eD
 aq6:nH K Am1 "bounds" "Saying.bounds" eD
 bk1:nH K Al8 "bounds" "Saying.bounds" eD
 bz3:nH K Am4 "bounds" "Saying.bounds" eD
 aq8:nH K Am6 "bounds" "Saying.bounds" eD
 br1:nH K Al9 "bounds" "Saying.bounds" eD
 dx1:ac2 w K mg "MAKERS" iU
 bg7:iU.lookup ("ink":Str)=mg "ink_saying"
 be1:iU.lookup ("reign":Str)=mg "reign_saying"
 bn1:iU.lookup ("under":Str)=mg "under_saying"
 ar6:iU.lookup ("between":Str)=mg "between_saying"
 bp1:iU.lookup ("after":Str)=mg "after_saying"
 bn3:iU.lookup ("same":Str)=mg "same_saying"
 ao8:iU.lookup ("within":Str)=mg "within_saying"
 by0:iU.lookup ("apart":Str)=mg "apart_saying"
section
theorem l1{α:Type}:∀{us:List α},us.length=1->∃a,us=[a]
 |[a],_=>⟨a,rfl⟩
theorem l2{α:Type}:∀{us:List α},us.length=2->∃a b,us=[a,b]
 |[a,b],_=>⟨a,b,rfl⟩
theorem l3{α:Type}:∀{us:List α},us.length=3->∃a b c,us=[a,b,c]
 |[a,b,c],_=>⟨a,b,c,rfl⟩
theorem l4{α:Type}:∀{us:List α},us.length=4->∃a b c d,us=[a,b,c,d]
 |[a,b,c,d],_=>⟨a,b,c,d,rfl⟩
theorem l5{α:Type}:∀{us:List α},us.length=5->∃a b c d e,us=[a,b,c,d,e]
 |[a,b,c,d,e],_=>⟨a,b,c,d,e,rfl⟩
theorem l6{α:Type}:∀{us:List α},us.length=6->∃a b c d e f,us=[a,b,c,d,e,f]
 |[a,b,c,d,e,f],_=>⟨a,b,c,d,e,f,rfl⟩
variable{X:Cx}
def px(K:A5){a b:Expr}{ta tb:TE}{pos:Pos}(ha:PE X a ta)(hb:PE X b tb)(hs:cb5 b:=by exact λ_ _=>rfl)(hK:X.K=K:=by rfl):PE X (.Subscript a b pos) (tOp (rIx K) ta tb):=ff1 (fq3 K hK) ha hb hs
def pz(i:Nat){x:Str}{e:Expr}{te:TE}{pos pos':Pos}{q:ax}{c:Scope}(S:aV X.N q c)(he:PE X e te)(hi:X.N[i]?=some x:=by rfl)(hx:Loc X.env.scope x:=by first|exact .inl rfl|exact .inr rfl)(hs:swapsWith e (some (.Name x pos')) pos.line X.env=pure false:=by rfl)(hf:X.fn x=true\/X.env.scope.names.lookup x=some .local:=by first|exact .inl rfl|exact .inr rfl|assumption):PS X (.Assign [.Name x pos'] e pos) (bw2 te (ag6 i)):=el7 S.nd hi hx he hs hf
def pn(i:Nat){x:Str}{pos:Pos}{q:ax}{c:Scope}(S:aV X.N q c)(hi:X.N[i]?=some x:=by rfl)(hx:Loc X.env.scope x:=by first|exact .inl rfl|exact .inr rfl)(hf:X.fn x=true\/X.env.scope.names.lookup x=some .local:=by first|exact .inl rfl|exact .inr rfl|assumption):PG X (.Name x pos) (ag6 i):=ek2 S.nd hi hx hf
def pf{k n:Nat}{x:Str}{ps:ax}{sp:Sp}{p pos:Pos}{e:Expr}{es:bj}{t:TA}(d:dR X.prog X.w X.K X.mg X.base k x ps sp)(hr:Room n X.A)(ha:PA X (e::es) t)(hk:k<=n:=by decide)(hg:Gl X x:=by rfl)
 (hdb:(x==("__debug__":Str))=false:=by decide)(he:starEach (e::es) X.env=(false,eval e X.env)::starEach es X.env:=by rfl)(hpl:(backTo pos (starEach es X.env)).any (·.1)=false:=by rfl):PE X (.Call (.Name x p) (e::es) [] pos) (cl6 sp t):=ef3 d (hr.mono hk) ha hg hdb he hpl
def aM{e:Expr}{te:TE}(ha:PE X e te)(hs:starEach [e] X.env=[(false,eval e X.env)]:=by rfl):PA X [e] (xJ te al8):=aF ha oP hs
def pc{a b:Expr}{ta tb:TE}{pos:Pos}{op:CmpOp}{r:R2}(ho:OpR X (compareOp op) r)(ha:PE X a ta)(hb:PE X b tb)(h:op≠ .In:=by decide)(h2:op≠ .NotIn:=by decide):PT X (.Compare a [op] [b] pos) (bl7 (tOp r ta tb)):=ds9 ho ha hb (qJ _ h h2)
def oe(K:A5){k:Nat}(hr:Room k X.A)(hK:X.K=K:=by rfl):OpR X (compareOp .Eq) (ci5 K eN):=ez5 K hr X5 hK
def wC(K:A5){o e:Expr}{es:bj}{to:TE}{t:TA}{apos cpos:Pos}(ho:PE X o to)(ha:PA X (e::es) t)(hbase:attributeBase o "append" X.env (eval o X.env)=eval o X.env:=by rfl)
 (hfew:((backTo cpos (starEach (e::es) X.env)).all (λx=>!x.1)&&(backToKw cpos (keywordEach [] X.env)).all (λx=>x.1.isSome)
  &&decide ((e::es).length+([]:List Keyword).length+(if([]:List Keyword).isEmpty then 0 else 1)<30))=true:=by rfl)
 (hline:(apos.endLine==cpos.line)=true:=by rfl)(hs:starEach (e::es) X.env=(false,eval e X.env)::starEach es X.env:=by rfl)(hplain:(backTo cpos (starEach es X.env)).any (·.1)=false:=by rfl)(hK:X.K=K:=by rfl):
 PE X (.Call (.Attribute o "append" apos) (e::es) [] cpos) (tBM K "list" bx2 to t):=av1 K O7 PySem.F.slot_list_append PySem.F.type_list_append co8 ho ha hbase hfew hline hs hplain hK
def pm(ks:az){tg iter elt:Expr}{ifs:bj}{scope:Scope}{pos:Pos}{wi:TI}{g:TG}{tc:TT}{te:TE}(hit:PI X tg iter wi)
 (hg:∀cl C s₀ H₀ ex,PG (oV X scope cl C s₀ H₀ ex) tg g)(hi:∀cl C s₀ H₀ ex,PIf (oV X scope cl C s₀ H₀ ex) ifs tc)(he:∀cl C s₀ H₀ ex,PE (oV X scope cl C s₀ H₀ ex) elt te)(S:CScope X ks scope:=by exact⟨rfl,X0,X0,by rfl,by rfl⟩)(hc:X.calm=true:=by rfl)
 (hs:∀x,foldedSetIterable iter X.env x=pure x:=by intro _;rfl):PE X (.ListComp elt [⟨tg,iter,ifs,0⟩] scope pos) (cq5 ks wi g tc te):=dy9 S hc hit hg hi he hs
def pk(i:Nat){y:Str}{py spos:Pos}{q:ax}{c:Scope}(F:aV X.N q c)(ks:az){tg iter elt:Expr}{ifs:bj}{scope:Scope}{pos:Pos}{wi:TI}{g:TG}{tc:TT}{te:TE}(hit:PI X tg iter wi)
 (hg:∀cl C s₀ H₀ ex,PG (oV X scope cl C s₀ H₀ ex) tg g)(hi:∀cl C s₀ H₀ ex,PIf (oV X scope cl C s₀ H₀ ex) ifs tc)(he:∀cl C s₀ H₀ ex,PE (oV X scope cl C s₀ H₀ ex) elt te)(hi':X.N[i]?=some y:=by rfl)(hy:Loc X.env.scope y:=by first|exact .inl rfl|exact .inr rfl)(S:CScope X ks scope:=by exact⟨rfl,X0,X0,by rfl,by rfl⟩)(hc:X.calm=true:=by rfl)
 (hsw:swapsWith (.ListComp elt [⟨tg,iter,ifs,0⟩] scope pos) (some (.Name y py)) spos.line X.env=pure true:=by rfl)
 (hs:∀x,foldedSetIterable iter X.env x=pure x:=by intro _;rfl)(hf:X.fn y=true\/X.env.scope.names.lookup y=some .local:=by first|exact .inl rfl|exact .inr rfl|assumption):PS X (.Assign [.Name y py] (.ListComp elt [⟨tg,iter,ifs,0⟩] scope pos) spos) (at7 i ks wi g tc te):=cf7 F.nd hi' hy S hc hit hg hi he hsw hs hf
end
section
local macro_rules | `(tactic| walk_at "u") => `(tactic| (intro _ _ _ _ _ _ us hl; first | (obtain ⟨_, e⟩ := l1 hl; subst e; exact rfl) | (obtain ⟨_, _, e⟩ := l2 hl; subst e; exact rfl) | (obtain ⟨_, _, _, e⟩ := l3 hl; subst e; exact rfl) | (obtain ⟨_, _, _, _, e⟩ := l4 hl; subst e; exact rfl) | (obtain ⟨_, _, _, _, _, e⟩ := l5 hl; subst e; exact rfl) | (obtain ⟨_, _, _, _, _, _, e⟩ := l6 hl; subst e; exact rfl)))
local macro_rules | `(tactic| walk_at "s") => `(tactic| exact ⟨rfl, rfl, rfl, by decide +kernel, rfl, by decide +kernel, by decide +kernel⟩)
def cd2:aV ["_law_script","_law_at"] ["_law_script","_law_at"] (aN ay8):=X8
def ay4:aV ["_law_cell_here","_law_some"] ["_law_cell_here"] (aN aw6):=X8
def oO:aV ["_law_number","_law_k","_law_upper","_law_lower","_law_found"] ["_law_number","_law_k"] (aN ad7):=X8
def eI:aV ["_law_script","_law_most","_law_cell_here","_law_span","_law_first","_law_names_here","_law_inks","_law_k","_law_dark","_law_table","_law_j","_law_begin","_law_reigns"] ["_law_script","_law_most"] (aN ag7):=X8
def uD:aV ["_law_cell_here","_law_many","_law_rest","_law_found","_law_k"] ["_law_cell_here","_law_many"] (aN bs5):=X8
def ay3:aV ["_law_cell_here","_law_frame_here","_law_x"] ["_law_cell_here","_law_frame_here"] (aN af5):=X8
def nT:aV ["_law_xs","_law_frame_here","_law_one","_law_other","_law_names_here","_law_low","_law_high"] ["_law_xs","_law_frame_here","_law_one","_law_other"] (aN bl0):=X8
def dS:aV ["_law_number","_law_frame_here","_law_letter","_law_year","_law_name","_law_rest","_law_ink","_law_table","_law_error","_law_dark","_law_ages","_law_age","_law_at","_law_reign","_law_begin","_law_length","_law_low","_law_high"] ["_law_number","_law_frame_here","_law_letter","_law_year"] (aN ad5):=X8
def jT:aV ["_law_number","_law_frame_here","_law_letters","_law_gap","_law_names_here","_law_rest","_law_many","_law_low","_law_high","_law_letter"] ["_law_number","_law_frame_here","_law_letters","_law_gap"] (aN ai5):=X8
def fO:aV ["_law_cells","_law_frame_here","_law_false","_law_hidden_here","_law_many","_law_span","_law_told","_law_cell_here","_law_xs","_law_one","_law_years","_law_other","_law_k"] ["_law_cells","_law_frame_here","_law_false","_law_hidden_here"] (aN az3):=X8
def cl2:aV ["some"] ["some"] (aN bq0):=X8
def ao7:aV ["some","low","high"] ["some","low","high"] (aN zJ):=X8
def bq8:aV ["first","present"] ["first","present"] (aN ay6):=X8
def ak3:aV ["word","signs","most","sign"] ["word","signs","most"] (aN ab4):=X8
def cj5:aV ["word"] ["word"] (aN bt4):=X8
def aj5:aV ["names","least","most","name"] ["names","least","most"] (aN aj7):=X8
def ad0:aV ["some","dark","age"] ["some"] (aN aa9):=X8
def qE:aV ["inks","name","table"] ["inks"] (aN bc0):=X8
def cy2:aV ["begin","length"] ["begin","length"] (aN bx0):=X8
def jS:aV ["reigns","name","begin","length"] ["reigns"] (aN av4):=X8
def jP:aV ["self","first","present","letters","inks","reigns","name","table","begin","length"] ["self","first","present","letters","inks","reigns"] (aN mN):=X8
def pI:aV ["_law_frame_here","_law_inks","_law_name","_law_table"] ["_law_frame_here"] (aN am3):=X8
def aw4:aV ["archive","due","part","ink","reign"] ["archive","due","part"] (aN ck0):=X8
def as2:aV ["archive","word","parts","due","part"] ["archive","word","parts"] (aN bl5):=X8
def rM:aV ["self","name","other","table"] ["self","name"] (aN lL):=X8
def sQ:aV ["table","dark","error","greatest","last","ages","most","age"] ["table","dark","error","greatest"] (aN br5):=X8
def bk4:aV ["parts","part"] ["parts"] (aN cu0):=X8
def eS:aV ["self","archive","word","parts","low","high","names","part","due","name"] ["self","archive","word","parts","low","high"] (aN fI):=X8
def at3:aV ["archive","parts","ages"] ["archive","parts"] (aN au4):=X8
def zZ:aV ["archive","name","reign"] ["archive","name"] (aN aw0):=X8
def bh6:aV ["begin","length","k"] ["begin","length","k"] (aN al4):=X8
def sS:aV ["archive","parts","reign","year"] ["archive","parts"] (aN ar1):=X8
def zK:aV ["archive","parts","reign"] ["archive","parts"] (aN ab1):=X8
def an6:aV ["archive","parts"] ["archive","parts"] (aN yE):=X8
def ai9:aV ["archive","parts"] ["archive","parts"] (aN ag1):=X8
def ba2:aV ["archive","parts"] ["archive","parts"] (aN ao3):=X8
def ap7:aV ["archive","parts"] ["archive","parts"] (aN zP):=X8
def bp0:aV ["archive","parts"] ["archive","parts"] (aN ax0):=X8
def ce1:aV ["archive","word","parts"] ["archive","word","parts"] (aN ae7):=X8
def qD:aV ["_law_archive_here","_law_told","_law_word","_law_parts","_law_letters","_law_bounds"] ["_law_archive_here","_law_told"] (aN ak9):=X8
def jK:aV ["_law_frame_here","_law_told","_law_found","_law_k","_law_letters","_law_low","_law_high","_law_other","_law_letter"] ["_law_frame_here","_law_told"] (aN ah7):=X8
def gP:aV ["self"] ["self"] (aN eU):=X8
def gI:aV ["self"] ["self"] (aN eD):=X8
def lV:aV ["saying","number","letters","bounds","other","steps"] ["saying","number"] (aN an1):=X8
def bw5:aV ["archive","letter"] ["archive","letter"] (aN ak4):=X8
def qI:aV ["archive","sayings","steps","number","saying","letter"] ["archive","sayings"] (aN al9):=X8
def cs2:aV ["end","ground"] ["end","ground"] (aN bg0):=X8
def aw9:aV ["step","years","ground"] ["step","years"] (aN bc5):=X8
def mM:aV ["steps","years","raisers","ground","raised","step"] ["steps","years","raisers"] (aN aw3):=X8
def iR:aV ["raisers","place","ground","turn","ring","end"] ["raisers","place"] (aN av3):=X8
def jR:aV ["archive","steps","ground","years","raisers","raised","turn"] ["archive","steps"] (aN az4):=X8
def ca7:aV ["archive","sayings"] ["archive","sayings"] (aN bg5):=X8
def bw9:aV ["_law_found"] ["_law_found"] (aN ab7):=X8
def av0:aV ["_law_step","_law_steps_here","_law_end"] ["_law_step","_law_steps_here"] (aN ax3):=X8
def lQ:aV ["_law_chain","_law_steps_here","_law_start","_law_end","_law_here","_law_step"] ["_law_chain","_law_steps_here","_law_start","_law_end"] (aN aa1):=X8
def mJ:aV ["_law_ring","_law_steps_here","_law_starts","_law_step","_law_k"] ["_law_ring","_law_steps_here"] (aN as3):=X8
def bv0:aV ["archive","steps"] ["archive","steps"] (aN as1):=X8
def nQ:aV ["archive","ground","costs","letter"] ["archive"] (aN ap4):=X8
def jG:aV ["archive","steps","ground","costs","step","start","end","over"] ["archive","steps"] (aN af9):=X8
def bs2:aV ["archive","sayings"] ["archive","sayings"] (aN au3):=X8
def vF:aV ["archive","sayings","costs","ground","letter"] ["archive","sayings"] (aN as9):=X8
def tG:aV ["costs","given","place","year"] ["costs","given"] (aN ak1):=X8
def lO:aV ["costs","given","ground","grounded","letter"] ["costs","given"] (aN wJ):=X8
def uT:aV ["archive","sayings","letter","year","costs","ground"] ["archive","sayings","letter","year"] (aN al3):=X8
def iT:aV ["_law_archive_here","_law_sayings_here","_law_spans","_law_cell_here","_law_found","_law_letter","_law_least","_law_greatest","_law_k","_law_year"] ["_law_archive_here","_law_sayings_here","_law_spans","_law_cell_here"] (aN an3):=X8
def am2:aV ["archive","sayings","years","grounded","year","step"] ["archive","sayings","years"] (aN ca4):=X8
def iJ:aV ["_law_years","_law_steps_here","_law_start","_law_end","_law_cost","_law_number","_law_here","_law_there"] ["_law_years","_law_steps_here"] (aN av6):=X8
def xZ:aV ["_law_years","_law_many","_law_steps_here","_law_year"] ["_law_years","_law_many","_law_steps_here"] (aN yV):=X8
def iI:aV ["_law_archive_here","_law_sayings_here","_law_datings_here","_law_many","_law_steps_here","_law_k","_law_other","_law_low","_law_high","_law_letter"] ["_law_archive_here","_law_sayings_here","_law_datings_here","_law_many","_law_steps_here"] (aN ah1):=X8
def ao0:aV ["archive","sayings","least","greatest"] ["archive","sayings"] (aN bj0):=X8
def at4:aV ["archive","sayings","least","greatest"] ["archive","sayings"] (aN cz0):=X8
def tT:aV ["_law_archive_here","_law_sayings_here","_law_spans","_law_cell_here","_law_at","_law_more","_law_k"] ["_law_archive_here","_law_sayings_here","_law_spans","_law_cell_here"] (aN az6):=X8
def uU:aV ["_law_first","_law_datings_here","_law_last","_law_years","_law_letter"] ["_law_first","_law_datings_here","_law_last"] (aN ar3):=X8
def iQ:aV ["_law_script","_law_frame_here","_law_hidden_here","_law_told","_law_archive_here","_law_sayings_here","_law_steps_here","_law_many","_law_cell_here","_law_word","_law_thing","_law_numbers","_law_spans","_law_datings_here","_law_first","_law_last","_law_step","_law_k"] ["_law_script"] (aN xH):=X8
variable{P:G1}{w:World}{K:A5}{cn:aa}{mg:ac}{base:Heap}{Am0 Am2 Am3 Am5 Am1 Al8 Am4 Am6 Al9:Addr}{sL xU iU:ay}(T:Txt w K cn mg Am0 Am2 Am3 Am5 Am1 Al8 Am4 Am6 Al9 sL xU iU)
include T
def dm5:lX K cn ["Archive"] "first":=bL T.nI T.qB T.ap8 (jY)
def eb1:lX K cn  Al7  "high":=bL T.yT T.ay1 T.ci3 (bL T.rS T.uY T.bh7 (bL T.rQ T.uW T.bk7 (bL T.nJ T.qA T.bh1 (bL T.rP T.uV T.bn6 (bL T.uZ T.xV T.cv1 (bL T.oW T.sM T.by3 (bL T.rV T.uX T.bu6 (jY))))))))
def dn9:lX K cn ["Archive"] "inks":=bL T.nI T.qB T.bz0 (jY)
def cq6:lX K cn ["Archive"] "letters":=bL T.nI T.qB T.aw5 (jY)
def ey4:lX K cn  Al7  "low":=bL T.yT T.ay1 T.ct7 (bL T.rS T.uY T.cw1 (bL T.rQ T.uW T.co1 (bL T.nJ T.qA T.bd4 (bL T.rP T.uV T.cl1 (bL T.uZ T.xV T.cd3 (bL T.oW T.sM T.bt6 (bL T.rV T.uX T.cy1 (jY))))))))
def cg5:lX K cn ["Archive"] "present":=bL T.nI T.qB T.ax5 (jY)
def ch8:lX K cn ["Archive"] "reigns":=bL T.nI T.qB T.as6 (jY)
def du0:lX K cn  Al7  "spoken":=bL T.yT T.ay1 T.bs6 (bL T.rS T.uY T.bm1 (bL T.rQ T.uW T.bb1 (bL T.nJ T.qA T.at6 (bL T.rP T.uV T.bl1 (bL T.uZ T.xV T.bb4 (bL T.oW T.sM T.at8 (bL T.rV T.uX T.bi1 (jY))))))))
def ez0:lX K cn  Al7  "text":=bL T.yT T.ay1 T.ca3 (bL T.rS T.uY T.bj7 (bL T.rQ T.uW T.br6 (bL T.nJ T.qA T.ba1 (bL T.rP T.uV T.bf7 (bL T.uZ T.xV T.cq1 (bL T.oW T.sM T.bw3 (bL T.rV T.uX T.bq6 (jY))))))))
def dq2:av7 K cn 2 tm_table [(Am0,bO K cn 2 gR)]:=fS T.nI (am7)
def di4:av7 K cn 1 tm_about [(Am2,bO K cn 1 bD),(Am3,bO K cn 1 bD),(Am5,bO K cn 1 bD),(Am1,bO K cn 1 bD),(Al8,bO K cn 1 bD),(Am4,bO K cn 1 bD),(Am6,bO K cn 1 bD),(Al9,bO K cn 1 bD)]:=fS T.yT (fS T.rS (fS T.rQ (fS T.nJ (fS T.rP (fS T.uZ (fS T.oW (fS T.rV (am7))))))))
def cs8:av7 K cn 1 tm_bounds [(Am2,bO K cn 1 aX),(Am3,bO K cn 1 aX),(Am5,bO K cn 1 aX),(Am1,bO K cn 1 aX),(Al8,bO K cn 1 aX),(Am4,bO K cn 1 aX),(Am6,bO K cn 1 aX),(Al9,bO K cn 1 aX)]:=fS T.yT (fS T.rS (fS T.rQ (fS T.nJ (fS T.rP (fS T.uZ (fS T.oW (fS T.rV (am7))))))))
local macro_rules | `(tactic| walk_at "b") => `(tactic| first | exact .inl rfl | exact .inr rfl)
local macro_rules|`(tactic|walk_at "ro")=>do let l←YQ "ey9/ fs2/ ez9/ eq3/ fy3/ fl3/ fx0/ ft3/ fh0/ ef1/ fz2/ ec9/ fu3/ fy2/ fv3/ ei7/";`(tactic|first $[|$l]*)
local macro_rules|`(tactic|walk_at "rc")=>do let l←YQ "fe2/ eo8/ ez8/ fr0/ fn0/ eg4/ fu1/ du5/ di5/ ec4/ fz1/ fd2/ ce2/";`(tactic|first $[|$l]*)
local macro_rules|`(tactic|walk_at "rf")=>do let l←YQ "dm5/9 eb1/9 dn9/9 cq6/9 ey4/9 cg5/9 ch8/9 du0/9 ez0/9";`(tactic|first $[|$l]*)
local macro_rules|`(tactic|walk_at "q")=>do let l←YQ "er7/ er0/ ey8/rr eh5/fr ds5/rr es8/orr fp2/@rruu ev5/ eg8/ RB.chk/r en3/rr ci7/rrrruu ed3/r ew8/cr ek7/r fo2/rrr ef2/ ei0/ en8/ ej8/ fe1/ fm2/ cw4/r es5/r ea6/r en5/rr ej9/rr em4/@r ez3/@r eo6/@r ei2/ ey6/@rru du2/rr dq9/r dc9/r fa3/r fc4/r ev0/r ez2/r eu6/r fk2/rr eu4/rru ej4/nrru ez4/frr ee8/rrr ce4/rrrru df9/ ex0/r dj4/oorrr et1/rr dj9/r fo0/rrr RE.frz/r RE.frz1/r df2/nrr eq1/nr ee1/nr eb0/nr eh0/r dw4/rr";`(tactic|first $[|$l]*)
local macro_rules|`(tactic|walk_at "rn")=>do let l←YQ "ei9/ ew9/ di4/9 cs8/9 dq2/9 Txt.rP/9 Txt.rV/9 Txt.nI/9 Txt.nJ/9 Txt.yT/9 Txt.rS/9 Txt.uZ/9 Txt.rQ/9 Txt.oW/9 Txt.g_NUMBERS/9 Txt.g_PARTS/9";`(tactic|first $[|$l]*)
local macro_rules|`(tactic|walk_at "ru")=>`(tactic|with_unfolding_all exact rfl)
local macro_rules|`(tactic|walk_at "r")=>`(tactic|with_reducible first
 |walk_at "q"
 |exact eh4 _
 |(refine RE.rb (mv := []) ?_; walk_at "r")
 |(apply cj9 <;> walk_at "r")
 |(refine cm4 _ ?_; with_unfolding_all exact rfl)
 |exact fa0 _
 |(apply et3 <;> walk_at "r")
 |exact eh6 _
 |(refine fv1 fh3 ?_ ?_ ?_ <;> walk_at "r")
 |(refine fk1 fa1 ?_; walk_at "r")
 |(refine de7 dk0 et2 ?_ ?_ <;> walk_at "r")
 |(refine de7 do0 ee4 ?_ ?_ <;> walk_at "r")
 |(with_unfolding_all refine cw4 ?_; walk_at "r")
 |(refine dp6 X5 X5 X5 ?_ ?_ ?_ <;> with_unfolding_all exact rfl))
def wZ:dR P w K mg base 1 "_law_cell" ["_law_script","_law_at"] (bO K cn 2 jV):=by
 refine bA (d:=wR) T.cq7 cd2 X6 (λf c A o s H E r=>⟨_,(aJ (bX (pc af6 Ad6 (aQ (bM K) rfl T.dO cU (aM Ad5))) (aK (aR (px K Ad5 Ad6))) bI)
 (aK (aR aG))),by unfold wR;walk_at "r"⟩) rfl Am9
def cq2:dR P w K mg base 1 "_law_names" ["_law_cell_here"] (bO K cn 1 vG):=by
 refine bA (d:=vA) T.cn3 ay4 X6 (λf c A o s H E r=>⟨_,(aJ (pz 1 ay4 (cW (aF cF (aF cF (aF cF (aF cF (aF cF (aF cF (aF cF (aM cF))))))))))
 (aK (aR (aL (bF K) (kL (yC K) Ad6 (kF (aL bV Ad5 aG)) pJ) (kL (yC K) Ad6 pJ (kF (aL bV Ad5 aG))))))),by unfold vA;walk_at "r"⟩) rfl Am9
def gU:dR P w K mg base 1 "_law_whirl" ["_law_number","_law_k"] (bO K cn 2 fQ):=by
 refine bA (d:=vJ) T.cj3 oO X6 (λf c A o s H E r=>⟨_,(aJ (pz 0 oO (aL (bF K) (aL (bF K) (aL bV Ad5 aG) (aL kY aG Ad6)) aG))
 (aJ (qH (aQ (bt8 K) rfl T.dx6 cr9 (aF (aL bV (aL kY Ad5 aG) aG) (aM aG))) (fX K 2 rfl (bK (pn 2 oO) (bK (pn 3 oO) fW))))
 (aJ (pz 4 oO (aL (bF K) (aL (bF K) (aL (bF K) (aL kY Ad7 Ad8) (aL kY aG Ad7)) (aL kY aG Ad8)) Ad6))
 (aK (aR (aL bV (aL kY Ad9 (aL (bF K) (aL bV Ad9 aG) aG)) aG)))))),by unfold vJ;walk_at "r"⟩) rfl Am9
def cm2:dR P w K mg base 2 "_law_frame" ["_law_script","_law_most"] (bO K cn 2 vM):=by
 refine bA (d:=vK) T.ce3 eI X6 (λf c A o s H E r=>⟨_,(aJ (pz 2 eI (aL bV (pf (wZ T:) r (aF Ad5 (aM aG))) (aL au8 aG aG)))
 (aJ (pz 3 eI (px K (cW (aF aG (aF aG (aF aG (aF aG (aF aG (aF aG (aF aG (aM aG))))))))) (aL bV Ad7 aG)))
 (aJ (pz 4 eI (px K (cW (aF (zW wD aG) (aF (aL cJ aG Ad8) (aF (zW wD aG) (aM aG))))) (aL bV (aL gT Ad7 aG) aG)))
 (aJ (pz 5 eI (kL (yC K) (pf (cq2 T:) r (aM (aL gT Ad7 aG))) pJ (kF (aL (bF K) aG (aL bV (aL gT Ad7 aG) Ad6)))))
 (aJ (pz 6 eI (cW oP))
 (aJ (eV E4 rfl (dE rfl T.eC (aM (aL (bF K) aG (aL bV (pf (gU T:) r (aF Ad7 (aM aG))) aG)))) (pn 7 eI) (aJ (pz 8 eI (aL (bF K) aG (aL bV (aL gT Ad7 aG) aG)))
 (aJ (pz 9 eI (cW (aM Ae3)))
 (aJ (eV E4 rfl (dE rfl T.eC (aM (aL bV (pf (gU T:) r (aF Ad7 (aM Ae2))) (px K (cW (aF aG (aM aG))) (aL gT (aL bV (aL gT Ad7 aG) aG) aG))))) (pn 10 eI) (aJ (pz 8 eI (aQ (oJ K) rfl T.aj3 yS (aF aG (aM (aL cJ Ae3 (aL bV (pf (gU T:) r (aF Ad7 (aM (aL (bF K) (aL kY aG Ae5) Ae2)))) aG))))))
 (aK (gA (wC K Ae4 (aM Ae3))))))
 (aK (gA (wC K Ae1 (aM (cH (aF (px K (cW (aF cF (aF cF (aF cF (aF cF (aF cF (aM cF))))))) Ae2) (aM Ae4)))))))))))
 (aJ (pz 11 eI (aL (bF K) (aL cJ Ad9 aG) (aL bV (pf (gU T:) r (aF Ad7 (aM aG))) (aL (bF K) Ad8 aG))))
 (aJ (pz 12 eI (cW (aF (cH (aF cF (aF Ae6 (aM (aL (bF K) aG (aL bV (pf (gU T:) r (aF Ad7 (aM aG))) aG)))))) (aM (cH (aF cF (aF (aL (bF K) Ae6 aG) (aM (aL (bF K) aG (aL bV (pf (gU T:) r (aF Ad7 (aM aG))) aG))))))))))
 (aJ (eV E4 rfl (dE rfl T.eC (aM (aL bV (pf (gU T:) r (aF Ad7 (aM aG))) aG))) (pn 7 eI) (aJ (pz 11 eI (aL cJ (aL (bF K) Ae6 (aL bV (pf (gU T:) r (aF Ad7 (aM (aL (bF K) aG Ae2)))) aG)) aG))
 (aK (gA (av1 K O7 PySem.F.slot_list_insert PySem.F.type_list_insert cq8 Ae7 (aF aG (aM (cH (aF (px K (cW (aF cF (aF cF (aF cF (aF cF (aF cF (aM cF))))))) Ae2) (aF Ae6 (aM (aL (bF K) aG (aL bV (pf (gU T:) r (aF Ad7 (aM (aL (bF K) aG Ae2)))) aG)))))))))))))
 (aK (aR (cH (aF Ad9 (aF (aL (bF K) Ad9 Ad8) (aF Ae0 (aF Ae1 (aM Ae7))))))))))))))))),by unfold vK;walk_at "r"⟩) rfl Am9
def bj4:dR P w K mg base 2 "_law_row" ["_law_cell_here","_law_many"] (bO K cn 2 sJ):=by
 refine bA (d:=zQ) T.dz1 uD X6 (λf c A o s H E r=>⟨_,(aJ (pz 2 uD (aL bV (aQ (al5 K) rfl T.cu7 cx0 (aM Ad5)) (aL au8 aG aG)))
 (aJ (pz 3 uD (cW oP))
 (aJ (eV E4 rfl (dE rfl T.eC (aM Ad6)) (pn 4 uD) (aK (bX (PW.pt (mD (pc af6 Ad5 aG) (mO (pc dv7 Ad5 (aL au8 aG aG))))) (aJ (gA (wC K Ad8 (aM (aL bV Ad7 aG))))
 (aK (pz 2 uD (aL gT Ad7 aG)))) (aK (gA (wC K Ad8 (aM (pf (gU T:) r (aF (aL (bF K) (pf (gU T:) r (aF Ad5 (aM Ad9))) Ad5) (aM Ad9))))))))))
 (aK (aR Ad8))))),by unfold zQ;walk_at "r"⟩) rfl Am9
def bx9:dR P w K mg base 3 "_law_hidden" ["_law_cell_here","_law_frame_here"] (bO K cn 2 sP):=by refine bA (d:=sT) T.cn1 ay3 X6 (λf c A o s H E r=>⟨_,(aK (aR (pm [2] (fY K (pf (bj4 T:) r (aF Ad5 (aM (aQ (bM K) rfl T.dO cU (aM (px K Ad6 aG))))))) (λ_ _ _ _ _=>(pn 2 ay3)) (λ_ _ _ _ _=>cR) (λ_ _ _ _ _=>(aL (bF K) (px K Ad6 aG) (aL bV Ad7 (aL (bF K) (aL cJ (px K Ad6 aG) (px K Ad6 aG)) aG))))))),by unfold sT;walk_at "r"⟩) rfl Am9
def ce7:dR P w K mg base 1 "_law_free" ["_law_xs","_law_frame_here","_law_one","_law_other"] (bO K cn 4 tR):=by
 refine bA (d:=wX) T.co7 nT X6 (λf c A o s H E r=>⟨_,(aJ (pz 4 nT (cW (aF (px K (px K Ad6 aG) Ad7) (aM (px K (px K Ad6 aG) Ad8)))))
 (aJ (bX (PW.pt (mD (pc (oe K r) Ad7 Ad8) (mO (pc (oe K r) (aL bV (px K Ad5 aG) aG) aG)))) (aJ (pz 5 nT (aL (bF K) (aL cJ (px K Ad6 aG) aG) (aL bV (px K Ad5 aG) (aL (bF K) (aL cJ (px K Ad6 aG) (px K Ad6 aG)) aG))))
 (aJ (pz 6 nT (aL (bF K) Ae0 (aL bV (px K Ad5 aG) aG)))
 (aK (aR (cH (aF cF (aF (aL (bF K) (kL (yC K) Ad9 pJ (kF aG)) (cW (aF Ae0 (aM Ae1)))) (aF (cH (aM Ad7)) (aM (cH (aF Ae0 (aM Ae1)))))))))))) bI)
 (aJ (pz 5 nT (aL cJ (aL bV (px K Ad5 aG) aG) aG))
 (aJ (pz 6 nT (aQ (jH K) rfl T.uI oS (aF aG (aM (aL (bF K) Ae0 (aL bV (px K Ad5 aG) aG))))))
 (aK (aR (cH (aF cF (aF (aL (bF K) Ad9 (cW (aF Ae0 (aM Ae1)))) (aF (cH (aF Ad7 (aM Ad8))) (aM (cH (aF Ae0 (aM Ae1)))))))))))))),by unfold wX;walk_at "r"⟩) rfl Am9
def bi9:dR P w K mg base 1 "_law_of_one" ["_law_number","_law_frame_here","_law_letter","_law_year"] (bO K cn 4 oU):=by
 refine bA (d:=tL) T.cu1 dS X6 (λf c A o s H E r=>⟨_,(aJ (pz 4 dS (px K (px K Ad6 aG) Ad7))
 (aJ (pz 5 dS (aL gT Ad5 aG))
 (aJ (bX (pc (oe K r) (aL bV Ad5 aG) aG) (aJ (qH (px K (px K Ad6 aG) (aL bV Ae0 (aQ (bM K) rfl T.dO cU (aM (px K Ad6 aG))))) (fX K 2 rfl (bK (pn 6 dS) (bK (pn 7 dS) fW))))
 (aJ (pz 8 dS (aL bV (aL gT Ae0 aG) aG))
 (aJ (pz 9 dS (px K Ae2 (aQ (jH K) rfl T.uI oS (aF (aL cJ (px K Ad6 aG) Ad8) (aM (aL cJ (aQ (bM K) rfl T.dO cU (aM Ae2)) aG))))))
 (aJ (pz 9 dS (aQ (oJ K) rfl T.aj3 yS (aF aG (aM (aL cJ (aL (bF K) Ae4 (aL bV (aL gT Ae0 aG) (aL (bF K) (aL kY aG Ae3) aG))) Ae3)))))
 (aJ (pz 10 dS (cW oP))
 (aJ (eV E4 rfl (dE rfl T.eC (aM (aL (bF K) (aL cJ (px K Ad6 aG) (px K Ad6 aG)) aG))) (pn 11 dS) (aK (bX (pc jE (aQ (al5 K) rfl T.cu7 cx0 (aM (aL cJ (px K Ae2 (aQ (jH K) rfl T.uI oS (aF Ae6 (aM (aL cJ (aQ (bM K) rfl T.dO cU (aM Ae2)) aG))))) Ae4))) Ae3) (aK (gA (wC K Ae5 (aM Ae6)))) bI)))
 (aK (aR (cH (aF cF (aF (cW (aF Ad9 (aF Ae1 (aF Ae4 (aM Ae3))))) (aF (cH (aM Ad7)) (aM (cH (aF (aL cJ (px K Ad6 aG) (px K Ae5 (zW wD aG))) (aM (aL cJ (px K Ad6 aG) (px K Ae5 aG)))))))))))))))))) bI)
 (aJ (pz 12 dS (aL bV (aL gT Ae0 aG) (aQ (bM K) rfl T.dO cU (aM (px K Ad6 aG)))))
 (aJ (eV E4 rfl (fY K (aL (bF K) (kL (yC K) (px K Ad6 aG) (kF Ae7) pJ) (kL (yC K) (px K Ad6 aG) pJ (kF Ae7)))) (fX K 3 rfl (bK (pn 13 dS) (bK (pn 14 dS) (bK (pn 15 dS) fW)))) (aK (bX (PW.pt (wF (pc (oe K r) (aL bV Ad5 aG) aG) (rZ (yB jE af6 Ae9 Ad8 (aL (bF K) Ae9 (pv 15)))))) (aJ (bX (pc (oe K r) (aL bV Ae0 aG) aG) (aK (aR (cH (aF cF (aF (cW (aF Ad9 (aF (pv 13) (aM (aL (bF K) (aL cJ Ad8 Ae9) aG))))) (aF (cH (aM Ad7)) (aM (cH (aF Ad8 (aM Ad8)))))))))) bI)
 (aK (aR (cH (aF cF (aF (cW (aF Ad9 (aM (pv 13)))) (aF (cH (aM Ad7)) (aM (cH (aF Ae9 (aM (aL cJ (aL (bF K) Ae9 (pv 15)) aG)))))))))))) bI)))
 (aJ (pz 16 dS (aQ (oJ K) rfl T.aj3 yS (aF (zW wD aG) (aM (aL cJ Ad8 (aL bV Ae0 aG))))))
 (aJ (pz 17 dS (aQ (jH K) rfl T.uI oS (aF aG (aM (aL (bF K) Ad8 (aL bV (aL gT Ae0 aG) aG))))))
 (aK (aR (cH (aF cF (aF (cW (aF Ad9 (aF (pv 16) (aM (pv 17))))) (aF (cH (aM Ad7)) (aM (cH (aF (pv 16) (aM (pv 17)))))))))))))))))),by unfold tL;walk_at "r"⟩) rfl Am9
def bj8:dR P w K mg base 1 "_law_of_two" ["_law_number","_law_frame_here","_law_letters","_law_gap"] (bO K cn 4 oN):=by
 refine bA (d:=sW) T.cx1 jT X6 (λf c A o s H E r=>⟨_,(aJ (pk 4 jT [9] (fY K Ad7) (λ_ _ _ _ _=>(pn 9 jT)) (λ_ _ _ _ _=>cR) (λ_ _ _ _ _=>(px K (px K Ad6 aG) Ae4)))
 (aJ (pz 5 jT (aL gT Ad5 aG))
 (aJ (bX (PW.pt (wF (pc (oe K r) Ad8 aG) (rZ (pc (oe K r) (aL bV Ad5 aG) aG)))) (aK (aR (cH (aF cF (aF Ad9 (aF Ad7 (aM (cH (aF aG (aM aG)))))))))) bI)
 (aJ (bX (PW.pt (wF (pc bs7 Ad8 aG) (rZ (pc af6 (aL bV Ad5 aG) aG)))) (aK (aR (cH (aF cF (aF Ad9 (aF Ad7 (aM (cH (aF aG (aM eH)))))))))) bI)
 (aJ (bX (PW.pt (wF (pc dv7 Ad8 aG) (rZ (pc (oe K r) (aL bV Ad5 aG) aG)))) (aJ (pz 6 jT (aQ (jH K) rfl T.uI oS (aF aG (aM (aL (bF K) Ad8 (aL bV Ae0 aG))))))
 (aK (aR (cH (aF cF (aF (aL (bF K) Ad9 (cW (aM Ae1))) (aF Ad7 (aM (cH (aF aG (aM Ae1))))))))))) bI)
 (aJ (pz 7 jT (aQ (oJ K) rfl T.aj3 yS (aF (zW wD aG) (aM (aL cJ Ad8 (aL bV Ae0 aG))))))
 (aJ (pz 8 jT (aQ (jH K) rfl T.uI oS (aF aG (aM (aL (bF K) Ad8 (aL bV (aL gT Ae0 aG) aG))))))
 (aK (aR (cH (aF cF (aF (aL (bF K) Ad9 (cW (aF Ae2 (aM Ae3)))) (aF Ad7 (aM (cH (aF Ae2 (aM Ae3))))))))))))))))),by unfold sW;walk_at "r"⟩) rfl Am9
def bt5:dR P w K mg base 3 "_law_sayings" ["_law_cells","_law_frame_here","_law_false","_law_hidden_here"] (bO K cn 4 qO):=by
 refine bA (d:=rE) T.ba7 fO X6 (λf c A o s H E r=>⟨_,(aJ (pz 4 fO (aQ (bM K) rfl T.dO cU (aM (px K Ad6 aG))))
 (aJ (pz 5 fO (aL cJ (px K Ad6 aG) (px K Ad6 aG)))
 (aJ (pz 6 fO (cW oP))
 (aJ (eV E4 rfl (fY K Ad5) (pn 7 fO) (aJ (pz 8 fO (pf (bj4 T:) r (aF Ae2 (aM aG))))
 (aJ (pz 9 fO (aL bV (px K Ae3 aG) Ad9))
 (aJ (pz 10 fO (jL (iW K) rfl T.mQ kI (aM Ad8)))
 (aJ (bX (PW.pt (wF (bZ K Ad7 Am9) (rZ (pc (oe K r) (aL bV (px K Ae3 aG) aG) aG)))) (aK (pk 10 fO [12] (dE rfl T.eC (aM Ad9)) (λ_ _ _ _ _=>(pn 12 fO)) (λ_ _ _ _ _=>cR) (λ_ _ _ _ _=>(aL (bF K) (px K Ad6 aG) (aL bV (aL (bF K) (px K Ae3 aG) (aL kY (aL kY aG (px K Ae3 aG)) Ae7)) (aL (bF K) Ae0 aG)))))) bI)
 (aJ (pz 11 fO (aL bV (aL (bF K) (aL (bF K) Ae4 aG) (aL bV (aL gT (px K Ae3 aG) aG) (aQ (oJ K) rfl T.aj3 yS (aF aG (aM (aL cJ Ad9 aG)))))) Ad9))
 (aK (bX (PW.pt (wF (bZ K Ad7 Am9) (rZ (pc (oe K r) (aL bV (px K Ae3 aG) aG) aG)))) (aK (gA (wC K Ae1 (aM (pf (ce7 T:) r (aF Ae3 (aF Ad6 (aF Ae4 (aM Ae6))))))))) (aK (bX (PW.pt (mD (pc (oe K r) Ad9 aG) (mO (pc af6 (aL bV (px K Ae3 aG) aG) aG)))) (aK (gA (wC K Ae1 (aM (pf (bi9 T:) r (aF (px K Ae3 aG) (aF Ad6 (aF Ae4 (aM (px K Ae5 Ae4)))))))))) (aK (gA (wC K Ae1 (aM (pf (bj8 T:) r (aF (px K Ae3 aG) (aF Ad6 (aF (cH (aF Ae4 (aM Ae6))) (aM (aL cJ (px K Ae5 Ae4) (px K Ae5 Ae6)))))))))))))))))))))
 (aK (aR Ae1)))))),by unfold rE;walk_at "r"⟩) rfl Am9
def ag9:dR P w K mg base 1 "is_whole" ["some"] (bO K cn 1 lG):=by refine bA (d:=tW) T.cp7 cl2 X6 (λf c A o s H E r=>⟨_,(aK (aR (sX (aQ (mV K) rfl T.jO iL (aF Ad5 (aM (yW T.dr8 cw9)))) (sY (dq1 (aQ (mV K) rfl T.jO iL (aF Ad5 (aM (yW T.db2 cc5))))))))),by unfold tW;walk_at "r"⟩) rfl Am9
def iH:dR P w K mg base 2 "is_whole_from" ["some","low","high"] (bO K cn 3 eF):=by refine bA (d:=oG) T.bo1 ao7 X6 (λf c A o s H E r=>⟨_,(aK (aR (sX (pf (ag9 T:) r (aM Ad5)) (sY (am8 jE jE Ad6 Ad5 Ad7))))),by unfold oG;walk_at "r"⟩) rfl Am9
def ci2:dR P w K mg base 3 "are_years" ["first","present"] (bO K cn 2 vD):=by
 refine bA (d:=vC) T.cm3 bq8 X6 (λf c A o s H E r=>⟨_,(aJ (bX (dQ (bZ K (pf (iH T:) r (aF Ad5 (aF (zW wD (kP T.g_FARTHEST_END)) (aM (kP T.g_FARTHEST_END))))) Am9)) (aK (aR gH)) bI)
 (aJ (bX (dQ (bZ K (pf (iH T:) r (aF Ad6 (aF (zW wD (kP T.g_FARTHEST_END)) (aM (kP T.g_FARTHEST_END))))) Am9)) (aK (aR gH)) bI)
 (aK (aR (am8 jE jE aG (aL cJ Ad6 Ad5) (kP T.g_LONGEST_SPAN)))))),by unfold vC;walk_at "r"⟩) rfl Am9
def cp0:dR P w K mg base 1 "is_made_of" ["word","signs","most"] (bO K cn 3 tK):=by refine bA (d:=tU) T.ca2 ak3 X6 (λf c A o s H E r=>⟨_,(aK (aR (sX (am8 jE jE aG (aQ (bM K) rfl T.dO cU (aM Ad5)) Ad7) (sY (aQ (iM K) rfl T.rH nP (aM (pm [3] (fY K Ad5) (λ_ _ _ _ _=>(pn 3 ak3)) (λ_ _ _ _ _=>cR) (λ_ _ _ _ _=>(iS (ai1 K (n:=eN) r) Ad8 Ad6 X7))))))))),by unfold tU;walk_at "r"⟩) rfl Am9
def cx9:dR P w K mg base 2 "is_name" ["word"] (bO K cn 1 vU):=by refine bA (d:=zN) T.dt1 cj5 X6 (λf c A o s H E r=>⟨_,(aK (aR (pf (cp0 T:) r (aF Ad5 (aF (kP T.g_LETTERS) (aM (kP T.g_MOST_LETTERS_words))))))),by unfold zN;walk_at "r"⟩) rfl Am9
def ak0:dR P w K mg base 3 "are_names" ["names","least","most"] (bO K cn 3 nR):=by
 refine bA (d:=vE) T.cl3 aj5 X6 (λf c A o s H E r=>⟨_,(aJ (bX (dQ (yB jE jE Ad6 (aQ (bM K) rfl T.dO cU (aM Ad5)) Ad7)) (aK (aR gH)) bI)
 (aK (aR (sX (aQ (iM K) rfl T.rH nP (aM (pm [3] (fY K Ad5) (λ_ _ _ _ _=>(pn 3 aj5)) (λ_ _ _ _ _=>cR) (λ_ _ _ _ _=>(pf (cx9 T:) r (aM Ad8)))))) (sY (iS (oe K r) (cl8 K T.dO T.ds8 (aM Ad5)) (aQ (bM K) rfl T.dO cU (aM Ad5)) (qJ _))))))),by unfold vE;walk_at "r"⟩) rfl Am9
def co6:dR P w K mg base 3 "is_table" ["some"] (bO K cn 1 sO):=by
 refine bA (d:=xD) T.cn7 ad0 X6 (λf c A o s H E r=>⟨_,(aJ (bX (dQ (yB jE jE aG (aQ (bM K) rfl T.dO cU (aM Ad5)) (kP T.g_MOST_AGES))) (aK (aR gH)) bI)
 (aJ (bX (dQ (bZ K (aQ (iM K) rfl T.rH nP (aM (pm [1] (fY K Ad5) (λ_ _ _ _ _=>(pn 1 ad0)) (λ_ _ _ _ _=>cR) (λ_ _ _ _ _=>(pf (iH T:) r (aF Ad6 (aF aG (aM (kP T.g_DARKEST))))))))) Am9)) (aK (aR gH)) bI)
 (aK (aR (aQ (iM K) rfl T.rH nP (aM (pm [2] (cx8 rfl T.eC (aF aG (aM (aQ (bM K) rfl T.dO cU (aM Ad5))))) (λ_ _ _ _ _=>(pn 2 ad0)) (λ_ _ _ _ _=>cR) (λ_ _ _ _ _=>(iS jE (px K Ad5 Ad7) (px K Ad5 (aL cJ Ad7 aG)) (qJ _)))))))))),by unfold xD;walk_at "r"⟩) rfl Am9
def cf6:dR P w K mg base 4 "are_inks" ["inks"] (bO K cn 1 xA):=by
 refine bA (d:=wS) T.ca8 qE X6 (λf c A o s H E r=>⟨_,(aJ (bX (dQ (bZ K (pf (ak0 T:) r (aF (pm [1,2] (fY K Ad5) (λ_ _ _ _ _=>(fX K 2 rfl (bK (pn 1 qE) (bK (pn 2 qE) fW)))) (λ_ _ _ _ _=>cR) (λ_ _ _ _ _=>Ad6)) (aF aG (aM (kP T.g_MOST_INKS))))) Am9)) (aK (aR gH)) bI)
 (aK (aR (aQ (iM K) rfl T.rH nP (aM (pm [1,2] (fY K Ad5) (λ_ _ _ _ _=>(fX K 2 rfl (bK (pn 1 qE) (bK (pn 2 qE) fW)))) (λ_ _ _ _ _=>cR) (λ_ _ _ _ _=>(pf (co6 T:) r (aM Ad7))))))))),by unfold wS;walk_at "r"⟩) rfl Am9
def cw5:dR P w K mg base 3 "is_reign" ["begin","length"] (bO K cn 2 tQ):=by refine bA (d:=xK) T.cc8 cy2 X6 (λf c A o s H E r=>⟨_,(aK (aR (sX (pf (iH T:) r (aF Ad5 (aF (zW wD (kP T.g_FARTHEST_YEAR)) (aM (kP T.g_FARTHEST_YEAR))))) (sY (pf (iH T:) r (aF Ad6 (aF aG (aM (kP T.g_LONGEST_REIGN))))))))),by unfold xK;walk_at "r"⟩) rfl Am9
def bx8:dR P w K mg base 4 "are_reigns" ["reigns"] (bO K cn 1 uE):=by
 refine bA (d:=sR) T.cm1 jS X6 (λf c A o s H E r=>⟨_,(aJ (bX (dQ (bZ K (pf (ak0 T:) r (aF (pm [1,2,3] (fY K Ad5) (λ_ _ _ _ _=>(fX K 3 rfl (bK (pn 1 jS) (bK (pn 2 jS) (bK (pn 3 jS) fW))))) (λ_ _ _ _ _=>cR) (λ_ _ _ _ _=>Ad6)) (aF aG (aM (kP T.g_MOST_REIGNS))))) Am9)) (aK (aR gH)) bI)
 (aK (aR (aQ (iM K) rfl T.rH nP (aM (pm [1,2,3] (fY K Ad5) (λ_ _ _ _ _=>(fX K 3 rfl (bK (pn 1 jS) (bK (pn 2 jS) (bK (pn 3 jS) fW))))) (λ_ _ _ _ _=>cR) (λ_ _ _ _ _=>(pf (cw5 T:) r (aF Ad7 (aM Ad8)))))))))),by unfold sR;walk_at "r"⟩) rfl Am9
def bh2(f y:Addr)(cdv:Value)(A:J0)(outer:bm)(s:B8)(H:Hp)(E:XK)(hr:Room 4 (A.deeper (PyProof.Rows.envOfC "Archive.__init__" (aN mN) s.heap.objs.size f cdv))):
 ∃t,PSs (nW lI P w K mg base ["self","first","present","letters","inks","reigns","name","table","begin","length"] "Archive.__init__" (aN mN) f cdv A outer s H E).nox (eJ mN) t/\RS [(0,.ref y)] K cn E t mH:=
 ⟨_,(aJ (bX (dQ (bZ K (pf (ci2 T:) hr (aF Ad6 (aM Ad7))) Am9)) (aK kZ) bI)
 (aJ (bX (dQ (bZ K (pf (ak0 T:) hr (aF Ad8 (aF aG (aM (kP T.g_MOST_LETTERS_archives))))) Am9)) (aK kZ) bI)
 (aJ (bX (dQ (bZ K (pf (cf6 T:) hr (aM Ad9)) Am9)) (aK kZ) bI)
 (aJ (bX (dQ (bZ K (pf (bx8 T:) hr (aM Ae0)) Am9)) (aK kZ) bI)
 (aJ (pM K Ad5 Ad6)
 (aJ (pM K Ad5 Ad7)
 (aJ (pM K Ad5 (jL (iW K) rfl T.mQ kI (aM Ad8)))
 (aJ (pM K Ad5 (pm [6,7] (fY K Ad9) (λ_ _ _ _ _=>(fX K 2 rfl (bK (pn 6 jP) (bK (pn 7 jP) fW)))) (λ_ _ _ _ _=>cR) (λ_ _ _ _ _=>(cH (aF Ae1 (aM (jL (iW K) rfl T.mQ kI (aM Ae2))))))))
 (aK (pM K Ad5 (pm [6,8,9] (fY K Ae0) (λ_ _ _ _ _=>(fX K 3 rfl (bK (pn 6 jP) (bK (pn 8 jP) (bK (pn 9 jP) fW))))) (λ_ _ _ _ _=>cR) (λ_ _ _ _ _=>(cH (aF Ae1 (aF Ae3 (aM Ae4)))))))))))))))),by unfold mH;walk_at "r"⟩
def dj1:Mak P w K mg base 5 "Archive" Am0 (spI K cn "Archive" 5 tV):=
 lF (d:=mH) T.cs7 jP X6 (bh2 T) rfl Am9
def bz5:dR P w K mg base 7 "_law_archive" ["_law_frame_here"] (bO K cn 1 qY):=by
 refine bA (d:=rF) T.bx6 pI X6 (λf c A o s H E r=>⟨_,(aJ (pk 1 pI [2,3] (fY K (px K Ad5 aG)) (λ_ _ _ _ _=>(fX K 2 rfl (bK (pn 2 pI) (bK (pn 3 pI) fW)))) (λ_ _ _ _ _=>cR) (λ_ _ _ _ _=>(cH (aF Ad7 (aM (jL (iW K) rfl T.mQ kI (aM Ad8)))))))
 (aK (aR (tE (dj1 T:) (r.mono X5) (aF (px K Ad5 aG) (aF (px K Ad5 aG) (aF (jL (iW K) rfl T.mQ kI (aM (px K Ad5 aG))) (aF Ad6 (aM (jL (iW K) rfl T.mQ kI (aM (px K Ad5 aG)))))))))))),by unfold rF;walk_at "r"⟩) rfl Am9
def dr4:dR P w K mg base 3 "is_due" ["archive","due","part"] (bO K cn 3 gY):=by
 refine bA (d:=rK) T.dv6 aw4 X6 (λf c A o s H E r=>⟨_,(aJ (bX (pc (oe K r) Ad6 cF) (aK (aR (iS (ai1 K (n:=eN) r) Ad7 (dY K Ad5) X7))) bI)
 (aJ (bX (pc (oe K r) Ad6 cF) (aK (aR (iS (ai1 K (n:=eN) r) Ad7 (pm [3] (fY K (dY K Ad5)) (λ_ _ _ _ _=>(pn 3 aw4)) (λ_ _ _ _ _=>cR) (λ_ _ _ _ _=>(px K Ad8 aG))) X7))) bI)
 (aJ (bX (pc (oe K r) Ad6 cF) (aK (aR (iS (ai1 K (n:=eN) r) Ad7 (pm [4] (fY K (dY K Ad5)) (λ_ _ _ _ _=>(pn 4 aw4)) (λ_ _ _ _ _=>cR) (λ_ _ _ _ _=>(px K Ad9 aG))) X7))) bI)
 (aK (aR (pf (iH T:) r (aF Ad7 (aF (px K (xP T.d_NUMBERS Ad6) aG) (aM (px K (xP T.d_NUMBERS Ad6) aG)))))))))),by unfold rK;walk_at "r"⟩) rfl Am9
def dd1:dR P w K mg base 4 "are_due" ["archive","word","parts"] (bO K cn 3 vY):=by
 refine bA (d:=yZ) T.dw1 as2 X6 (λf c A o s H E r=>⟨_,(aJ (bX (PW.pt (mD (eh8 (dq0 T.d_PARTS Ad6) X7) (mO (pc (az0 K (n:=eN) r) (aQ (bM K) rfl T.dO cU (aM Ad7)) (aQ (bM K) rfl T.dO cU (aM (xP T.d_PARTS Ad6))))))) (aK (aR gH)) bI)
 (aK (aR (aQ (iM K) rfl T.rH nP (aM (pm [3,4] (cs3 K T.dq8 (aF (xP T.d_PARTS Ad6) (aM Ad7))) (λ_ _ _ _ _=>(fX K 2 rfl (bK (pn 3 as2) (bK (pn 4 as2) fW)))) (λ_ _ _ _ _=>cR) (λ_ _ _ _ _=>(pf (dr4 T:) r (aF Ad5 (aF Ad8 (aM Ad9))))))))))),by unfold yZ;walk_at "r"⟩) rfl Am9
def at9(f:Addr)(cdv:Value)(A:J0)(outer:bm)(s:B8)(H:Hp)(E:XK)(hr:Room 0 (A.deeper (PyProof.Rows.envOfC "Archive.table" (aN lL) s.heap.objs.size f cdv))):
 ∃t,PSs (nW lI P w K mg base ["self","name","other","table"] "Archive.table" (aN lL) f cdv A outer s H E).nox (eJ lL) t/\RS [] K cn E t lT:=
 ⟨_,(aJ (eV E4 rfl (fY K (dY K Ad5)) (fX K 2 rfl (bK (pn 2 rM) (bK (pn 3 rM) fW))) (aK (bX (pc (oe K hr) Ad7 Ad6) (aK (aR (jL (iW K) rfl T.mQ kI (aM Ad8)))) bI)))
 (aK (aR eH))),by unfold lT;walk_at "r"⟩
def ao9:mI P w K mg base 1 Am0 "table" (bO K cn 2 gR):=
 fU (d:=lT) T.ar8 T.qB rM X6 (at9 T) rfl Am9 X5
def ej2:∀q∈[(Am0,bO K cn 2 gR)],mI P w K mg base 1 q.1 "table" q.2:=fV (ao9 T) (af8)
def cm8:dR P w K mg base 1 "ages_of" ["table","dark","error","greatest"] (bO K cn 4 vZ):=by
 refine bA (d:=zU) T.da2 sQ X6 (λf c A o s H E r=>⟨_,(aJ (pz 4 sQ (aL cJ (aQ (bM K) rfl T.dO cU (aM Ad5)) aG))
 (aJ (pk 5 sQ [7] (dE rfl T.eC (aM (aL (bF K) (aQ (jH K) rfl T.uI oS (aF Ad9 (aM Ad8))) aG))) (λ_ _ _ _ _=>(pn 7 sQ)) (λ_ _ _ _ _=>(bx1 (pc jE (aQ (al5 K) rfl T.cu7 cx0 (aM (aL cJ (px K Ad5 Ae2) Ad6))) Ad7))) (λ_ _ _ _ _=>Ae2))
 (aJ (bX (pc (oe K r) (aQ (bM K) rfl T.dO cU (aM Ae0)) aG) (aK (aR eH)) bI)
 (aJ (pz 6 sQ (px K Ae0 (aL cJ (aQ (bM K) rfl T.dO cU (aM Ae0)) aG)))
 (aK (aR (cH (aF (px K Ae0 aG) (aM (an7 (pc (oe K r) Ae1 Ad9) Ad8 Ae1)))))))))),by unfold zU;walk_at "r"⟩) rfl Am9
def dw2:dR P w K mg base 1 "spaced" ["parts"] (bO K cn 1 ab3):=by refine bA (d:=az2) T.dw6 bk4 X6 (λf c A o s H E r=>⟨_,(aK (aR (av1 K PySem.F.plainAttrs_str PySem.F.slot_str_join PySem.F.type_str_join (dh2 K) cF (aM (pm [1] (fY K Ad5) (λ_ _ _ _ _=>(pn 1 bk4)) (λ_ _ _ _ _=>cR) (λ_ _ _ _ _=>(jL dh1 rfl T.fw2 ec5 (aM Ad6)))))))),by unfold az2;walk_at "r"⟩) rfl Am9
def iK(f y:Addr)(cdv:Value)(A:J0)(outer:bm)(s:B8)(H:Hp)(E:XK)(hr:Room 1 (A.deeper (PyProof.Rows.envOfC "Saying.__init__" (aN fI) s.heap.objs.size f cdv))):
 ∃t,PSs (nW lI P w K mg base ["self","archive","word","parts","low","high","names","part","due","name"] "Saying.__init__" (aN fI) f cdv A outer s H E).nox (eJ fI) t/\RS [(0,.ref y)] K cn E t cO:=
 ⟨_,(aJ (pk 6 eS [7,8] (cs3 K T.dq8 (aF Ad8 (aM (xP T.d_PARTS Ad7)))) (λ_ _ _ _ _=>(fX K 2 rfl (bK (pn 7 eS) (bK (pn 8 eS) fW)))) (λ_ _ _ _ _=>(bx1 (pc (oe K hr) Ae3 cF))) (λ_ _ _ _ _=>Ae2))
 (aJ (pM K Ad5 (pm [9] (fY K Ae1) (λ_ _ _ _ _=>(pn 9 eS)) (λ_ _ _ _ _=>cR) (λ_ _ _ _ _=>(av1 K O7 PySem.F.slot_list_index PySem.F.type_list_index (di1 K (n:=eN) hr) (dY K Ad6) (aM Ae4)))))
 (aJ (pM K Ad5 Ad9)
 (aJ (pM K Ad5 Ae0)
 (aK (pM K Ad5 (pf (dw2 T:) hr (aM (aL (bF K) (cW (aM Ad7)) (jL (iW K) rfl T.mQ kI (aM Ad8))))))))))),by unfold cO;walk_at "r"⟩
def ex9:Mak P w K mg base 2 "Ink" Am2 (spI K cn "Ink" 5 az7):=
 lF (d:=cO) T.er8 eS X6 (iK T) rfl Am9
def aj1:dR P w K mg base 1 "reign_called" ["archive","name"] (bO K cn 2 mF):=by
 refine bA (d:=pQ) T.bo3 zZ X6 (λf c A o s H E r=>⟨_,(aJ (eV E4 rfl (fY K (dY K Ad5)) (pn 2 zZ) (aK (bX (pc (oe K r) (px K Ad7 aG) Ad6) (aK (aR Ad7)) bI)))
 (aK (aR eH))),by unfold pQ;walk_at "r"⟩) rfl Am9
def aa5:dR P w K mg base 3 "reign_year" ["begin","length","k"] (bO K cn 3 oT):=by
 refine bA (d:=uG) T.ck1 bh6 X6 (λf c A o s H E r=>⟨_,(aJ (bX (dQ (bZ K (pf (iH T:) r (aF Ad7 (aF aG (aM Ad6)))) Am9)) (aK (aR eH)) bI)
 (aK (aR (aL cJ (aL (bF K) Ad5 Ad7) aG)))),by unfold uG;walk_at "r"⟩) rfl Am9
def de9:Mak P w K mg base 2 "Reign" Am3 (spI K cn "Reign" 5 aa2):=
 lF (d:=cO) T.dt6 eS X6 (iK T) rfl Am9
def dl9:Mak P w K mg base 2 "Under" Am5 (spI K cn "Under" 5 af3):=
 lF (d:=cO) T.du6 eS X6 (iK T) rfl Am9
def co9:Mak P w K mg base 2 "Between" Am1 (spI K cn "Between" 5 yR):=
 lF (d:=cO) T.cx7 eS X6 (iK T) rfl Am9
def er2:Mak P w K mg base 2 "After" Al8 (spI K cn "After" 5 aa3):=
 lF (d:=cO) T.dy6 eS X6 (iK T) rfl Am9
def ex7:Mak P w K mg base 2 "Same" Am4 (spI K cn "Same" 5 ah5):=
 lF (d:=cO) T.eb3 eS X6 (iK T) rfl Am9
def dp5:Mak P w K mg base 2 "Within" Am6 (spI K cn "Within" 5 ap0):=
 lF (d:=cO) T.dv1 eS X6 (iK T) rfl Am9
def dz8:Mak P w K mg base 2 "Apart" Al9 (spI K cn "Apart" 5 az1):=
 lF (d:=cO) T.da7 eS X6 (iK T) rfl Am9
def co0:dR P w K mg base 4 "ink_saying" ["archive","parts"] (bO K cn 2 tP):=by
 refine bA (d:=uB) T.cz1 at3 X6 (λf c A o s H E r=>⟨_,(aJ (pz 2 at3 (pf (cm8 T:) r (aF (dl4 Ad5 (ej2 T:) (r.mono X5) (aM (px K Ad6 aG))) (aF (px K Ad6 aG) (aF (px K Ad6 aG) (aM (aL cJ (dY K Ad5) (dY K Ad5))))))))
 (aJ (bX (pc ae9 Ad7 eH) (aK kZ) bI)
 (aK (aR (tE (ex9 T:) (r.mono X5) (aF Ad5 (aF cF (aF Ad6 (aF (aL cJ (dY K Ad5) (px K Ad7 aG)) (aM (aL cJ (dY K Ad5) (px K Ad7 aG)))))))))))),by unfold uB;walk_at "r"⟩) rfl Am9
def bt2:dR P w K mg base 4 "reign_saying" ["archive","parts"] (bO K cn 2 pX):=by
 refine bA (d:=pK) T.bc4 sS X6 (λf c A o s H E r=>⟨_,(aJ (pz 2 sS (pf (aj1 T:) r (aF Ad5 (aM (px K Ad6 aG)))))
 (aJ (pz 3 sS (pf (aa5 T:) r (aF (px K Ad7 aG) (aF (px K Ad7 aG) (aM (px K Ad6 aG))))))
 (aJ (bX (pc ae9 Ad8 eH) (aK kZ) bI)
 (aK (aR (tE (de9 T:) (r.mono X5) (aF Ad5 (aF cF (aF Ad6 (aF Ad8 (aM Ad8))))))))))),by unfold pK;walk_at "r"⟩) rfl Am9
def bb2:dR P w K mg base 4 "under_saying" ["archive","parts"] (bO K cn 2 pC):=by
 refine bA (d:=pZ) T.br3 zK X6 (λf c A o s H E r=>⟨_,(aJ (pz 2 zK (pf (aj1 T:) r (aF Ad5 (aM (px K Ad6 aG)))))
 (aK (aR (tE (dl9 T:) (r.mono X5) (aF Ad5 (aF cF (aF Ad6 (aF (px K Ad7 aG) (aM (pf (aa5 T:) r (aF (px K Ad7 aG) (aF (px K Ad7 aG) (aM (px K Ad7 aG)))))))))))))),by unfold pZ;walk_at "r"⟩) rfl Am9
def ay7:dR P w K mg base 4 "between_saying" ["archive","parts"] (bO K cn 2 mZ):=by
 refine bA (d:=nG) T.an8 an6 X6 (λf c A o s H E r=>⟨_,(aJ (bX (pc bs7 (px K Ad6 aG) (px K Ad6 aG)) (aK kZ) bI)
 (aK (aR (tE (co9 T:) (r.mono X5) (aF Ad5 (aF cF (aF Ad6 (aF (px K Ad6 aG) (aM (px K Ad6 aG)))))))))),by unfold nG;walk_at "r"⟩) rfl Am9
def bj3:dR P w K mg base 4 "after_saying" ["archive","parts"] (bO K cn 2 pE):=by refine bA (d:=pS) T.bt3 ai9 X6 (λf c A o s H E r=>⟨_,(aK (aR (tE (er2 T:) (r.mono X5) (aF Ad5 (aF cF (aF Ad6 (aF aG (aM eH)))))))),by unfold pS;walk_at "r"⟩) rfl Am9
def bl6:dR P w K mg base 4 "same_saying" ["archive","parts"] (bO K cn 2 qR):=by refine bA (d:=qW) T.bd7 ba2 X6 (λf c A o s H E r=>⟨_,(aK (aR (tE (ex7 T:) (r.mono X5) (aF Ad5 (aF cF (aF Ad6 (aF aG (aM aG)))))))),by unfold qW;walk_at "r"⟩) rfl Am9
def ap9:dR P w K mg base 4 "within_saying" ["archive","parts"] (bO K cn 2 oB):=by refine bA (d:=oC) T.bf1 ap7 X6 (λf c A o s H E r=>⟨_,(aK (aR (tE (dp5 T:) (r.mono X5) (aF Ad5 (aF cF (aF Ad6 (aF aG (aM (px K Ad6 aG))))))))),by unfold oC;walk_at "r"⟩) rfl Am9
def be2:dR P w K mg base 4 "apart_saying" ["archive","parts"] (bO K cn 2 pG):=by
 refine bA (d:=pY) T.bf4 bp0 X6 (λf c A o s H E r=>⟨_,(aJ (bX (pc bs7 (px K Ad6 aG) (px K Ad6 aG)) (aK kZ) bI)
 (aK (aR (tE (dz8 T:) (r.mono X5) (aF Ad5 (aF cF (aF Ad6 (aF (px K Ad6 aG) (aM (px K Ad6 aG)))))))))),by unfold pY;walk_at "r"⟩) rfl Am9
def db3:dl3 P w K mg base 4 "MAKERS" (dg8 K cn 2 tb_MAKERS):=du8 T.dx1 (mR T.bg7 (co0 T) X5 (mR T.be1 (bt2 T) X5 (mR T.bn1 (bb2 T) X5 (mR T.ar6 (ay7 T) X5 (mR T.bp1 (bj3 T) X5 (mR T.bn3 (bl6 T) X5 (mR T.ao8 (ap9 T) X5 (mR T.by0 (be2 T) X5 (dl2)))))))))
def co2:dR P w K mg base 5 "saying_of" ["archive","word","parts"] (bO K cn 3 dZ):=by
 refine bA (d:=vO) T.cf3 ce1 X6 (λf c A o s H E r=>⟨_,(aJ (bX (dQ (bZ K (pf (dd1 T:) r (aF Ad5 (aF Ad6 (aM Ad7)))) Am9)) (aK kZ) bI)
 (aJ (bX (PW.pt (wF (pc (oe K r) (px K (xP T.d_PARTS Ad6) aG) cF) (rZ (pc (oe K r) (px K Ad7 aG) (px K Ad7 aG))))) (aK kZ) bI)
 (aK (aR (de6 (db3 T:) (r.mono X5) Ad6 (aF Ad5 (aM Ad7))))))),by unfold vO;walk_at "r"⟩) rfl Am9
def cs5:dR P w K mg base 6 "_law_heap" ["_law_archive_here","_law_told"] (bO K cn 2 xN):=by refine bA (d:=wY) T.cw7 qD X6 (λf c A o s H E r=>⟨_,(aK (aR (pm [2,3,4,5] (fY K Ad6) (λ_ _ _ _ _=>(fX K 4 rfl (bK (pn 2 qD) (bK (pn 3 qD) (bK (pn 4 qD) (bK (pn 5 qD) fW)))))) (λ_ _ _ _ _=>cR) (λ_ _ _ _ _=>(pf (co2 T:) r (aF Ad5 (aF Ad7 (aM (jL (iW K) rfl T.mQ kI (aM Ad8)))))))))),by unfold wY;walk_at "r"⟩) rfl Am9
def cj2:dR P w K mg base 1 "_law_steps" ["_law_frame_here","_law_told"] (bO K cn 2 vI):=by
 refine bA (d:=vN) T.cc3 jK X6 (λf c A o s H E r=>⟨_,(aJ (pz 2 jK (cW oP))
 (aJ (eV E4 rfl (dE rfl T.eC (aM (aQ (bM K) rfl T.dO cU (aM Ad6)))) (pn 3 jK) (aJ (pz 4 jK (px K (px K Ad6 Ad8) aG))
 (aJ (qH (px K (px K Ad6 Ad8) aG) (fX K 2 rfl (bK (pn 5 jK) (bK (pn 6 jK) fW))))
 (aJ (pz 7 jK (px K (aL (bF K) Ad9 (cH (aM eH))) aG))
 (aJ (bX (pc sK Ae1 eH) (aK (gA (wC K Ad7 (aM (cH (aF Ae2 (aF (px K Ad9 aG) (aF Ae1 (aM Ad8))))))))) bI)
 (aK (bX (pc sK Ae0 eH) (aK (gA (wC K Ad7 (aM (cH (aF (px K Ad9 aG) (aF Ae2 (aF (aL cJ aG Ae0) (aM Ad8))))))))) bI)))))))
 (aJ (eV E4 rfl (dE rfl T.eC (aM (aQ (bM K) rfl T.dO cU (aM (px K Ad5 aG))))) (pn 8 jK) (aJ (gA (wC K Ad7 (aM (cH (aF eH (aF Ae3 (aF (px K Ad5 aG) (aM eH))))))))
 (aK (gA (wC K Ad7 (aM (cH (aF Ae3 (aF eH (aF (aL cJ aG (px K Ad5 aG)) (aM eH)))))))))))
 (aK (aR Ad7))))),by unfold vN;walk_at "r"⟩) rfl Am9
def hU(f:Addr)(cdv:Value)(A:J0)(outer:bm)(s:B8)(H:Hp)(E:XK)(hr:Room 0 (A.deeper (PyProof.Rows.envOfC "Saying.about" (aN eU) s.heap.objs.size f cdv))):
 ∃t,PSs (nW lI P w K mg base ["self"] "Saying.about" (aN eU) f cdv A outer s H E).nox (eJ eU) t/\RS [] K cn E t eT:=
 ⟨_,(aK (aR (jL (iW K) rfl T.mQ kI (aM (dY K Ad5))))),by unfold eT;walk_at "r"⟩
def cn2:mI P w K mg base 1 Am2 "about" (bO K cn 1 bD):=
 fU (d:=eT) T.cs1 T.ay1 gP X6 (hU T) rfl Am9 X5
def bt0:mI P w K mg base 1 Am1 "about" (bO K cn 1 bD):=
 fU (d:=eT) T.as8 T.qA gP X6 (hU T) rfl Am9 X5
def bu5:mI P w K mg base 1 Am3 "about" (bO K cn 1 bD):=
 fU (d:=eT) T.bs3 T.uY gP X6 (hU T) rfl Am9 X5
def bb6:mI P w K mg base 1 Am5 "about" (bO K cn 1 bD):=
 fU (d:=eT) T.be4 T.uW gP X6 (hU T) rfl Am9 X5
def bd3:mI P w K mg base 1 Am6 "about" (bO K cn 1 bD):=
 fU (d:=eT) T.bj1 T.sM gP X6 (hU T) rfl Am9 X5
def be6:mI P w K mg base 1 Al9 "about" (bO K cn 1 bD):=
 fU (d:=eT) T.bp3 T.uX gP X6 (hU T) rfl Am9 X5
def by5:mI P w K mg base 1 Al8 "about" (bO K cn 1 bD):=
 fU (d:=eT) T.ba4 T.uV gP X6 (hU T) rfl Am9 X5
def cr0:mI P w K mg base 1 Am4 "about" (bO K cn 1 bD):=
 fU (d:=eT) T.by6 T.xV gP X6 (hU T) rfl Am9 X5
def dm9:∀q∈[(Am2,bO K cn 1 bD),(Am3,bO K cn 1 bD),(Am5,bO K cn 1 bD),(Am1,bO K cn 1 bD),(Al8,bO K cn 1 bD),(Am4,bO K cn 1 bD),(Am6,bO K cn 1 bD),(Al9,bO K cn 1 bD)],mI P w K mg base 1 q.1 "about" q.2:=fV (cn2 T) (fV (bu5 T) (fV (bb6 T) (fV (bt0 T) (fV (by5 T) (fV (cr0 T) (fV (bd3 T) (fV (be6 T) (af8))))))))
def gN(f:Addr)(cdv:Value)(A:J0)(outer:bm)(s:B8)(H:Hp)(E:XK)(hr:Room 0 (A.deeper (PyProof.Rows.envOfC "Saying.bounds" (aN eD) s.heap.objs.size f cdv))):
 ∃t,PSs (nW lI P w K mg base ["self"] "Saying.bounds" (aN eD) f cdv A outer s H E).nox (eJ eD) t/\RS [] K cn E t eE:=
 ⟨_,(aK (aR (cH (aF (dY K Ad5) (aM (dY K Ad5)))))),by unfold eE;walk_at "r"⟩
def br2:mI P w K mg base 1 Al8 "bounds" (bO K cn 1 aX):=
 fU (d:=eE) T.bk1 T.uV gI X6 (gN T) rfl Am9 X5
def bo2:mI P w K mg base 1 Am3 "bounds" (bO K cn 1 aX):=
 fU (d:=eE) T.bg1 T.uY gI X6 (gN T) rfl Am9 X5
def bv5:mI P w K mg base 1 Am4 "bounds" (bO K cn 1 aX):=
 fU (d:=eE) T.bz3 T.xV gI X6 (gN T) rfl Am9 X5
def by2:mI P w K mg base 1 Al9 "bounds" (bO K cn 1 aX):=
 fU (d:=eE) T.br1 T.uX gI X6 (gN T) rfl Am9 X5
def bz7:mI P w K mg base 1 Am2 "bounds" (bO K cn 1 aX):=
 fU (d:=eE) T.be7 T.ay1 gI X6 (gN T) rfl Am9 X5
def bf0:mI P w K mg base 1 Am6 "bounds" (bO K cn 1 aX):=
 fU (d:=eE) T.aq8 T.sM gI X6 (gN T) rfl Am9 X5
def bc2:mI P w K mg base 1 Am5 "bounds" (bO K cn 1 aX):=
 fU (d:=eE) T.bq1 T.uW gI X6 (gN T) rfl Am9 X5
def ah8:mI P w K mg base 1 Am1 "bounds" (bO K cn 1 aX):=
 fU (d:=eE) T.aq6 T.qA gI X6 (gN T) rfl Am9 X5
def dx5:∀q∈[(Am2,bO K cn 1 aX),(Am3,bO K cn 1 aX),(Am5,bO K cn 1 aX),(Am1,bO K cn 1 aX),(Al8,bO K cn 1 aX),(Am4,bO K cn 1 aX),(Am6,bO K cn 1 aX),(Al9,bO K cn 1 aX)],mI P w K mg base 1 q.1 "bounds" q.2:=fV (bz7 T) (fV (bo2 T) (fV (bc2 T) (fV (ah8 T) (fV (br2 T) (fV (bv5 T) (fV (bf0 T) (fV (by2 T) (af8))))))))
def bj2:dR P w K mg base 2 "saying_steps" ["saying","number"] (bO K cn 2 pT):=by
 refine bA (d:=pU) T.bu3 lV X6 (λf c A o s H E r=>⟨_,(aJ (pz 2 lV (bm4 Ad5 (dm9 T:) (r.mono X5)))
 (aJ (pz 3 lV (bm4 Ad5 (dx5 T:) (r.mono X5)))
 (aJ (pz 4 lV (an7 (pc (oe K r) (aQ (bM K) rfl T.dO cU (aM Ad7)) aG) (px K Ad7 aG) eH))
 (aJ (pz 5 lV (cW oP))
 (aJ (bX (pc sK (px K Ad8 aG) eH) (aK (gA (wC K Ae0 (aM (cH (aF Ad9 (aF (px K Ad7 aG) (aF (px K Ad8 aG) (aM Ad6))))))))) bI)
 (aJ (bX (pc sK (px K Ad8 aG) eH) (aK (gA (wC K Ae0 (aM (cH (aF (px K Ad7 aG) (aF Ad9 (aF (aL cJ aG (px K Ad8 aG)) (aM Ad6))))))))) bI)
 (aK (aR Ae0)))))))),by unfold pU;walk_at "r"⟩) rfl Am9
def bg9:dR P w K mg base 1 "span_steps" ["archive","letter"] (bO K cn 2 tD):=by refine bA (d:=tS) T.cp1 bw5 X6 (λf c A o s H E r=>⟨_,(aK (aR (cW (aF (cH (aF eH (aF Ad6 (aF (dY K Ad5) (aM eH))))) (aM (cH (aF Ad6 (aF eH (aF (aL cJ aG (dY K Ad5)) (aM eH)))))))))),by unfold tS;walk_at "r"⟩) rfl Am9
def ae3:dR P w K mg base 3 "steps_of" ["archive","sayings"] (bO K cn 2 pW):=by
 refine bA (d:=xL) T.cb8 qI X6 (λf c A o s H E r=>⟨_,(aJ (pz 2 qI (cW oP))
 (aJ (eV E4 rfl (dk2 K T.cb3 (aM Ad6)) (fX K 2 rfl (bK (pn 3 qI) (bK (pn 4 qI) fW))) (aK (gA (av1 K O7 W3 W2 bh5 Ad7 (aM (pf (bj2 T:) r (aF Ad9 (aM Ad8))))))))
 (aJ (eV E4 rfl (dE rfl T.eC (aM (aQ (bM K) rfl T.dO cU (aM (dY K Ad5))))) (pn 5 qI) (aK (gA (av1 K O7 W3 W2 bh5 Ad7 (aM (pf (bg9 T:) r (aF Ad5 (aM Ae0))))))))
 (aK (aR Ad7))))),by unfold xL;walk_at "r"⟩) rfl Am9
def kA:dR P w K mg base 1 "place_of" ["end","ground"] (bO K cn 2 dL):=by refine bA (d:=tO) T.cv7 cs2 X6 (λf c A o s H E r=>⟨_,(aK (aR (an7 (pc ae9 Ad5 eH) Ad6 Ad5))),by unfold tO;walk_at "r"⟩) rfl Am9
def bq4:dR P w K mg base 2 "is_kept" ["step","years"] (bO K cn 2 oK):=by
 refine bA (d:=yX) T.du1 aw9 X6 (λf c A o s H E r=>⟨_,(aJ (pz 2 aw9 (aL cJ (aQ (bM K) rfl T.dO cU (aM Ad6)) aG))
 (aK (aR (iS jE (px K Ad6 (pf (kA T:) r (aF (px K Ad5 aG) (aM Ad7)))) (aL (bF K) (px K Ad6 (pf (kA T:) r (aF (px K Ad5 aG) (aM Ad7)))) (px K Ad5 aG)) (qJ _))))),by unfold yX;walk_at "r"⟩) rfl Am9
def bj6:dR P w K mg base 3 "raise_years" ["steps","years","raisers"] (spM K cn jQ):=by
 refine cp9 (d:=rG) T.bo6 mM X6 (λv1 v2 f cdv A outer s H E hr=>⟨_,(aJ (pz 3 mM (aL cJ (aQ (bM K) rfl T.dO cU (aM Ad6)) aG))
 (aJ (pz 4 mM eH)
 (aJ (eV E4 rfl (fY K Ad5) (pn 5 mM) (aK (bX (dQ (bZ K (pf (bq4 T:) hr (aF Ae0 (aM Ad6))) Am9)) (aJ (pz 4 mM (pf (kA T:) hr (aF (px K Ae0 aG) (aM Ad8))))
 (aJ (qH (aL cJ (px K Ad6 (pf (kA T:) hr (aF (px K Ae0 aG) (aM Ad8)))) (px K Ae0 aG)) (ad4 Ad6 Ad9 yO))
 (aK (qH Ae0 (ad4 Ad7 Ad9 yO))))) bI)))
 (aK (aR Ad9))))),by unfold rG;walk_at "r"⟩) rfl (λ_ _ _=>rfl)
def bm6:dR P w K mg base 2 "ring_behind" ["raisers","place"] (bO K cn 2 rD):=by
 refine bA (d:=qN) T.bv6 iR X6 (λf c A o s H E r=>⟨_,(aJ (pz 2 iR (aL cJ (aQ (bM K) rfl T.dO cU (aM Ad5)) aG))
 (aJ (eV E4 rfl (dE rfl T.eC (aM (aQ (bM K) rfl T.dO cU (aM Ad5)))) (pn 3 iR) (aK (pz 1 iR (pf (kA T:) r (aF (px K (px K Ad5 Ad6) aG) (aM Ad7))))))
 (aJ (pz 4 iR (cW (aM (px K Ad5 Ad6))))
 (aJ (pz 5 iR (pf (kA T:) r (aF (px K (px K Ad5 Ad6) aG) (aM Ad7))))
 (aJ (dy4 E4 (pc (az0 K (n:=eN) r) Ae0 Ad6) (aJ (gA (wC K Ad9 (aM (px K Ad5 Ae0))))
 (aK (pz 5 iR (pf (kA T:) r (aF (px K (px K Ad5 Ae0) aG) (aM Ad7)))))))
 (aK (aR Ad9))))))),by unfold qN;walk_at "r"⟩) rfl Am9
def ax4:dR P w K mg base 4 "settled_by" ["archive","steps"] (bO K cn 2 jM):=by
 refine bA (d:=tX) T.cb2 jR X6 (λf c A o s H E r=>⟨_,(aJ (pz 2 jR (aQ (bM K) rfl T.dO cU (aM (dY K Ad5))))
 (aJ (pz 3 jR (aL (bF K) (aL (aa6 K) (cW (aM (aL cJ (dY K Ad5) aG))) Ad7) (cW (aM aG))))
 (aJ (pz 4 jR (aL (aa6 K) (cW (aM eH)) (aL (bF K) Ad7 aG)))
 (aJ (pz 5 jR eH)
 (aJ (eV E4 rfl (dE rfl T.eC (aM (aL (bF K) Ad7 aG))) (pn 6 jR) (aK (pz 5 jR (pf (bj6 T:) r (aF Ad6 (aF Ad8 (aM Ad9)))))))
 (aJ (bX (pc ae9 Ae0 eH) (aK (aR (cH (aF cF (aM (kL (yC K) Ad8 (kF aG) (kF Ad7))))))) bI)
 (aK (aR (cH (aF cF (aM (pf (bm6 T:) r (aF Ad9 (aM Ae0)))))))))))))),by unfold tX;walk_at "r"⟩) rfl Am9
def bp5:dR P w K mg base 5 "settled" ["archive","sayings"] (bO K cn 2 mT):=by refine bA (d:=vR) T.dy1 ca7 X6 (λf c A o s H E r=>⟨_,(aK (aR (pf (ax4 T:) r (aF Ad5 (aM (pf (ae3 T:) r (aF Ad5 (aM Ad6)))))))),by unfold vR;walk_at "r"⟩) rfl Am9
def al0:dR P w K mg base 1 "_law_whole" ["_law_found"] (bO K cn 1 jF):=by refine bA (d:=vL) T.ck3 bw9 X6 (λf c A o s H E r=>⟨_,(aK (aR (sX (aQ (mV K) rfl T.jO iL (aF Ad5 (aM (yW T.dr8 cw9)))) (sY (dq1 (aQ (mV K) rfl T.jO iL (aF Ad5 (aM (yW T.db2 cc5))))))))),by unfold vL;walk_at "r"⟩) rfl Am9
def ap3:dR P w K mg base 2 "_law_is_step" ["_law_step","_law_steps_here"] (bO K cn 2 jU):=by
 refine bA (d:=qT) T.bz6 av0 X6 (λf c A o s H E r=>⟨_,(aJ (bX (PW.pt (mD (dQ (bZ K (aQ (mV K) rfl T.jO iL (aF Ad5 (aM (yW T.ea3 dn6)))) Am9)) (mD (pc (az0 K (n:=eN) r) (aQ (bM K) rfl T.dO cU (aM Ad5)) aG) (mO (dQ (bZ K (pf (al0 T:) r (aM (px K Ad5 aG))) Am9)))))) (aK (aR gH)) bI)
 (aJ (eV E4 rfl (fY K (cW (aF (px K Ad5 aG) (aF (px K Ad5 aG) (aM (px K Ad5 aG)))))) (pn 2 av0) (aK (bX (PW.pt (wF (pc sK Ad7 eH) (rZ (dQ (bZ K (pf (al0 T:) r (aM Ad7)) Am9))))) (aK (aR gH)) bI)))
 (aK (aR (iS (ai1 K (n:=eN) r) Ad5 Ad6 X7))))),by unfold qT;walk_at "r"⟩) rfl Am9
def be3:dR P w K mg base 3 "_law_is_chain" ["_law_chain","_law_steps_here","_law_start","_law_end"] (bO K cn 4 pF):=by
 refine bA (d:=pD) T.bg4 lQ X6 (λf c A o s H E r=>⟨_,(aJ (bX (PW.pt (mD (dQ (bZ K (aQ (mV K) rfl T.jO iL (aF Ad5 (aM (yW T.mQ kI)))) Am9)) (mO (dQ (bZ K (aQ (iM K) rfl T.rH nP (aM (pm [5] (fY K Ad5) (λ_ _ _ _ _=>(pn 5 lQ)) (λ_ _ _ _ _=>cR) (λ_ _ _ _ _=>(pf (ap3 T:) r (aF Ae0 (aM Ad6))))))) Am9))))) (aK (aR gH)) bI)
 (aJ (pz 4 lQ Ad7)
 (aJ (eV E4 rfl (fY K Ad5) (pn 5 lQ) (aJ (bX (pc (az0 K (n:=eN) r) (px K Ae0 aG) Ad9) (aK (aR gH)) bI)
 (aK (pz 4 lQ (px K Ae0 aG)))))
 (aK (aR (iS (oe K r) Ad9 Ad8 (qJ _))))))),by unfold pD;walk_at "r"⟩) rfl Am9
def bf6:dR P w K mg base 4 "_law_is_ring" ["_law_ring","_law_steps_here"] (bO K cn 2 nK):=by
 refine bA (d:=qQ) T.bw6 mJ X6 (λf c A o s H E r=>⟨_,(aJ (bX (PW.pt (mD (dQ (bZ K (aQ (mV K) rfl T.jO iL (aF Ad5 (aM (yW T.mQ kI)))) Am9)) (mD (pc (oe K r) Ad5 (cW oP)) (mO (dQ (bZ K (pf (ap3 T:) r (aF (px K Ad5 aG) (aM Ad6))) Am9)))))) (aK (aR gH)) bI)
 (aJ (bX (dQ (bZ K (pf (be3 T:) r (aF Ad5 (aF Ad6 (aF (px K (px K Ad5 aG) aG) (aM (px K (px K Ad5 aG) aG)))))) Am9)) (aK (aR gH)) bI)
 (aJ (pz 2 mJ (pm [3] (fY K Ad5) (λ_ _ _ _ _=>(pn 3 mJ)) (λ_ _ _ _ _=>cR) (λ_ _ _ _ _=>(px K Ad8 aG))))
 (aJ (bX (bZ K (aQ (cu9 K) rfl T.fv2 ez7 (aM (pm [4] (dE rfl T.eC (aM (aQ (bM K) rfl T.dO cU (aM Ad7)))) (λ_ _ _ _ _=>(pn 4 mJ)) (λ_ _ _ _ _=>cR) (λ_ _ _ _ _=>(iS (ai1 K (n:=eN) r) (px K Ad7 Ad9) (kL (yC K) Ad7 pJ (kF Ad9)) X7))))) Am9) (aK (aR gH)) bI)
 (aK (aR (iS af6 (aQ (dh0 K) rfl T.fu2 eu3 (aM (pm [3] (fY K Ad5) (λ_ _ _ _ _=>(pn 3 mJ)) (λ_ _ _ _ _=>cR) (λ_ _ _ _ _=>(px K Ad8 aG))))) aG (qJ _)))))))),by unfold qQ;walk_at "r"⟩) rfl Am9
def bv2:dR P w K mg base 5 "refuse_rings" ["archive","steps"] (bO K cn 2 oZ):=by refine bA (d:=oX) T.bx3 bv0 X6 (λf c A o s H E r=>⟨_,(aK (bX (pc (oe K r) (px K (pf (ax4 T:) r (aF Ad5 (aM Ad6))) aG) cF) (aK kZ) bI)),by unfold oX;walk_at "r"⟩) rfl Am9
def bp8:dR P w K mg base 1 "span_costs" ["archive"] (bO K cn 1 sV):=by
 refine bA (d:=tZ) T.cr1 nQ X6 (λf c A o s H E r=>⟨_,(aJ (pz 1 nQ (aQ (bM K) rfl T.dO cU (aM (dY K Ad5))))
 (aJ (pk 2 nQ [3] (fY K (dY K Ad5)) (λ_ _ _ _ _=>(pn 3 nQ)) (λ_ _ _ _ _=>cR) (λ_ _ _ _ _=>(aL (bF K) (aL (aa6 K) (cW (aM (aL cJ (dY K Ad5) (dY K Ad5)))) Ad6) (cW (aM (aL cJ aG (dY K Ad5)))))))
 (aJ (gA (wC K Ad7 (aM (aL (bF K) (aL (aa6 K) (cW (aM (dY K Ad5))) Ad6) (cW (aM aG))))))
 (aJ (eV E4 rfl (dE rfl T.eC (aM Ad6)) (pn 3 nQ) (aK (qH aG (ad4 (px K Ad7 Ad8) Ad8 yO))))
 (aK (aR Ad7)))))),by unfold tZ;walk_at "r"⟩) rfl Am9
def ch6:dR P w K mg base 6 "costs_by" ["archive","steps"] (bO K cn 2 wO):=by
 refine bA (d:=xE) T.cz7 jG X6 (λf c A o s H E r=>⟨_,(aJ (gA (pf (bv2 T:) r (aF Ad5 (aM Ad6))))
 (aJ (pz 2 jG (aQ (bM K) rfl T.dO cU (aM (dY K Ad5))))
 (aJ (pz 3 jG (pf (bp8 T:) r (aM Ad5)))
 (aJ (eV E4 rfl (fY K Ad6) (pn 4 jG) (aJ (pz 5 jG (pf (kA T:) r (aF (px K Ad9 aG) (aM Ad7))))
 (aJ (pz 6 jG (pf (kA T:) r (aF (px K Ad9 aG) (aM Ad7))))
 (aK (qH (aQ (jH K) rfl T.uI oS (aF (px K (px K Ad8 Ae0) Ae1) (aM (px K Ad9 aG)))) (ad4 (px K Ad8 Ae0) Ae1 yO))))))
 (aJ (eV E4 rfl (dE rfl T.eC (aM (aL (bF K) Ad7 aG))) (pn 7 jG) (aK (eV E4 rfl (dE rfl T.eC (aM (aL (bF K) Ad7 aG))) (pn 5 jG) (aK (eV E4 rfl (dE rfl T.eC (aM (aL (bF K) Ad7 aG))) (pn 6 jG) (aK (qH (aQ (jH K) rfl T.uI oS (aF (px K (px K Ad8 Ae0) Ae1) (aM (aL (bF K) (px K (px K Ad8 Ae0) Ae2) (px K (px K Ad8 Ae2) Ae1))))) (ad4 (px K Ad8 Ae0) Ae1 yO))))))))
 (aK (aR Ad8))))))),by unfold xE;walk_at "r"⟩) rfl Am9
def aq3:dR P w K mg base 7 "least_costs" ["archive","sayings"] (bO K cn 2 fZ):=by refine bA (d:=qM) T.bi7 bs2 X6 (λf c A o s H E r=>⟨_,(aK (aR (pf (ch6 T:) r (aF Ad5 (aM (pf (ae3 T:) r (aF Ad5 (aM Ad6)))))))),by unfold qM;walk_at "r"⟩) rfl Am9
def xF:dR P w K mg base 8 "years_of" ["archive","sayings"] (bO K cn 2 nC):=by
 refine bA (d:=wT) T.cr7 vF X6 (λf c A o s H E r=>⟨_,(aJ (pz 2 vF (pf (aq3 T:) r (aF Ad5 (aM Ad6))))
 (aJ (pz 3 vF (aQ (bM K) rfl T.dO cU (aM (dY K Ad5))))
 (aK (aR (pm [4] (dE rfl T.eC (aM Ad8)) (λ_ _ _ _ _=>(pn 4 vF)) (λ_ _ _ _ _=>cR) (λ_ _ _ _ _=>(cH (aF (aL cJ aG (px K (px K Ad7 Ad9) Ad8)) (aM (px K (px K Ad7 Ad8) Ad9)))))))))),by unfold wT;walk_at "r"⟩) rfl Am9
def bp2:dR P w K mg base 1 "least_beside" ["costs","given"] (bO K cn 2 kH):=by refine bA (d:=pH) T.bq3 tG X6 (λf c A o s H E r=>⟨_,(aK (aR (aQ (oJ K) rfl T.aj3 yS (aM (pm [2,3] (fY K Ad6) (λ_ _ _ _ _=>(fX K 2 rfl (bK (pn 2 tG) (bK (pn 3 tG) fW)))) (λ_ _ _ _ _=>cR) (λ_ _ _ _ _=>(aL cJ Ad8 (px K Ad5 Ad7)))))))),by unfold pH;walk_at "r"⟩) rfl Am9
def ao6:dR P w K mg base 2 "earliest_beside" ["costs","given"] (bO K cn 2 mE):=by
 refine bA (d:=mC) T.ap6 lO X6 (λf c A o s H E r=>⟨_,(aJ (pz 2 lO (aL cJ (aQ (bM K) rfl T.dO cU (aM Ad5)) aG))
 (aJ (pz 3 lO (aL (bF K) Ad6 (cW (aM (cH (aF Ad7 (aM aG)))))))
 (aK (aR (pm [4] (dE rfl T.eC (aM Ad7)) (λ_ _ _ _ _=>(pn 4 lO)) (λ_ _ _ _ _=>cR) (λ_ _ _ _ _=>(pf (bp2 T:) r (aF (px K Ad5 Ad9) (aM Ad8))))))))),by unfold mC;walk_at "r"⟩) rfl Am9
def bg6:dR P w K mg base 8 "dating_with" ["archive","sayings","letter","year"] (bO K cn 4 kX):=by
 refine bA (d:=qX) T.bb7 uT X6 (λf c A o s H E r=>⟨_,(aJ (pz 4 uT (pf (aq3 T:) r (aF Ad5 (aM Ad6))))
 (aJ (pz 5 uT (aQ (bM K) rfl T.dO cU (aM (dY K Ad5))))
 (aJ (bX (dQ (yB jE jE (aL cJ aG (px K (px K Ad9 Ad7) Ae0)) Ad8 (px K (px K Ad9 Ae0) Ad7))) (aK kZ) bI)
 (aK (aR (pf (ao6 T:) r (aF Ad9 (aM (cW (aM (cH (aF Ad7 (aM Ad8))))))))))))),by unfold qX;walk_at "r"⟩) rfl Am9
def bi6:dR P w K mg base 9 "_law_datings" ["_law_archive_here","_law_sayings_here","_law_spans","_law_cell_here"] (bO K cn 4 qP):=by
 refine bA (d:=rC) T.bc7 iT X6 (λf c A o s H E r=>⟨_,(aJ (pz 4 iT (cW oP))
 (aJ (eV E4 rfl (dE rfl T.eC (aM (aQ (bM K) rfl T.dO cU (aM Ad7)))) (pn 5 iT) (aJ (qH (px K Ad7 Ae0) (fX K 2 rfl (bK (pn 6 iT) (bK (pn 7 iT) fW))))
 (aK (eV E4 rfl (dE rfl T.eC (aM (aQ (jH K) rfl T.uI oS (aF aG (aM (aL (bF K) (aL cJ Ae2 Ae1) aG)))))) (pn 8 iT) (aJ (pz 9 iT (aL (bF K) Ae1 (aL bV (aL (bF K) Ad8 (aL gT (aL kY Ae3 (aL cJ Ae2 Ae1)) aG)) (aL (bF K) (aL cJ Ae2 Ae1) aG))))
 (aK (gA (wC K Ad9 (aM (pf (bg6 T:) r (aF Ad5 (aF Ad6 (aF Ae0 (aM Ae4))))))))))))))
 (aK (aR Ad9)))),by unfold rC;walk_at "r"⟩) rfl Am9
def bs1:dR P w K mg base 4 "holds" ["archive","sayings","years"] (bO K cn 3 xQ):=by
 refine bA (d:=ai6) T.ec3 am2 X6 (λf c A o s H E r=>⟨_,(aJ (bX (PW.pt (mD (pc (az0 K (n:=eN) r) (aQ (bM K) rfl T.dO cU (aM Ad7)) (aQ (bM K) rfl T.dO cU (aM (dY K Ad5)))) (mO (dQ (bZ K (aQ (iM K) rfl T.rH nP (aM (pm [4] (fY K Ad7) (λ_ _ _ _ _=>(pn 4 am2)) (λ_ _ _ _ _=>cR) (λ_ _ _ _ _=>(pf (ag9 T:) r (aM Ad9)))))) Am9))))) (aK (aR gH)) bI)
 (aJ (pz 3 am2 (aL (bF K) Ad7 (cW (aM aG))))
 (aK (aR (aQ (iM K) rfl T.rH nP (aM (pm [5] (fY K (pf (ae3 T:) r (aF Ad5 (aM Ad6)))) (λ_ _ _ _ _=>(pn 5 am2)) (λ_ _ _ _ _=>cR) (λ_ _ _ _ _=>(pf (bq4 T:) r (aF Ae0 (aM Ad8))))))))))),by unfold ai6;walk_at "r"⟩) rfl Am9
def cw2:dR P w K mg base 1 "_law_holds" ["_law_years","_law_steps_here"] (bO K cn 2 vH):=by
 refine bA (d:=vB) T.ch3 iJ X6 (λf c A o s H E r=>⟨_,(aJ (eV E4 rfl (fY K Ad6) (fX K 4 rfl (bK (pn 2 iJ) (bK (pn 3 iJ) (bK (pn 4 iJ) (bK (pn 5 iJ) fW))))) (aJ (pz 6 iJ aG)
 (aJ (pz 7 iJ aG)
 (aJ (bX (pc sK Ad7 eH) (aK (pz 6 iJ (px K Ad5 Ad7))) bI)
 (aJ (bX (pc sK Ad8 eH) (aK (pz 7 iJ (px K Ad5 Ad8))) bI)
 (aK (bX (pc bs7 Ae2 (aL (bF K) Ae1 Ad9)) (aK (aR gH)) bI)))))))
 (aK (aR gH))),by unfold vB;walk_at "r"⟩) rfl Am9
def lP:dR P w K mg base 2 "_law_is_dating" ["_law_years","_law_many","_law_steps_here"] (bO K cn 3 gF):=by
 refine bA (d:=oE) T.bc1 xZ X6 (λf c A o s H E r=>⟨_,(aJ (bX (PW.pt (mD (dQ (bZ K (aQ (mV K) rfl T.jO iL (aF Ad5 (aM (yW T.mQ kI)))) Am9)) (mD (pc (az0 K (n:=eN) r) (aQ (bM K) rfl T.dO cU (aM Ad5)) Ad6) (mO (dQ (bZ K (aQ (iM K) rfl T.rH nP (aM (pm [3] (fY K Ad5) (λ_ _ _ _ _=>(pn 3 xZ)) (λ_ _ _ _ _=>cR) (λ_ _ _ _ _=>(pf (al0 T:) r (aM Ad8)))))) Am9)))))) (aK (aR gH)) bI)
 (aK (aR (pf (cw2 T:) r (aF Ad5 (aM Ad7)))))),by unfold oE;walk_at "r"⟩) rfl Am9
def bg3:dR P w K mg base 5 "_law_together" ["_law_archive_here","_law_sayings_here","_law_datings_here","_law_many","_law_steps_here"] (bO K cn 5 pO):=by
 refine bA (d:=oY) T.bv3 iI X6 (λf c A o s H E r=>⟨_,(aJ (eV E4 rfl (dE rfl T.eC (aM (aQ (bM K) rfl T.dO cU (aM Ad7)))) (pn 5 iI) (aJ (bX (PW.pt (mD (dQ (bZ K (pf (lP T:) r (aF (px K Ad7 Ae0) (aF Ad8 (aM Ad9)))) Am9)) (mO (dQ (bZ K (pf (bs1 T:) r (aF Ad5 (aF Ad6 (aM (px K Ad7 Ae0))))) Am9))))) (aK (aR gH)) bI)
 (aJ (pz 6 iI (px K Ad7 (aL bV (aL (bF K) (aL kY aG Ae0) aG) (aQ (bM K) rfl T.dO cU (aM Ad7)))))
 (aJ (pk 7 iI [9] (dE rfl T.eC (aM Ad8)) (λ_ _ _ _ _=>(pn 9 iI)) (λ_ _ _ _ _=>cR) (λ_ _ _ _ _=>(aQ (jH K) rfl T.uI oS (aF (px K (px K Ad7 Ae0) Ae4) (aM (px K Ae1 Ae4))))))
 (aJ (pk 8 iI [9] (dE rfl T.eC (aM Ad8)) (λ_ _ _ _ _=>(pn 9 iI)) (λ_ _ _ _ _=>cR) (λ_ _ _ _ _=>(aQ (oJ K) rfl T.aj3 yS (aF (px K (px K Ad7 Ae0) Ae4) (aM (px K Ae1 Ae4))))))
 (aJ (bX (PW.pt (mD (dQ (bZ K (pf (lP T:) r (aF Ae2 (aF Ad8 (aM Ad9)))) Am9)) (mO (dQ (bZ K (pf (lP T:) r (aF Ae3 (aF Ad8 (aM Ad9)))) Am9))))) (aK (aR gH)) bI)
 (aK (bX (PW.pt (mD (dQ (bZ K (pf (bs1 T:) r (aF Ad5 (aF Ad6 (aM Ae2)))) Am9)) (mO (dQ (bZ K (pf (bs1 T:) r (aF Ad5 (aF Ad6 (aM Ae3)))) Am9))))) (aK (aR gH)) bI))))))))
 (aK (aR gH))),by unfold oY;walk_at "r"⟩) rfl Am9
def cu6:dR P w K mg base 9 "earliest" ["archive","sayings"] (bO K cn 2 wU):=by refine bA (d:=wV) T.cy7 ao0 X6 (λf c A o s H E r=>⟨_,(aK (aR (pm [2,3] (fY K (pf (xF T:) r (aF Ad5 (aM Ad6)))) (λ_ _ _ _ _=>(fX K 2 rfl (bK (pn 2 ao0) (bK (pn 3 ao0) fW)))) (λ_ _ _ _ _=>cR) (λ_ _ _ _ _=>Ad7)))),by unfold wV;walk_at "r"⟩) rfl Am9
def df6:dR P w K mg base 9 "latest" ["archive","sayings"] (bO K cn 2 ax2):=by refine bA (d:=aw2) T.dz6 at4 X6 (λf c A o s H E r=>⟨_,(aK (aR (pm [2,3] (fY K (pf (xF T:) r (aF Ad5 (aM Ad6)))) (λ_ _ _ _ _=>(fX K 2 rfl (bK (pn 2 at4) (bK (pn 3 at4) fW)))) (λ_ _ _ _ _=>cR) (λ_ _ _ _ _=>Ad8)))),by unfold aw2;walk_at "r"⟩) rfl Am9
def cu2:dR P w K mg base 9 "_law_wider" ["_law_archive_here","_law_sayings_here","_law_spans","_law_cell_here"] (bO K cn 4 qK):=by
 refine bA (d:=vQ) T.cg3 tT X6 (λf c A o s H E r=>⟨_,(aJ (bX (pc (oe K r) Ad6 (cW oP)) (aK (aR gH)) bI)
 (aJ (pz 4 tT (aL bV Ad8 (aQ (bM K) rfl T.dO cU (aM Ad6))))
 (aJ (pz 5 tT (pf (xF T:) r (aF Ad5 (aM (aL (bF K) (kL (yC K) Ad6 pJ (kF Ad9)) (kL (yC K) Ad6 (kF (aL (bF K) Ad9 aG)) pJ))))))
 (aK (aR (aQ (iM K) rfl T.rH nP (aM (pm [6] (dE rfl T.eC (aM (aQ (bM K) rfl T.dO cU (aM Ad7)))) (λ_ _ _ _ _=>(pn 6 tT)) (λ_ _ _ _ _=>cR) (λ_ _ _ _ _=>(sX (iS jE (px K (px K Ae0 Ae1) aG) (px K (px K Ad7 Ae1) aG) (qJ _)) (sY (iS jE (px K (px K Ad7 Ae1) aG) (px K (px K Ae0 Ae1) aG) (qJ _))))))))))))),by unfold vQ;walk_at "r"⟩) rfl Am9
def bx5:dR P w K mg base 1 "_law_between" ["_law_first","_law_datings_here","_law_last"] (bO K cn 3 qU):=by
 refine bA (d:=qV) T.bp6 uU X6 (λf c A o s H E r=>⟨_,(aJ (eV E4 rfl (fY K Ad6) (pn 3 uU) (aK (eV E4 rfl (dE rfl T.eC (aM (aQ (bM K) rfl T.dO cU (aM Ad8)))) (pn 4 uU) (aK (bX (dQ (yB jE jE (px K Ad5 Ad9) (px K Ad8 Ad9) (px K Ad7 Ad9))) (aK (aR gH)) bI)))))
 (aK (aR gH))),by unfold qV;walk_at "r"⟩) rfl Am9
def ev7{f:Addr}{fd:FuncData}(F:Fun K "law" "law" xH f fd):FnOk P w K mg base lI 10 f fd ["_law_script"] (bO K cn 1 bp7):=by
 refine bb3 (d:=bq7) F iQ (λcdv A outer s H E hr=>⟨_,(aJ (pz 1 iQ (pf (cm2 T:) hr (aF Ad5 (aM aG))))
 (aJ (pz 2 iQ (pf (bx9 T:) hr (aF (aL gT (pf (wZ T:) hr (aF Ad5 (aM aG))) aG) (aM Ad6))))
 (aJ (pz 3 iQ (pf (bt5 T:) hr (aF (kL (yC K) Ad5 (kF aG) (kF aG)) (aF Ad6 (aF (iS (oe K hr) (aL bV (pf (wZ T:) hr (aF Ad5 (aM aG))) aG) aG (qJ _)) (aM Ad7))))))
 (aJ (pz 4 iQ (pf (bz5 T:) hr (aM Ad6)))
 (aJ (pz 5 iQ (pf (cs5 T:) hr (aF Ad9 (aM Ad8))))
 (aJ (pz 6 iQ (pf (cj2 T:) hr (aF Ad6 (aM Ad8))))
 (aJ (pz 7 iQ (aQ (bM K) rfl T.dO cU (aM (px K Ad6 aG))))
 (aJ (pz 8 iQ (aL bV (aL gT (pf (wZ T:) hr (aF Ad5 (aM aG))) aG) (aL au8 aG aG)))
 (aJ (qH (pf (bp5 T:) hr (aF Ad9 (aM Ae0))) (fX K 2 rfl (bK (pn 9 iQ) (bK (pn 10 iQ) fW))))
 (aJ (bX (pc (oe K hr) Ae4 cF) (aJ (pz 11 iQ (bv9 K T.db7 T.ds8 (aM (pm [16] (fY K Ae5) (λ_ _ _ _ _=>(pn 16 iQ)) (λ_ _ _ _ _=>(bx1 (pc sK (px K (pv 16) aG) eH))) (λ_ _ _ _ _=>(px K (pv 16) aG))))))
 (aK (aR (sX (pf (bf6 T:) hr (aF Ae5 (aM Ae1))) (sY (iS (oe K hr) (px K (pf (bp5 T:) hr (aF Ad9 (aM (pm [17] (fY K Ae6) (λ_ _ _ _ _=>(pn 17 iQ)) (λ_ _ _ _ _=>cR) (λ_ _ _ _ _=>(px K Ae0 (pv 17))))))) aG) cF (qJ _))))))) bI)
 (aJ (pz 12 iQ (pf (xF T:) hr (aF Ad9 (aM Ae0))))
 (aJ (pz 13 iQ (pf (bi6 T:) hr (aF Ad9 (aF Ae0 (aF Ae7 (aM Ae3))))))
 (aJ (bX (dQ (bZ K (pf (bg3 T:) hr (aF Ad9 (aF Ae0 (aF (pv 13) (aF Ae2 (aM Ae1)))))) Am9)) (aK (aR gH)) bI)
 (aJ (pz 14 iQ (pf (cu6 T:) hr (aF Ad9 (aM Ae0))))
 (aJ (pz 15 iQ (pf (df6 T:) hr (aF Ad9 (aM Ae0))))
 (aJ (bX (PW.pt (mD (dQ (bZ K (pf (lP T:) hr (aF Ae9 (aF Ae2 (aM Ae1)))) Am9)) (mO (dQ (bZ K (pf (lP T:) hr (aF (pv 15) (aF Ae2 (aM Ae1)))) Am9))))) (aK (aR gH)) bI)
 (aK (aR (sX (pf (bx5 T:) hr (aF Ae9 (aF (pv 13) (aM (pv 15))))) (sY (pf (cu2 T:) hr (aF Ad9 (aF Ae0 (aF Ae7 (aM Ae3))))))))))))))))))))))))),by unfold bq7;walk_at "r"⟩) rfl Am9
end
def ec7{l:PySem.W.OpenLaw}{w:World}{K:A5}{h:Heap}{mg:ac}{fa f0:Addr}(X:K.In h)(G:h.Ns mainGlobals mg)(hfa:mg "law"=some (.ref fa))
 {od0 an0:br}{sl0:bv}{oc0 kV0 dc0 pm0 cd0 ct0:Value}
 (a0:PySem.W.nsIn K mainGlobals "law"=some (some (.ref f0)))(l0:K.lookup f0=some ⟨oc0,od0,.func (PySem.W.fnOf "law" "law" (kK xH) (eJ xH) (aN xH) .none kV0 dc0 pm0 an0 cd0 ct0),sl0⟩)(c0:PySem.W.codeIn K cd0 "law"=true)(k0:PySem.W.keepIn K (.ref f0)=true)
 {cn:aa}{Am0 Am2 Am3 Am5 Am1 Al8 Am4 Am6 Al9:Addr}{sL xU iU:ay}
 (T:Txt w K cn mg Am0 Am2 Am3 Am5 Am1 Al8 Am4 Am6 Al9 sL xU iU)
 (main:∀ns:List Int,ns.length<=63->(∀n∈ns,Builtin.Int.intBits n<=1048576)->bp7 [.lst false (ns.map .int)]=.ok (.bl true)):
 ∃fd:FuncData,(∀(s:B8)(v:Value),BindsTo s fd ⟨[v],[]⟩ [("_law_script",v)])/\∀base:Heap,K.In base->base.Ns mainGlobals mg->FnOk l.prog w K mg base lI 10 fa fd ["_law_script"] (bv7 K):=by
 have e:=hfa.symm.trans (R3 X G a0);cases e;have F0:=ad9 (st:=xH) l0 c0 k0;have key:∀base:Heap,FnOk l.prog w K mg base lI 10 fa (PySem.W.fnOf "law" "law" (kK xH) (eJ xH) (aN xH) .none kV0 dc0 pm0 an0 cd0 ct0) ["_law_script"] (bv7 K):=by intro base;exact law_fn (ev7 T F0) main
 exact⟨_,λs v=>.of_eq rfl,λbase _ _=>key base⟩
def jB(n k:Int):Int:=
 let p:=(n%1000000021+4099*k+77)*30011%2140000027
 let f:=p/46133*(p%46133)+6007*(p/46133)+271*(p%46133)+k
 f*(f%1009+7919)%1700000009
def bt1(n k:Int):0<=jB n k/\jB n k<1700000009:=⟨G9 _ X5,J7 _ X5⟩
def cw3(n k:Int):fQ [.int n,.int k]=.ok (.int (jB n k)):=by unfold fQ vJ;have q:∀f:Int,mulOk f (f%1009+7919):=λf=>ch7 (by have:=G9 f (show(1009:Int)≠0 by decide);omega) (by have:=J7 f (show(0:Int)<1009 by decide);omega);have q2:∀p:Int,mulOk (p/46133) (p%46133):=λp=>ch7 (by have:=G9 p (show(46133:Int)≠0 by decide);omega) (by have:=J7 p (show(0:Int)<46133 by decide);omega);have q3:∀p:Int,ag0 p 46133:=λp=>⟨X5,X5⟩;walk_at "e";rfl
def cv8(o:Bool)(ns:ah)(k:Nat):jV [.lst o (ns.map .int),.int k]=.ok (.int (ns.getD k 0)):=by
 unfold jV wR;by_cases h:k<ns.length
 . have h1:decide ((k:Int)<(ns.length:Nat))=true:=by simpa using h
   have h2:atI (ns.map T.int) (k:Int)=some (.int (ns.getD k 0)):=gG (by simp[A8,A6 h]);walk_at "e"
 . have h1:decide ((k:Int)<(ns.length:Nat))=false:=by simpa using h
   have h2:ns.getD k 0=0:=by simp[A8,J6 (show ns.length<=k by omega)]
   walk_at "e"
def eight:List Str:=["a","ab","abc","b","ba","zzzzzzzz","zzzzzzzy","q"]
def turned(k:Nat):List Str:=eight.drop k++eight.take k
def bz9(xs:List α)(k:Nat)(h:k<=xs.length):fJ xs (some (k:Int)) none=xs.drop k:=by
 unfold fJ;have e1:HT.sIx xs.length 0 (some (k:Int))=k:=by simp only[HT.sIx];rw[D7 W9];omega
 have e2:HT.sIx xs.length xs.length none=xs.length:=rfl;rw[e1,e2,V3 X4]
def ax1(xs:List α)(k:Nat):fJ xs none (some (k:Int))=xs.take k:=by
 unfold fJ;have e1:HT.sIx xs.length 0 none=0:=rfl;have e2:HT.sIx xs.length xs.length (some (k:Int))=min k xs.length:=by simp only[HT.sIx];rw[D7 W9];omega
 rw[e1,e2,List.drop_zero,Nat.sub_zero];rw[List.take_eq_take_iff];omega
def ea1(n:Int):vG [.int n]=.ok (.lst true ((turned (n%8).toNat).map .str)):=by
 unfold vG vA;have h0:=G9 n (show(8:Int)≠0 by decide);have h1:=J7 n (show(0:Int)<8 by decide);obtain⟨k,hk⟩:=uQ h0;have hk8:k<8:=W9
 have c1:fJ [T.str "a",.str "ab",.str "abc",.str "b",.str "ba",.str "zzzzzzzz",.str "zzzzzzzy",.str "q"] (some (n%8)) none=(eight.drop k).map .str:=by rw[hk];exact(bz9 (eight.map T.str) k (by show k<=8;omega)).trans List.map_drop.symm
 have c2:fJ [T.str "a",.str "ab",.str "abc",.str "b",.str "ba",.str "zzzzzzzz",.str "zzzzzzzy",.str "q"] none (some (n%8))=(eight.take k).map .str:=by rw[hk];exact(ax1 (eight.map T.str) k).trans U6.symm
 have l1:(eight.drop k).length+(eight.take k).length<=100000:=by simp[eight];omega
 rw[show(turned (n%8).toNat)=eight.drop k++eight.take k by rw[hk];rfl,J1];clear hk;walk_at "e"
structure Fm where
 a:Int
 s:Int
 n:List Str
 i:List (Str×List Int)
 r:List (Str×Int×Int)
def gL(o:Bool)(p:Str×List Int):T:=.tup [.str p.1,.lst o (p.2.map .int)]
def iE(p:c9):T:=.tup [.str p.1,.int p.2.1,.int p.2.2]
def gZ(o:Bool)(f:Fm):T:=.tup [.int f.a,.int (f.a+f.s),.lst o (f.n.map .str),.lst o (f.i.map (gL o)),.lst o (f.r.map iE)]
def pR(w:Str):Bool:=decide (1<=(w.length:Int))&&(decide ((w.length:Int)<=8)&&w.cps.toList.all λc=>occ "abcdefghijklmnopqrstuvwxyz" ⟨#[c]⟩)
structure TabOk (xs:ah):Prop where
 l1:1<=xs.length
 l60:xs.length<=60
 b:∀x∈xs,0<=x/\x<=408
 f:xs.Pairwise (λa b=>b<=a)
structure Gd (f:Fm):Prop where
 s0:0<=f.s
 s1:f.s<=300
 f0:-3000<=f.a
 f1:f.a+f.s<=3000
 n1:1<=f.n.length
 n8:f.n.length<=8
 nn:∀x∈f.n,pR x=true
 nd:f.n.Nodup
 i1:2<=f.i.length
 i6:f.i.length<=6
 ind:(f.i.map (·.1)).Nodup
 inn:∀p∈f.i,pR p.1=true/\TabOk p.2
 r1:2<=f.r.length
 r8:f.r.length<=8
 rnd:(f.r.map (·.1)).Nodup
 rn:∀p∈f.r,pR p.1=true/\-4000<=p.2.1/\p.2.1<=4000/\1<=p.2.2/\p.2.2<=100
def bw8(l:ah){i:Int}(h0:0<=i)(h1:i<l.length):∃v,atI (l.map T.int) i=some (.int v)/\v∈l:=by
 obtain⟨k,rfl⟩:=uQ h0;have hk:k<l.length:=W9
 exact⟨l[k],gG (by simp[hk]),K3 hk⟩
def sixI:List Str:=["oak","soot","oa","ink","oakoak","s"]
def sixR:List Str:=["an","b","annab","zz","nn","a"]
def dv0(l:ax)(h1:i<l.length):∃v,atI (l.map T.str) (0+(i:Int))=some (.str v)/\l[i]?=some v:=by rw[M7];exact⟨l[i],gG (by simp[h1]),A6 h1⟩
def nU(l:cv):bB (l.map (gL false))=true:=nE (λa=>by simp only[gL,cP,bB,jC,P7,H0]) l
def ab0(l:cv):dD (l.map (gL true))=true:=lJ (λa=>by simp only[gL,cT,dD,gB,H0]) l
theorem sI(o:Bool):∀l:List (Str×List Int),frzs (l.map (gL o))=l.map (gL false)
 |[]=>rfl
 |p::l=>by simp only[C7,frzs,sI o l,gL,frz,gK]
def mW(l:ce):bB (l.map iE)=true:=nE (λa=>rfl) l
def am9(l:ce):dD (l.map iE)=true:=lJ (λa=>rfl) l
def uP(l:ce):frzs (l.map iE)=l.map iE:=yJ (λa=>rfl) l
def el0(ns:ah):∃f,vM [.lst false (ns.map .int),.int 8]=.ok (gZ true f)/\Gd f:=by
 unfold vM vK
 have ew:=cw3
 have ec:jV [.lst false (ns.map .int),.int 0]=.ok (.int (ns.getD 0 0)):=cv8 false ns 0
 have en:=ea1
 have hp:ah0 (.int 10) (.int 15)=.ok (.int 1000000000000000):=by
  rw[as4,eO (show ak2 10 15 from⟨X5,X5,X5⟩)]
  rfl
 have hc0:0<=ns.getD 0 0%1000000000000000:=G9 _ X5
 generalize hc:ns.getD 0 0%1000000000000000=c at hc0
 obtain⟨span,hs,ms⟩:=bw8 [0,1,3,8,20,20,60,300] (i:=c%8) W9 (by simp;omega)
 obtain⟨first,hf,mf⟩:=bw8 [-3000,3000-span,-10,1400] (i:=c/8%4) W9 (by simp;omega)
 simp only[C7,L3]at hs hf
 walk_at "e"
 clear hs hf hp ec en
 generalize hL:dI _ _ _ _=o
 obtain⟨ρ',rfl,inks,o7,o8,o9,o10,rfl,il,inm,iok⟩:=fL (λi U=>∃(inks:cv)(o7 o8 o9 o10:bc),U=[some (T.lst false (List.map T.int ns)),some (T.int 8),some (T.int c),some (T.int span),
  some (T.int first),some (T.lst true (fJ (List.map T.str (turned (c/32%8).toNat)) none (some (1+c/256%8)))),some (T.lst true (inks.map (gL true))),o7,o8,o9,o10,none,none]/\
  inks.length=i/\inks.map (·.1)=sixI.take i/\∀p∈inks,TabOk p.2) hL ⟨[],_,_,_,_,rfl,rfl,rfl,fH⟩ (by
  rintro i t U et ⟨inks,o7,o8,o9,o10,rfl,il,inm,iok⟩
  obtain⟨hi,rfl⟩:=mU et
  have hw:=bt1 c 6
  have hi':i<6:=W9
  obtain⟨m,hm,mm⟩:=bw8 [12,60] (i:=c/18432%4/3) W9 (by simp;omega)
  obtain⟨nm,hn,en⟩:=dv0 sixI (i:=i) (by show i<6;exact hi')
  simp only[C7,L3,sixI]at hm hn
  have hm0:0<m:=by simp at mm;omega
  have hw2:=G9 (jB c (0+(i:Int))) (show m≠0 by omega)
  have hw3:=J7 (jB c (0+(i:Int))) hm0
  have hw4:jB c (0+(i:Int))%m<60:=by simp at mm;omega
  clear mm
  clear hL et
  walk_at "e"
  generalize hL:dI _ _ _ _=o
  obtain⟨ρ',rfl,xs,d,p10,rfl,xl,xb,xf,hd0,hd1⟩:=fL (λj U=>∃(xs:ah)(d:Int)(p10:bc),U=[some (T.lst false (List.map T.int ns)),some (T.int 8),some (T.int c),some (T.int span),
   some (T.int first),some (T.lst true (fJ (List.map T.str (turned (c/32%8).toNat)) none (some (1+c/256%8)))),some (T.lst true (inks.map (gL true))),some (.int (0+(i:Int))),some (.int d),some (.lst true (xs.map .int)),p10,none,none]/\
   xs.length=j+1/\(∀x∈xs,d<=x/\x<=408)/\xs.Pairwise (λa b=>b<=a)/\0<=d/\d<=408) hL ⟨[400+c/2048%9],_,_,rfl,rfl,by simp;omega,X4,W9,W9⟩ (by
   rintro j t U et ⟨xs,d,p10,rfl,xl,xb,xf,hd0,hd1⟩
   obtain⟨hj,rfl⟩:=mU et
   have hj':j<60:=W9
   have z0:=G9 (jB c (10*(0+(j:Int))+(0+(i:Int)))) (show(13:Int)≠0 by decide)
   have hl:xs.length<=100000:=W9
   clear hL et
   walk_at "e"
   refine⟨xs++[if d-jB c (10*(0+(j:Int))+(0+(i:Int)))%13>0 then d-jB c (10*(0+(j:Int))+(0+(i:Int)))%13 else 0],_,_,by rw[J1];rfl,by simp[xl],?_,?_,?_,?_⟩
   . intro x hx
     rcases A9.mp hx with hx|hx
     . have:=xb x hx
       split<;>omega
     . have hx:=C5.mp hx
       subst hx
       split<;>omega
   . rw[List.pairwise_append]
     refine⟨xf,X4,λa ha b hb=>?_⟩
     have hb:=C5.mp hb
     subst hb
     have:=xb a ha
     split<;>omega
   . split<;>omega
   . split<;>omega)
  rw[cI]at xl
  clear hL
  have hl:inks.length<=100000:=W9
  walk_at "e"
  refine⟨inks++[(nm,xs)],_,_,_,_,by rw[J1];rfl,by simp[il],?_,?_⟩
  . rw[J1,inm,List.take_succ,en]
    rfl
  . intro p hp
    rcases A9.mp hp with hp|hp
    . exact iok p hp
    . have hp:=C5.mp hp
      subst hp
      exact⟨by show 1<=xs.length;omega,by show xs.length<=60;omega,λx hx=>⟨N8 hd0 (xb x hx).1,(xb x hx).2⟩,xf⟩)
 rw[cI]at il inm
 clear hL
 have h9:0<span+9:=by simp at ms;omega
 have b0:=G9 (jB c 3) (show span+9≠0 by omega)
 have b1:=J7 (jB c 3) h9
 have b2:=bt1 c 7
 have sb:0<=span/\span<=300:=by simp at ms;omega
 have fb:-3000<=first/\first+span<=3000:=by simp at mf;omega
 walk_at "e"
 have t1:Int.toNat 1=1:=rfl
 generalize hL:dI _ _ _ _=o
 obtain⟨ρ',rfl,r0,rest,b,q7,rfl,e0,rn,rl,rb,hb0,hb1⟩:=fL (λi U=>∃(r0:c9)(rest:ce)(b:Int)(q7:bc),U=[some (T.lst false (List.map T.int ns)),some (T.int 8),some (T.int c),some (T.int span),
  some (T.int first),some (T.lst true (fJ (List.map T.str (turned (c/32%8).toNat)) none (some (1+c/256%8)))),some (T.lst true (inks.map (gL true))),q7,o8,o9,o10,some (.int b),some (.lst true (iE r0::rest.map iE))]/\
  r0.1="ann"/\rest.map (·.1)=(sixR.take i).reverse++[("anna":Str)]/\rest.length=i+1/\(∀p∈r0::rest,-4000<=p.2.1/\p.2.1<=4000/\1<=p.2.2/\p.2.2<=100)/\first-5-4*i<=b/\b<=first+span+3+4*i) hL
  ⟨("ann",first-5+jB c 3%(span+9),1+jB c 4%30),[("anna",first-5+jB c 3%(span+9)+3,1+jB c 5%100)],_,_,rfl,rfl,rfl,rfl,by simp;omega,W9,W9⟩ (by
  rintro i t U et ⟨r0,rest,b,q7,rfl,e0,rn,rl,rb,hb0,hb1⟩
  obtain⟨hi,rfl⟩:=mU et
  have hi':i<6:=W9
  obtain⟨nm,hn,en⟩:=dv0 sixR (i:=i) (by show i<6;exact hi')
  simp only[C7,L3,sixR]at hn
  have l1:(rest.map iE).length+1<=100000:=by rw[C3];omega
  have l2:1<=(rest.map iE).length+1:=W9
  rw[C3]at l1 l2
  clear hL et
  walk_at "e"
  rw[E3 ⟨X5,W9⟩]
  refine⟨r0,(nm,b+jB c (8+(0+(i:Int)))%9-4,1+jB c (14+(0+(i:Int)))%60)::rest,_,_,rfl,e0,?_,by simp[rl],?_,?_,?_⟩
  . rw[C7,rn,List.take_succ,en]
    simp
  . intro p hp
    rcases C4.mp hp with rfl|hp
    . exact rb _ B7
    . rcases C4.mp hp with rfl|hp
      . simp only
        omega
      . exact rb p (B5 _ hp)
  . omega
  . omega)
 rw[cI]at rn rl hb0 hb1
 clear hL
 have k0:0<=1+c/256%8:=W9
 obtain⟨kn,hkn⟩:=uQ k0
 have ct:fJ (List.map T.str (turned (c/32%8).toNat)) none (some (1+c/256%8))=((turned (c/32%8).toNat).take kn).map .str:=by
  rw[hkn,ax1,U6]
 have hk8:1<=kn/\kn<=8:=W9
 obtain⟨kt,hkt⟩:∃kt:Nat,kt<8/\(c/32%8).toNat=kt:=⟨(c/32%8).toNat,W9,rfl⟩
 obtain⟨im,him⟩:∃im:Nat,(2<=im/\im<=6)/\(2+jB c 6%5).toNat=im:=⟨_,W9,rfl⟩
 obtain⟨rm,hrm⟩:∃rm:Nat,rm<=6/\(jB c 7%7).toNat=rm:=⟨_,W9,rfl⟩
 rw[hkt.2]at ct
 rw[him.2]at il inm
 rw[hrm.2]at rn rl
 rw[hkt.2]
 refine⟨⟨first,span,(turned kt).take kn,inks,r0::rest⟩,?_,?_⟩
 . clear hkn
   walk_at "e"
   simp only[gZ,C7]
 . have turn_ok:∀k,k<8->(turned k).length=8/\(turned k).Nodup/\∀x∈turned k,pR x=true:=X0
   obtain⟨u1,u2,u3⟩:=turn_ok kt hkt.1
   have ink_ok:sixI.Nodup/\∀x∈sixI,pR x=true:=X0
   have rg_ok:∀k,k<=6->(("ann":Str)::((sixR.take k).reverse++[("anna":Str)])).Nodup/\∀x∈("ann":Str)::((sixR.take k).reverse++[("anna":Str)]),pR x=true:=X0
   obtain⟨v1,v2⟩:=rg_ok rm hrm.1
   have rnm:(r0::rest).map (·.1)=("ann":Str)::((sixR.take rm).reverse++[("anna":Str)]):=by rw[C7,rn,e0]
   exact{
    s0:=sb.1
    s1:=sb.2
    f0:=fb.1
    f1:=fb.2
    n1:=by simp[u1];omega
    n8:=by simp[u1];omega
    nn:=λx hx=>u3 x (O2 hx)
    nd:=u2.sublist (List.take_sublist _ _)
    i1:=by show 2<=inks.length;omega
    i6:=by show inks.length<=6;omega
    ind:=by show(inks.map (·.1)).Nodup;rw[inm];exact ink_ok.1.sublist (List.take_sublist _ _)
    inn:=λp hp=>⟨ink_ok.2 _ (O2 (i:=im) (by rw[<-inm];exact M8 hp)),iok p hp⟩
    r1:=by simp[rl]
    r8:=by simp[rl];omega
    rnd:=by show((r0::rest).map (·.1)).Nodup;rw[rnm];exact v1
    rn:=λp hp=>⟨v2 _ (by rw[<-rnm];exact M8 hp),rb p hp⟩}
def uS(h:n<=100000):n<=sizeLine:=K1 h X5
theorem fk3(l:List α)(p:α->Bool):(l.map λc=>p c).all id=l.all p:=by
 induction l with
 |nil=>rfl
 |cons a l ih=>simp only[C7,List.all_cons,ih,id]
theorem lC:∀{l:List α},(∀a∈l,(match b (g a) U with|some ρ1=>(c ρ1).bind λk=>if k=true then d ρ1 else .no|none=>.no)=.ok (f a))->cC b c d U (l.map g)=.ok (l.map f)
 |[],_=>rfl
 |a::l,h=>by
  have h0:=h a B7;have ih:=lC (l:=l) λu hu=>h u (B5 _ hu);simp only[C7,cC];cases e:b (g a) U with
  |none=>rw[e]at h0;cases h0
  |some ρ1=>
   rw[e]at h0;simp only at h0⊢;cases e2:c ρ1 with
   |ok k=>
    rw[e2]at h0;simp only[rY]at h0⊢;cases k with
    |true=>rw[E3 rfl]at h0⊢;rw[h0,ih];rfl
    |false=>rw[D7 X5]at h0;cases h0
   |ex x=>rw[e2]at h0;cases h0
   |no=>rw[e2]at h0;cases h0
theorem cb1(w s:Str)(m:Int)(hw:w.length<=100000):tK [.str w,.str s,.int m]=.ok (.bl (decide (1<=(w.length:Int))&&(decide ((w.length:Int)<=m)&&w.cps.toList.all λc=>occ s ⟨#[c]⟩))):=by
 unfold tK tU;have h2:w.cps.toList.length<=sizeLine:=by rw[<-eq0];exact uS hw
 have hc:cC (aI 3) bY (aE (inT false) (aB 3) (aB 1)) [some (.str w),some (.str s),some (.int m),none] (w.cps.toList.map λc=>T.str ⟨#[c]⟩)=.ok ((w.cps.toList.map λc=>occ s ⟨#[c]⟩).map .bl):=by rw[J4];exact cX λc _=>by walk_at "e";rfl
 walk_at "e";cases hA:decide (1<=(w.length:Int))with
 |false=>walk_at "e"
 |true=>
  cases hB:decide ((w.length:Int)<=m)with
  |false=>walk_at "e"
  |true=>walk_at "e";rw[fk3]
def aq4(h:pR w=true):w.length<=8:=by unfold pR at h;simp only[G8,decide_eq_true_iff]at h;omega
def cg9(h:pR w=true):vU [.str w]=.ok (.bl true):=by unfold vU zN;have h1:=cb1 w "abcdefghijklmnopqrstuvwxyz" 8 (by have:=aq4 h;omega);rw[show(decide (1<=(w.length:Int))&&(decide ((w.length:Int)<=8)&&w.cps.toList.all λc=>occ "abcdefghijklmnopqrstuvwxyz" ⟨#[c]⟩))=true from h]at h1;walk_at "e"
theorem aw8(x l u:Int):eF [.int x,.int l,.int u]=.ok (.bl (decide (l<=x)&&decide (x<=u))):=by
 have h:lG [.int x]=.ok (.bl true):=by unfold lG tW;walk_at "e"
 unfold eF oG;cases hA:decide (l<=x)with
 |true=>walk_at "e"
 |false=>walk_at "e"
def rJ(h1:l<=x)(h2:x<=u):eF [.int x,.int l,.int u]=.ok (.bl true):=by rw[aw8,F7 h1,F7 h2];rfl
def ek4(l:List α):l.map (λ_=>T.bl true)=(l.map λ_=>true).map T.bl:=by rw[J4];rfl
def nV(o:Bool)(l:List α):kN false [.lst o (l.map λ_=>T.bl true)]=.ok (.bl true):=by rw[ek4,cz6];simp
def uK{xs:ah}{i:Nat}(h:i<xs.length):atI (xs.map T.int) (i:Int)=some (.int (xs.getD i 0)):=
 gG (by rw[C8,A6 h,A8,A6 h];rfl)
def ex5{xs:ah}(h:xs.Pairwise (λa b=>b<=a)){i:Nat}(hi:i+1<xs.length):xs.getD (i+1) 0<=xs.getD i 0:=by rw[List.pairwise_iff_getElem]at h;have:=h i (i+1) W9 hi W9;simpa[A8,A6 hi,A6 (show i<xs.length by omega)]using this
def ck5(o:Bool){xs:ah}(h:TabOk xs):sO [.lst o (xs.map .int)]=.ok (.bl true):=by
 unfold sO xD;obtain⟨h1,h60,hb,hf⟩:=h;have hc1:cC (aI 1) bY (aW 3 eF (aD (aB 1) (aD Al3 (aD (dC (.int 1000000)) aH)))) [some (.lst o (xs.map .int)),none,none] (xs.map .int)=.ok (xs.map λ_=>.bl true):=by refine cX λc hc=>?_;have:=rJ (hb c hc).1 (N8 (hb c hc).2 (show(408:Int)<=1000000 by decide));walk_at "e"
 have hc2:cC (aI 2) bY (aE lM Aj3 (aE aO (aB 0) (aE cV (aB 2) Al4))) [some (.lst o (xs.map .int)),none,none] (cK 1 ((xs.length:Int)-1).toNat)=.ok ((List.range (xs.length-1)).map λ_=>.bl true):=by
  unfold cK;rw[show((xs.length:Int)-1).toNat=xs.length-1 by omega];refine cX λi hi=>?_;have hi:=F9.mp hi;have a1:atI (xs.map T.int) (1+(i:Int))=some (.int (xs.getD (i+1) 0)):=by rw[show(1:Int)+(i:Int)=((i+1:Nat):Int) by omega];exact uK W9
  have a2:atI (xs.map T.int) (1+(i:Int)-1)=some (.int (xs.getD i 0)):=by rw[show(1:Int)+(i:Int)-1=(i:Int) by omega];exact uK W9
  have a3:=F7 (ex5 hf (i:=i) W9);walk_at "e"
 have hl2:(cK 1 ((xs.length:Int)-1).toNat).length<=sizeLine:=by rw[cI];exact uS W9
 have k1:decide (1<=(xs.length:Int))=true:=F7 W9;have k2:decide ((xs.length:Int)<=60)=true:=F7 W9;have y1:=λo=>nV o xs;have y2:=λo=>nV o (List.range (xs.length-1));clear hb hf;walk_at "e"
def ct5(h1:-4000<=b)(h2:b<=4000)(h3:1<=l)(h4:l<=100):tQ [.int b,.int l]=.ok (.bl true):=by unfold tQ xK;have k1:=rJ h1 h2;have k2:=rJ h3 h4;walk_at "e"
def cv2(h1:-3000<=a)(h2:a<=b)(h3:b<=3000)(h4:b-a<=300):vD [.int a,.int b]=.ok (.bl true):=by unfold vD vC;have k1:=rJ h1 (show a<=3000 by omega);have k2:=rJ (show -3000<=b by omega) h3;have k3:decide (0<=b-a)=true:=F7 W9;have k4:decide (b-a<=300)=true:=F7 W9;walk_at "e"
def af0{o:Bool}{ss:ax}{l u:Int}(h1:l<=ss.length)(h2:(ss.length:Int)<=u)(h3:ss.length<=1000)(hn:∀x∈ss,pR x=true)(nd:ss.Nodup):nR [.lst o (ss.map .str),.int l,.int u]=.ok (.bl true):=by
 unfold nR vE;have hc:cC (aI 3) bY (aW 1 vU (aD (aB 3) aH)) [some (.lst o (ss.map .str)),some (.int l),some (.int u),none] (ss.map .str)=.ok (ss.map λ_=>.bl true):=by refine cX λc hc=>?_;have:=cg9 (hn c hc);walk_at "e"
 have k1:decide (l<=(ss.length:Int))=true:=F7 h1;have k2:decide ((ss.length:Int)<=u)=true:=F7 h2;have y1:=λo=>nV o ss;have ls:=de5 o nd h3;have l4:ss.length<=100000:=W9
 clear hn nd;walk_at "e";simp
def cn5{is:cv}(h6:is.length<=6)(nd:(is.map (·.1)).Nodup)(ok:∀p∈is,pR p.1=true/\TabOk p.2):xA [.lst false (is.map (gL false))]=.ok (.bl true):=by
 unfold xA wS;have hc1:cC Aj9 bY (aU (aB 1)) [some (.lst false (is.map (gL false))),none,none] (is.map (gL false))=.ok ((is.map (·.1)).map .str):=by rw[J4];exact lC λp _=>by simp only[gL];walk_at "e";rfl
 have hc2:cC Aj9 bY (aW 1 sO (aD (aB 2) aH)) [some (.lst false (is.map (gL false))),none,none] (is.map (gL false))=.ok (is.map λ_=>.bl true):=by refine lC λp hp=>?_;simp only[gL];have:=ck5 false (ok p hp).2;walk_at "e"
 have nm:=af0 (o:=false) (ss:=is.map (·.1)) (l:=0) (u:=6) W9 (by simp;omega) (by simp;omega) (λx hx=>by obtain⟨p,hp,rfl⟩:=M3.mp hx;exact(ok p hp).1) nd;have y1:=λo=>nV o is;have n1:=nU is;have l4:is.length<=100000:=W9
 clear ok nd;walk_at "e"
def cc0{rs:ce}(h8:rs.length<=8)(nd:(rs.map (·.1)).Nodup)(ok:∀p∈rs,pR p.1=true/\-4000<=p.2.1/\p.2.1<=4000/\1<=p.2.2/\p.2.2<=100):uE [.lst false (rs.map iE)]=.ok (.bl true):=by
 unfold uE sR;have hc1:cC (eX (bE (aI 1) Af6)) bY (aU (aB 1)) [some (.lst false (rs.map iE)),none,none,none] (rs.map iE)=.ok ((rs.map (·.1)).map .str):=by rw[J4];exact lC λp _=>by simp only[iE];walk_at "e";rfl
 have hc2:cC (eX (bE (aI 1) Af6)) bY (aW 2 tQ (aD (aB 2) (aD (aB 3) aH))) [some (.lst false (rs.map iE)),none,none,none] (rs.map iE)=.ok (rs.map λ_=>.bl true):=by refine lC λp hp=>?_;simp only[iE];obtain⟨_,k1,k2,k3,k4⟩:=ok p hp;have:=ct5 k1 k2 k3 k4;walk_at "e"
 have nm:=af0 (o:=false) (ss:=rs.map (·.1)) (l:=0) (u:=8) W9 (by simp;omega) (by simp;omega) (λx hx=>by obtain⟨p,hp,rfl⟩:=M3.mp hx;exact(ok p hp).1) nd;have y1:=λo=>nV o rs;have n1:=mW rs;have l4:rs.length<=100000:=W9
 clear ok nd;walk_at "e"
def bT(o:Bool)(f:Fm):T:=.ins o "Archive" ["first","present","letters","inks","reigns"] [.int f.a,.int (f.a+f.s),.lst o (f.n.map .str),.lst o (f.i.map (gL o)),.lst o (f.r.map iE)]
theorem fi1:iC "first" []=none:=rfl
def fi2:iC "present" ["first"]=none:=X0
def fi3:iC "letters" ["first","present"]=none:=X0
def fi4:iC "inks" ["first","present","letters"]=none:=X0
def fi5:iC "reigns" ["first","present","letters","inks"]=none:=X0
def ct1:(["Archive"]:List Str).contains "Archive"=true:=X0
def bk8{f:Fm}(g:Gd f):tV [.int f.a,.int (f.a+f.s),.lst false (f.n.map .str),.lst false (f.i.map (gL false)),.lst false (f.r.map iE)]=.ok (bT true f):=by
 unfold tV mH bT;have k1:=cv2 g.f0 (show f.a<=f.a+f.s by have:=g.s0;omega) g.f1 (by have:=g.s1;omega);have k2:=af0 (o:=false) (l:=1) (u:=8) (ss:=f.n) (by have:=g.n1;omega) (by have:=g.n8;omega) (by have:=g.n8;omega) g.nn g.nd;have k3:=cn5 g.i6 g.ind g.inn;have k4:=cc0 g.r8 g.rnd g.rn;have n1:=nU f.i;have n2:=mW f.r;have z1:=sI false f.i;have z2:=uP f.r;have i1:=fi1;have i2:=fi2;have i3:=fi3;have i4:=fi4;have i5:=fi5;have c1:=ct1;have d0:∀x y z:T,cC Ai5 bY (dF (aD (aU (aB 6)) (aD (bU kS (aD (aB 7) aH)) aH))) [some x,some (.int f.a),some (.int (f.a+f.s)),some y,some (.lst false (f.i.map (gL false))),some z,none,none,none,none] (f.i.map (gL false))=.ok (f.i.map (gL true)):=λx y z=>
  lC λp _=>by simp only[gL];walk_at "e"
 have d1:∀x y z:T,cC (eX (bE (aI 6) (bE (aI 8) (bE (aI 9) fF)))) bY (dF (aD (aU (aB 6)) (aD (aU (aB 8)) (aD (aU (aB 9)) aH)))) [some x,some (.int f.a),some (.int (f.a+f.s)),some y,some z,some (.lst false (f.r.map iE)),none,none,none,none] (f.r.map iE)=.ok (f.r.map iE):=λx y z=>
  lC λp _=>by simp only[iE];walk_at "e"
 have l5:f.r.length<=100000:=by have:=g.r8;omega
 have l4:f.i.length<=100000:=by have:=g.i6;omega
 clear g;have q1:decide (0<1000)=true:=rfl;have q2:decide (1<1000)=true:=rfl;have q3:decide (2<1000)=true:=rfl;have q4:decide (3<1000)=true:=rfl;have q5:decide (4<1000)=true:=rfl;walk_at "e"
def gE(o:Bool)(f:Fm):frz (bT o f)=bT false f:=by simp only[bT,frz,frzs,zY,sI,uP]
def eY(f:Fm):cP (bT false f)=true:=by simp only[bT,cP,bB,mB,nU,mW,P7,H0]
def cj0(f:Fm):cT (bT true f)=true:=by simp only[bT,cT,dD,ar0,ab0,am9,H0]
def ao2(o:Bool)(f:Fm):eQ ["Archive"] "first" (bT o f)=.ok (.int f.a):=X7
def ag2(o:Bool)(f:Fm):eQ ["Archive"] "present" (bT o f)=.ok (.int (f.a+f.s)):=X7
def jZ(o:Bool)(f:Fm):eQ ["Archive"] "letters" (bT o f)=.ok (.lst o (f.n.map .str)):=X7
def cu4(o:Bool)(f:Fm):eQ ["Archive"] "inks" (bT o f)=.ok (.lst o (f.i.map (gL o))):=X7
def be5(o:Bool)(f:Fm):eQ ["Archive"] "reigns" (bT o f)=.ok (.lst o (f.r.map iE)):=X7
def jN{α:Type}(a:α)(l:List α):atI (a::l) 0=some a:=gG (j:=0) rfl
def iO{α:Type}(a b:α)(l:List α):atI (a::b::l) 1=some b:=gG (j:=1) rfl
def sG{α:Type}(a b c:α)(l:List α):atI (a::b::c::l) 2=some c:=gG (j:=2) rfl
def wI{α:Type}(a b c d:α)(l:List α):atI (a::b::c::d::l) 3=some d:=gG (j:=3) rfl
local macro_rules|`(tactic|walk_at "B")=>`(tactic|(have b0:=@jN T;have b1:=@iO T;have b2:=@sG T;have b3:=@wI T))
def ix4{α:Type}(a b c d e:α)(l:List α):atI (a::b::c::d::e::l) 4=some e:=gG (j:=4) rfl
def ba6(g:Gd f):qY [gZ false f]=.ok (bT true f):=by
 unfold qY rF;have hc:cC (eX Af6) bY (dF (aD (aU (aB 2)) (aD Ag9 aH))) [some (gZ false f),none,none,none] (f.i.map (gL false))=.ok (f.i.map (gL true)):=
  lC λp _=>by simp only[gL];walk_at "e"
 have k:=bk8 g;have n1:=nU f.i;have n2:=mW f.r;have z1:=sI true f.i;have z2:=uP f.r;have z3:=ab0 f.i;have l4:f.i.length<=100000:=by have:=g.i6;omega
 have ca:=cj0 f;have a0:=λl=>jN (T.int f.a) l;simp only[gZ]at hc⊢;clear g;walk_at "B";have b4:=@ix4 T;walk_at "e"
def nY:Option Int->T
 |none=>.non
 |some h=>.int h
def lY:List Str:= Al7 
def iD(o:Bool)(c:Str)(ls:ah)(lo:Int)(hi:a9)(x:Str):T:=.ins o c ["spoken","low","high","text"] [.lst o (ls.map .int),.int lo,nY hi,.str x]
def bm2(h:a9):cP (nY h)=true/\cT (nY h)=true/\frz (nY h)=nY h:=by cases h<;>exact⟨rfl,rfl,rfl⟩
def an2(h:a9):cP (nY h)=true:=(bm2 h).1
def ak7(h:a9):cT (nY h)=true:=(bm2 h).2.1
def ce9(h:a9):frz (nY h)=nY h:=(bm2 h).2.2
def cd1(c:Str)(ls:ah)(lo:Int)(hi:a9)(x:Str):cT (iD true c ls lo hi x)=true:=by simp only[iD,cT,dD,gB,ak7,H0]
def do4(c:Str)(ls:ah)(lo:Int)(hi:a9)(x:Str):cP (iD false c ls lo hi x)=true:=by simp only[iD,cP,bB,jC,an2,P7,H0]
def eo5(o:Bool)(c:Str)(ls:ah)(lo:Int)(hi:a9)(x:Str):frz (iD o c ls lo hi x)=iD false c ls lo hi x:=by simp only[iD,frz,frzs,gK,ce9]
theorem fj1:iC "spoken" []=none:=rfl
def fj2:iC "low" ["spoken"]=none:=X0
def fj3:iC "high" ["spoken","low"]=none:=X0
def fj4:iC "text" ["spoken","low","high"]=none:=X0
def ct8:∀c∈lY,( Al7 :List Str).contains c=true:=X0
def en2(h:∀y∈ys,y.length<=2000000)(hl:ys.length<=5)(o:Bool):ap2 (.str " ") [.lst o (ys.map .str)]=.ok (.str (Txt.join " " ys)):=by
 rw[cq4,E3];have hs:(ys.map (·.length)).sum<=ys.length*2000000:=by
  clear hl;induction ys with
  |nil=>simp
  |cons y ys ih=>have h1:=h y B7;have h2:=ih λz hz=>h z (B5 _ hz);simp only[C7,List.sum_cons,List.length_cons];omega
 have h1:(" ":Str).length=1:=X0
 rw[h1];have:ys.length*2000000<=5*2000000:=Nat.mul_le_mul_right _ hl;omega
theorem au5(n:Str):∀ss:List Str,uM (.str n) (ss.map .str)=some (ss.map λs=>s==n)
 |[]=>rfl
 |s::ss=>by simp only[C7,uM,au5 n ss];rfl
theorem cr3:∀{ss:ax}{l:Nat},ss.Nodup->ss[l]?=some n->ad3 (ss.map λs=>s==n)=some l
 |[],l,_,h=>by simp at h
 |s::ss,0,_,h=>by simp at h;subst h;simp[ad3]
 |s::ss,l+1,nd,h=>by
  rw[G6]at nd;simp only[List.getElem?_cons_succ]at h;have hne:(s==n)=false:=by simp;rintro rfl;exact nd.1 (D4 h)
  simp only[C7,hne,ad3,cr3 nd.2 h];rfl
def ec2{f:Fm}(g:Gd f){l:Nat}{n:Str}(h:f.n[l]?=some n)(o:Bool):ae1 (.lst o (f.n.map .str)) [.str n]=.ok (.int (l:Int)):=by simp only[ae1,au5,cr3 g.nd h]
def dq6{ss:ax}{n:Str}(h:n∈ss)(o:Bool):inT false (.str n) (.lst o (ss.map .str))=.ok (.bl true):=by
 have:(ss.map λs=>s==n).any id=true:=by rw[List.any_map,Q8];exact⟨n,h,X4⟩
 simp only[inT,au5,Q0,Q2,this]
def dr6{ts:aw}{ys:ax}{z:Str}(hn:bB ts=true)(hl:ts.length<=100000)(hx:∀a:Option T,cC (aI 1) bY (bU aa0 (aD (aB 1) aH)) [a,none] ts=.ok (ys.map .str))(hj:ap2 (.str " ") [.lst true (ys.map .str)]=.ok (.str z)):ab3 [.lst false ts]=.ok (.str z):=by unfold ab3 az2;walk_at "e"
def ej5{f:Fm}(g:Gd f){c w:Str}(hc:c∈lY){ps:aw}{ds:aw}{nl:List (Str×Nat)}{xs:ax}{lo:Int}{hi:a9}(hp:bB ps=true)(hpl:ps.length<=4)(hk:kt_PARTS.lookup w=some (.tup ds))(hds:bB ds=true)
 (h7:∀a b d e h i:Option T,cC (eX (bE (aI 7) (bE (aI 8) fF))) Ak7 (aU (aB 7)) [a,b,d,e,h,i,none,none,none,none] (lW ps ds)=.ok ((nl.map (·.1)).map .str))
 (hn:nl.length<=4)(hnl:∀p∈nl,f.n[p.2]?=some p.1)
 (hx:∀a:Option T,cC (aI 1) bY (bU aa0 (aD (aB 1) aH)) [a,none] (.str w::ps)=.ok ((w::xs).map .str))(hxl:xs.length<=4)(hxb:∀y∈w::xs,y.length<=2000000):
 ∃x,kT (cO (cD 10 [.ins true c [] [],bT false f,.str w,.lst false ps,.int lo,nY hi]))=.ok (iD true c (nl.map λp=>(p.2:Int)) lo hi x):=by
 refine⟨Txt.join " " (w::xs),?_⟩;unfold cO iD;have hl7:(lW ps ds).length<=sizeLine:=by rw[ac4];exact uS W9
 have i1:=fj1;have i2:=fj2;have i3:=fj3;have i4:=fj4;have cc:=ct8 c hc;have fl:=jZ false f;have h9:cC (aI 9) bY (dBM bh0 ae1 (fE Ak9 (aB 1)) (aD (aB 9) aH)) [some (.ins true c [] []),some (bT false f),some (.str w),some (.lst false ps),some (.int lo),some (nY hi),some (.lst true ((nl.map (·.1)).map .str)),none,none,none] ((nl.map (·.1)).map .str)=.ok ((nl.map λp=>(p.2:Int)).map .int):=by rw[J4,J4];refine cX (α:=Str×Nat) λp hp=>?_;have:=ec2 g (hnl p hp) false;walk_at "e";exact this
 have nh:=an2 hi;have jn:=en2 (ys:=w::xs) hxb (by simp;omega) true;have sp:=dr6 (ts:=.str w::ps) (by simp only[bB,cP,hp,H0]) (by simp only[List.length_cons];omega) hx jn;have zp:=iY ps hp;clear hx jn;have np:=mB;have hxl2:1+xs.length<=sizeLine:=uS W9;have hnn:(nl.map (·.1)).length<=100000:=by simp;omega
 have q1:decide (0<1000)=true:=rfl;have q2:decide (1<1000)=true:=rfl;have q3:decide (2<1000)=true:=rfl;have q4:decide (3<1000)=true:=rfl;clear g hnl hxb;walk_at "e"
def dt0(h:a∈lW ts us):∃(i:Nat)(t u:T),ts[i]?=some t/\us[i]?=some u/\a=.tup [t,u]:=by obtain⟨i,hi⟩:=List.getElem?_of_mem h;obtain⟨t,u,h1,h2,h3⟩:=bf5 hi;exact⟨i,t,u,h1,h2,h3⟩
def cl5{ts:aw}{i:Nat}{t:T}(h:bB ts=true)(e:ts[i]?=some t):cP t=true:=by rw[rX,K4]at h;exact h t (D4 e)
def ds0{f:Fm}{w:Str}{ps:aw}{ds:ax}(hk:kt_PARTS.lookup w=some (.tup (ds.map .str)))(hp:bB ps=true)(hl:ps.length=ds.length)(h4:ds.length<=4)
 (h:∀(i:Nat)(d:Str)(p:T),ds[i]?=some d->ps[i]?=some p->gY [bT false f,.str d,p]=.ok (.bl true)):vY [bT false f,.str w,.lst false ps]=.ok (.bl true):=by
 unfold vY yZ;have na:=eY f;have za:=gE false f;have hc:cC (eX Al0) bY (aW 3 gY (aD (aB 0) Ai1)) [some (bT false f),some (.str w),some (.lst false ps),none,none] (lW (ds.map .str) ps)=.ok ((lW (ds.map .str) ps).map λ_=>.bl true):=by
  have:=lC (b:=eX Al0) (c:=bY) (d:=aW 3 gY (aD (aB 0) Ai1)) (U:=[some (bT false f),some (.str w),some (.lst false ps),none,none]) (g:=id) (f:=λ_=>T.bl true) (l:=lW (ds.map .str) ps) λa ha=>?_
  . rw[List.map_id]at this;exact this
  obtain⟨i,t,u,h1,h2,rfl⟩:=dt0 ha;rw[C8]at h1;cases e:ds[i]? with
  |none=>rw[e]at h1;cases h1
  |some d=>rw[e]at h1;cases h1;have k:=h i d u e h2;have nu:=cl5 hp h2;have zu:=bs4 u nu;simp only[id];clear h hk hp ha;walk_at "e"
 have hs:(kt_PARTS.lookup w).isSome=true:=by rw[hk];rfl
 have e1:(!((ps.length:Int)==(ds.length:Int)))=false:=by rw[hl];simp
 have hpl:(lW (ds.map .str) ps).length<=sizeLine:=by rw[ac4,C3];exact uS W9
 have y:=λo=>nV o (lW (ds.map .str) ps);have nd:=mB ds;clear h hl;walk_at "e"
def yN:∀d∈(["ink","reign","dark","place","year","later","gap"]:List Str),(d=="letter")=false:=X0
def eo4:∀d∈(["reign","dark","place","year","later","gap"]:List Str),(d=="ink")=false:=X0
def fm3:∀d∈(["dark","place","year","later","gap"]:List Str),(d=="reign")=false:=X0
def gW(h:n∈f.n):gY [bT false f,.str "letter",.str n]=.ok (.bl true):=by unfold gY rK;have k:=dq6 h false;have fl:=jZ false f;have e:(("letter":Str)=="letter")=true:=O0 _;walk_at "e"
def ed0(g:Gd f)(h:n∈f.i.map (·.1)):gY [bT false f,.str "ink",.str n]=.ok (.bl true):=by
 unfold gY rK;have fl:=cu4 false f;have e:(("ink":Str)=="ink")=true:=O0 _;have e1:=yN "ink" X0;have k:=dq6 h true;have b0:=@jN T;have l6:f.i.length<=100000:=by have:=g.i6;omega
 have n1:=nU f.i;have hc:cC (aI 3) bY (aU Ah2) [some (bT false f),some (.str "ink"),some (.str n),none,none] (f.i.map (gL false))=.ok ((f.i.map (·.1)).map .str):=by rw[J4];exact cX λp _=>by simp only[gL];walk_at "e";rfl
 clear g h;walk_at "e"
def bl4(g:Gd f)(h:n∈f.r.map (·.1)):gY [bT false f,.str "reign",.str n]=.ok (.bl true):=by
 unfold gY rK;have fl:=be5 false f;have e:(("reign":Str)=="reign")=true:=O0 _;have e1:=yN "reign" X0;have e2:=eo4 "reign" X0;have k:=dq6 h true;have b0:=@jN T;have l6:f.r.length<=100000:=by have:=g.r8;omega
 have n1:=mW f.r;have hc:cC (aI 4) bY (aU Ah3) [some (bT false f),some (.str "reign"),some (.str n),none,none] (f.r.map iE)=.ok ((f.r.map (·.1)).map .str):=by rw[J4];exact cX λp _=>by simp only[iE];walk_at "e";rfl
 clear g h;walk_at "e"
def rW(hd:d∈(["dark","place","year","later","gap"]:List Str))(hk:kt_NUMBERS.lookup d=some (.tup [.int lo,.int hi]))(h1:lo<=i)(h2:i<=hi):gY [bT false f,.str d,.int i]=.ok (.bl true):=by unfold gY rK;have e1:=yN d (B5 _ (B5 _ hd));have e2:=eo4 d (B5 _ hd);have e3:=fm3 d hd;have k:=rJ h1 h2;have b0:=@jN T;have b1:=@iO T;walk_at "e"
def co4:kt_NUMBERS.lookup ("dark":Str)=some (.tup [.int 0,.int 1000000]):=X7
def dh3:kt_NUMBERS.lookup ("place":Str)=some (.tup [.int 1,.int 100]):=X7
def cf4:kt_NUMBERS.lookup ("year":Str)=some (.tup [.int (-4000),.int 4000]):=X7
def dd5:kt_NUMBERS.lookup ("later":Str)=some (.tup [.int 0,.int 300]):=X7
def ch9:kt_NUMBERS.lookup ("gap":Str)=some (.tup [.int (-300),.int 300]):=X7
abbrev d_ink:List Str:=["letter","ink","dark","dark"]
abbrev d_reign:List Str:=["letter","reign","place"]
abbrev d_under:List Str:=["letter","reign"]
abbrev d_between:List Str:=["letter","year","year"]
abbrev d_two:List Str:=["letter","letter"]
abbrev d_within:List Str:=["letter","letter","later"]
abbrev d_apart:List Str:=["letter","letter","gap","gap"]
def ej7:kt_PARTS.lookup ("ink":Str)=some (.tup (d_ink.map .str)):=X7
def dz2:kt_PARTS.lookup ("reign":Str)=some (.tup (d_reign.map .str)):=X7
def dq5:kt_PARTS.lookup ("under":Str)=some (.tup (d_under.map .str)):=X7
def cz5:kt_PARTS.lookup ("between":Str)=some (.tup (d_between.map .str)):=X7
def do6:kt_PARTS.lookup ("after":Str)=some (.tup (d_two.map .str)):=X7
def ex2:kt_PARTS.lookup ("same":Str)=some (.tup (d_two.map .str)):=X7
def cz9:kt_PARTS.lookup ("within":Str)=some (.tup (d_within.map .str)):=X7
def dt5:kt_PARTS.lookup ("apart":Str)=some (.tup (d_apart.map .str)):=X7
def er4:tb_MAKERS.lookup ("ink":Str)=some tP:=X7
def di2:tb_MAKERS.lookup ("reign":Str)=some pX:=X7
def ds4:tb_MAKERS.lookup ("under":Str)=some pC:=X7
def cm7:tb_MAKERS.lookup ("between":Str)=some mZ:=X7
def dp2:tb_MAKERS.lookup ("after":Str)=some pE:=X7
def dw8:tb_MAKERS.lookup ("same":Str)=some qR:=X7
def dm0:tb_MAKERS.lookup ("within":Str)=some oB:=X7
def dt2:tb_MAKERS.lookup ("apart":Str)=some pG:=X7
def da5(hk:kt_PARTS.lookup w=some (.tup ds))(hp:bB ps=true)(hds:bB ds=true)(hd:vY [bT false f,.str w,.lst false ps]=.ok (.bl true))(h1:atI ds 1=some (.str d1))
 (h2:(d1=="letter")=false\/((d1=="letter")=true/\∃a b:Str,atI ps 0=some (.str a)/\atI ps 1=some (.str b)/\(a==b)=false))(hm:tb_MAKERS.lookup w=some F)(hF:F [bT false f,.lst false ps]=.ok r)(hc:cT r=true):
 dZ [bT false f,.str w,.lst false ps]=.ok r:=by
 unfold dZ vO;have na:=eY f;have za:=gE false f;have zp:=iY ps hp;rcases h2 with h2|⟨h2,a,b,h3,h4,h5⟩
 . walk_at "e"
 . walk_at "e"
def pB(xs:ah)(d e:Int)(j:Nat):Bool:=decide ((if xs.getD (min j (xs.length-1)) 0-d<0 then -(xs.getD (min j (xs.length-1)) 0-d)else xs.getD (min j (xs.length-1)) 0-d)<=e)
def iN(xs:ah)(d e:Int)(n:Nat):List Int:=((List.range n).filter (pB xs d e)).map λ(j:Nat)=>(j:Int)
def dt4:List Int->T
 |[]=>.non
 |a::l=>.tup [.int a,.int ((a::l).getD l.length 0)]
def sD(xs:ah)(d e:Int)(n:Nat):iN xs d e (n+1)=iN xs d e n++(if pB xs d e n=true then [(n:Int)]else []):=by unfold iN;rw[R5,List.filter_append,J1];congr 1;simp only[List.filter_cons,List.filter_nil];split<;>rfl
def db5:atI ((a::l).map T.int) (-1)=some (.int ((a::l).getD l.length 0)):=by
 have e0:qG ((a::l).map T.int).length (-1)=some l.length:=by unfold qG;rw[D7 X5,C3,G5,E3 W9];congr 1;omega
 unfold atI;rw[e0];show((a::l).map T.int)[l.length]?=_;rw[C8,A8,A6 X4];rfl
theorem ar2(xs:ah)(d e:Int)(n m:Nat)(h:∀j,n<=j->j<n+m->pB xs d e j=false):iN xs d e (n+m)=iN xs d e n:=by
 induction m with
 |zero=>rfl
 |succ m ih=>rw[<-Nat.add_assoc,sD,ih (λj h1 h2=>h j h1 W9),h (n+m) W9 W9];simp
def av5(h:pB xs d e n=true):∃l,iN xs d e (n+1)=l++[(n:Int)]:=⟨iN xs d e n,by rw[sD,E3 h]⟩
def be0(xs:ah)(d e:Int)(n:Nat):∀x∈iN xs d e n,x<n:=by intro x hx;unfold iN at hx;obtain⟨j,hj,rfl⟩:=M3.mp hx;have:=F9.mp (V7.mp hj).1;omega
def bu4(l:ah)(z:Int):(l++[z]).getD l.length 0=z:=by rw[A8,K5 (C9 _)];simp
def ec1(xs:ah)(d e:Int)(G:Nat)(h0:0<xs.length)(a:Int)(l:ah)(hh:iN xs d e (min (xs.length-1) G+1)=a::l):
 dt4 (iN xs d e (G+1))=.tup [.int a,.int (if(a::l).getD l.length 0=((xs.length-1:Nat):Int)then(G:Int)else(a::l).getD l.length 0)]:=by
 have hmem:(a::l).getD l.length 0∈a::l:=by rw[A8,A6 X4];exact K3 _
 have hb:=be0 xs d e (min (xs.length-1) G+1) _ (by rw[hh];exact hmem);rcases Nat.lt_or_ge (xs.length-1) G with hG|hG
 . rw[V6 W9]at hh hb;have same:∀j,xs.length-1<=j->pB xs d e j=pB xs d e (xs.length-1):=by intro j hj;unfold pB;rw[V1 hj,Nat.min_self]
   cases hp:pB xs d e (xs.length-1)with
   |true=>
    have hG':pB xs d e G=true:=by rw[same G W9,hp]
    obtain⟨l1,h1⟩:=av5 hG';obtain⟨l2,h2⟩:=av5 hp;rw[hh]at h2;have pre:∀m,∃r,iN xs d e (xs.length-1+1+m)=a::l++r:=by
     intro m;induction m with
     |zero=>exact⟨[],by rw[Nat.add_zero,hh,K8]⟩
     |succ m ih=>obtain⟨r,hr⟩:=ih;rw[<-Nat.add_assoc,sD,hr,K0];exact⟨_,rfl⟩
    obtain⟨r,hr⟩:=pre (G+1-(xs.length-1+1));rw[show xs.length-1+1+(G+1-(xs.length-1+1))=G+1 by omega]at hr;have last:(a::l).getD l.length 0=((xs.length-1:Nat):Int):=by
     have:l.length=l2.length:=by have:=N1 List.length h2;simp at this;exact this
     rw[h2,this,bu4]
    rw[last,E3 rfl,hr];rw[hr]at h1;show T.tup [.int a,.int ((a::(l++r)).getD (l++r).length 0)]=_;have h1':a::(l++r)=l1++[(G:Int)]:=h1;have hlen:(l++r).length=l1.length:=by have:=N1 List.length h1';simp at this⊢;exact this
    rw[h1',hlen,bu4]
   |false=>have hs:=ar2 xs d e (xs.length-1+1) (G+1-(xs.length-1+1)) (λj h1 h2=>by rw[same j W9,hp]);rw[show xs.length-1+1+(G+1-(xs.length-1+1))=G+1 by omega,hh]at hs;rw[hs];have hz:iN xs d e (xs.length-1+1)=iN xs d e (xs.length-1):=ar2 xs d e (xs.length-1) 1 (λj h1 h2=>by rw[show j=xs.length-1 by omega,hp]);have hb2:=be0 xs d e (xs.length-1) _ (by rw[<-hz,hh];exact hmem);rw[D7 W9];rfl
 . rw[V1 hG]at hh hb;rw[hh];show T.tup [.int a,.int ((a::l).getD l.length 0)]=_;have:(if(a::l).getD l.length 0=((xs.length-1:Nat):Int)then(G:Int)else(a::l).getD l.length 0)=(a::l).getD l.length 0:=by
    split
    . next h=>rw[h];rw[h]at hb;omega
    . rfl
   rw[this]
def dd6(xs:ah)(d e:Int)(G:Nat)(h0:0<xs.length)(hh:iN xs d e (min (xs.length-1) G+1)=[]):iN xs d e (G+1)=[]:=by
 rcases Nat.lt_or_ge (xs.length-1) G with hG|hG
 . rw[V6 W9]at hh;have hp:pB xs d e (xs.length-1)=false:=by
    cases hp:pB xs d e (xs.length-1)with
    |false=>rfl
    |true=>obtain⟨l,h⟩:=av5 hp;rw[hh]at h;simp at h
   have hs:=ar2 xs d e (xs.length-1+1) (G+1-(xs.length-1+1)) (λj h1 h2=>by
    have:pB xs d e j=pB xs d e (xs.length-1):=by unfold pB;rw[V1 W9,Nat.min_self]
    rw[this,hp])
   rw[show xs.length-1+1+(G+1-(xs.length-1+1))=G+1 by omega,hh]at hs;exact hs
 . rw[V1 hG]at hh;exact hh
theorem cn8(o:Bool)(xs:ah)(d e:Int)(G:Nat)(h0:xs≠[])(hx:xs.length<=1000)(hG:G<=1000):vZ [.lst o (xs.map .int),.int d,.int e,.int G]=.ok (dt4 (iN xs d e (G+1))):=by
 unfold vZ zU;have hl:0<xs.length:=U2.mpr h0;obtain⟨n,hn⟩:∃n,min (xs.length-1) G+1=n:=⟨_,rfl⟩;have e1:(if(G:Int)<(xs.length:Int)-1 then(G:Int)else(xs.length:Int)-1)+1=(n:Int):=by split<;>omega
 have k1:-(2^62)<=(n:Int)/\(n:Int)<2^62:=W9
 have k2:(cK 0 (n:Int).toNat).length<=sizeLine:=by rw[cI];exact uS W9
 have hc:cC (aI 7) Ak8 (aU (aB 7)) [some (.lst o (xs.map .int)),some (.int d),some (.int e),some (.int G),some (.int ((xs.length:Int)-1)),none,none,none] (cK 0 (n:Int).toNat)=.ok ((iN xs d e n).map .int):=by
  unfold cK iN;rw[E5,J4];refine aq2 λi hi=>?_;have hi:=F9.mp hi;have a1:=uK (xs:=xs) (i:=i) W9;have hp:pB xs d e i=decide ((if xs.getD i 0-d<0 then -(xs.getD i 0-d)else xs.getD i 0-d)<=e):=by unfold pB;rw[V6 W9]
  have z:(0:Int)+(i:Int)=(i:Int):=M7 _;refine⟨?_,λ_=>?_⟩
  . rw[hp];clear hp;walk_at "e"
  . clear hp;walk_at "e";rfl
 walk_at "e";have hlast:((xs.length:Int)-1)=((xs.length-1:Nat):Int):=W9
 cases hh:iN xs d e n with
 |nil=>rw[<-hn]at hh;have z1:=dd6 xs d e G hl hh;have z2:(((0:Nat):Int)==0)=true:=rfl;rw[z1];clear hh hn e1 hc z1 hlast;walk_at "e";rfl
 |cons a l=>
  rw[<-hn]at hh;rw[ec1 xs d e G hl a l hh];have q1:atI ((a::l).map T.int) 0=some (.int a):=gG (j:=0) rfl;have q2:atI ((a::l).map T.int) ((((a::l).map T.int).length:Int)-1)=some (.int ((a::l).getD l.length 0)):=by have:=uK (xs:=a::l) (i:=l.length) X4;rw[C3,G5,show((l.length+1:Nat):Int)-1=(l.length:Int) by omega];exact this
  have q3:((((a::l).map T.int).length:Int)==0)=false:=by rw[C3,G5,K2];omega
  have q3':(((l.length+1:Nat):Int)==0)=false:=by rw[K2];omega
  have q4:(2:Nat)<=sizeLine:=X5
  have q5:bB ((a::l).map T.int)=true:=jC _;clear hh hn e1 hc;generalize(a::l).map T.int=X at q1 q2 q3 q5⊢;generalize(a::l).getD l.length 0=z at q2⊢;cases hz:(z==((xs.length-1:Nat):Int))with
  |true=>have hz':z=((xs.length-1:Nat):Int):=eq_of_beq hz;rw[E3 hz'];clear hz';walk_at "e"
  |false=>
   have hz':¬z=((xs.length-1:Nat):Int):=by rw[K2]at hz;exact hz
   rw[D7 hz'];clear hz';walk_at "e"
theorem ac5{α:Type}{b:bq}{body:Fr->bS}{g r:α->T}{key:α->Str}{n:Str}(Iv:cw)
 (hs:∀a U,Iv U->∃ρ1,b (g a) U=some ρ1/\(((key a==n)=true/\body ρ1=.rt (r a))\/((key a==n)=false/\∃ρ2,body ρ1=.nx ρ2/\Iv ρ2))):
 ∀{l:List α}{U:Fr}{a0:α},Iv U->l.find? (λa=>key a==n)=some a0->dI b body (l.map g) U=.rt (r a0)
 |[],U,a0,_,h=>by simp at h
 |a::l,U,a0,hi,h=>by
  obtain⟨ρ1,h1,h2⟩:=hs a U hi;rw[List.find?_cons]at h;simp only[C7,dI,h1];rcases h2 with⟨k,h2⟩|⟨k,ρ2,h2,h3⟩
  . rw[k]at h;cases h;rw[h2]
  . rw[k]at h;rw[h2];exact ac5 Iv hs h3 h
theorem bn2{α:Type}{key:α->Str}:∀{l:List α}{a:α},(l.map key).Nodup->a∈l->l.find? (λx=>key x==key a)=some a
 |[],a,_,h=>by cases h
 |x::l,a,nd,h=>by
  rw[C7,G6]at nd;rw[List.find?_cons];rcases C4.mp h with rfl|h
  . simp
  . have:(key x==key a)=false:=by simp;intro e;exact nd.1 (by rw[e];exact M8 h)
    rw[this];exact bn2 nd.2 h
def ef0{f:Fm}(g:Gd f){p:Str×List Int}(hp:p∈f.i):gR [bT false f,.str p.1]=.ok (.lst true (p.2.map .int)):=by
 unfold gR lT;have fl:=cu4 false f;have n1:=nU f.i;have key:∀o2 o3:Option T,dI (eX Af6) (cZ (bH (aE fT (aB 2) (aB 1))) (bG [] Ag9) bQ) (f.i.map (gL false)) [some (bT false f),some (.str p.1),o2,o3]=.rt (.lst true (p.2.map .int)):=λo2 o3=>by
  refine ac5 (key:=λq:Str×List Int=>q.1) (r:=λq:Str×List Int=>.lst true (q.2.map .int)) (λU=>∃o2 o3,U=[some (bT false f),some (.str p.1),o2,o3]) ?_ ⟨o2,o3,rfl⟩ (bn2 (key:=λq:Str×List Int=>q.1) g.ind hp);rintro a U ⟨o2,o3,rfl⟩;refine⟨[some (bT false f),some (.str p.1),some (.str a.1),some (.lst false (a.2.map .int))],rfl,?_⟩;cases e:(a.1==p.1)with
  |true=>exact .inl ⟨rfl,by walk_at "e"⟩
  |false=>exact .inr ⟨rfl,[some (bT false f),some (.str p.1),some (.str a.1),some (.lst false (a.2.map .int))],by walk_at "e",_,_,rfl⟩
 clear g;walk_at "e"
def cf0{f:Fm}(g:Gd f){p:c9}(hp:p∈f.r):mF [bT false f,.str p.1]=.ok (iE p):=by
 unfold mF pQ;have fl:=be5 false f;have n1:=mW f.r;have b0:=@jN T;have key:∀o2:Option T,dI (aI 2) (cZ (bH (aE fT Ai0 (aB 1))) (bG [] (aU (aB 2))) bQ) (f.r.map iE) [some (bT false f),some (.str p.1),o2]=.rt (iE p):=λo2=>by
  refine ac5 (key:=λq:Str×Int×Int=>q.1) (r:=λq:Str×Int×Int=>iE q) (λU=>∃o2,U=[some (bT false f),some (.str p.1),o2]) ?_ ⟨o2,rfl⟩ (bn2 (key:=λq:Str×Int×Int=>q.1) g.rnd hp);rintro a U ⟨o2,rfl⟩;refine⟨[some (bT false f),some (.str p.1),some (iE a)],rfl,?_⟩;simp only[iE];cases e:(a.1==p.1)with
  |true=>exact .inl ⟨rfl,by walk_at "e"⟩
  |false=>exact .inr ⟨rfl,[some (bT false f),some (.str p.1),some (.tup [.str a.1,.int a.2.1,.int a.2.2])],by walk_at "e",_,rfl⟩
 clear g;walk_at "e"
def af4(h1:1<=k)(h2:k<=l):oT [.int b,.int l,.int k]=.ok (.int (b+k-1)):=by unfold oT uG;have:=rJ h1 h2;walk_at "e"
def vV(h1:-10000000<=i)(h2:i<=10000000):i.natAbs.log2<1920:=by
 by_cases e:i.natAbs=0
 . rw[e];decide
 . rw[Nat.log2_lt e];exact G3 (show i.natAbs<2^24 by omega) (Nat.pow_le_pow_right X5 X5)
def vT(h1:-1000000<=i)(h2:i<=1000000):(toString i:Str).length<=2000000:=by have:=PyProof.Rows.len_str_of_int i;omega
def lE{f:Fm}(g:Gd f){l:Nat}{n:Str}(h:f.n[l]?=some n):n.length<=2000000:=by have:=aq4 (g.nn n (D4 h));omega
def eL:(("letter":Str)=="letter")=true:=O0 _
def dk3(f:Fm):List Str->List T->Prop
 |[],[]=>True
 |d::ds,p::ps=>gY [bT false f,.str d,p]=.ok (.bl true)/\dk3 f ds ps
 |_,_=>False
theorem br9:∀{ds:ax}{ps:aw},dk3 f ds ps->∀(i:Nat)(d:Str)(p:T),ds[i]?=some d->ps[i]?=some p->gY [bT false f,.str d,p]=.ok (.bl true)
 |[],_,_,i,d,p,h,_=>by simp at h
 |_::_,[],h,_,_,_,_,_=>h.elim
 |d::ds,p::ps,h,0,_,_,e1,e2=>by cases e1;cases e2;exact h.1
 |d::ds,p::ps,h,i+1,_,_,e1,e2=>br9 h.2 i _ _ e1 e2
def wB(g:Gd f)(nl:List (Str×Nat))(xs:ax)(hk:kt_PARTS.lookup w=some (.tup (ds.map .str)))(hm:tb_MAKERS.lookup w=some F)(hl:ps.length=ds.length)(h4:ds.length<=4/\nl.length<=4/\xs.length<=4)(hp:bB ps=true)(hd:dk3 f ds ps)(hnl:∀p∈nl,f.n[p.2]?=some p.1)(hxb:∀y∈xs,y.length<=2000000)(h1:atI (ds.map .str) 1=some (T.str d1))
 (h2:(d1=="letter")=false\/((d1=="letter")=true/\∃a b:Str,atI ps 0=some (.str a)/\atI ps 1=some (.str b)/\(a==b)=false))
 (h7:∀a b d e h i:Option T,cC (eX (bE (aI 7) (bE (aI 8) fF))) Ak7 (aU (aB 7)) [a,b,d,e,h,i,none,none,none,none] (lW ps (ds.map .str))=.ok ((nl.map (·.1)).map .str))
 (hx:∀a:Option T,cC (aI 1) bY (bU aa0 (aD (aB 1) aH)) [a,none] (.str w::ps)=.ok ((w::xs).map .str))
 (hF:∀x,kT (cO (cD 10 [.ins true c [] [],bT false f,.str w,.lst false ps,.int lo,nY hi]))=.ok (iD true c (nl.map λp=>(p.2:Int)) lo hi x)->cT (iD true c (nl.map λp=>(p.2:Int)) lo hi x)=true->F [bT false f,.lst false ps]=.ok (iD true c (nl.map λp=>(p.2:Int)) lo hi x))
 (hc:c∈lY:=by decide+kernel)(hw:w.length<=2000000:=by decide+kernel):
 ∃x,dZ [bT false f,.str w,.lst false ps]=.ok (iD true c (nl.map λp=>(p.2:Int)) lo hi x):=by
 obtain⟨x,e⟩:=ej5 g hc (lo:=lo) (hi:=hi) hp W9 hk (mB ds) h7 h4.2.1 hnl hx h4.2.2 (U0.mpr ⟨hw,hxb⟩);have k:=cd1 c (nl.map λp=>(p.2:Int)) lo hi x;exact⟨x,da5 hk hp (mB ds) (ds0 hk hp hl h4.1 (br9 hd)) h1 h2 hm (hF x e k) k⟩
def al1{f:Fm}{l:Nat}{n:Str}(h:f.n[l]?=some n):∀p∈[(n,l)],f.n[p.2]?=some p.1:=U0.mpr ⟨h,nofun⟩
def al2{f:Fm}{l m:Nat}{n k:Str}(h:f.n[l]?=some n)(h':f.n[m]?=some k):∀p∈[(n,l),(k,m)],f.n[p.2]?=some p.1:=U0.mpr ⟨h,al1 h'⟩
def xl{a:Str}{xs:ax}(h:a.length<=2000000)(k:∀y∈xs,y.length<=2000000):∀y∈a::xs,y.length<=2000000:=U0.mpr ⟨h,k⟩
def x0:∀y∈([]:List Str),y.length<=2000000:=nofun
def xn(g:Gd f)(h:pR n=true):n.length<=2000000:=by have:=aq4 h;omega
local macro_rules | `(tactic| walk_at "7") => `(tactic| (intros; simp only [C7, L3, lW, List.zipWith_cons_cons, List.zipWith_nil_left, cC]; walk_at "e"))
local macro_rules | `(tactic| walk_at "x") => `(tactic| (intros; simp only [cC]; walk_at "e"))
def bm0{f:Fm}(g:Gd f){l:Nat}{n:Str}(h:f.n[l]?=some n){lo hi:Int}(h1:-4000<=lo)(h2:lo<=hi)(h3:hi<=4000):
 ∃x,dZ [bT false f,.str "between",.lst false [.str n,.int lo,.int hi]]=.ok (iD true "Between" [(l:Int)] lo (some hi) x):=by
 have e1:=eL;have e2:=yN "year" X0;have g_lo:=vV (show -10000000<=lo by omega) W9;have g_hi:=vV (show -10000000<=hi by omega) W9;refine wB g (c:="Between") (d1:="year") [(n,l)] [n,toString lo,toString hi] cz5 cm7 rfl ⟨X5,X4,X4⟩ rfl ⟨gW (D4 h),rW X0 cf4 W9 W9,rW X0 cf4 W9 W9,trivial⟩ (al1 h) (xl (lE g h)<|xl (vT W9 W9)<|xl (vT W9 W9)<|x0) (iO _ _ _) (.inl e2) (by walk_at "7") (by walk_at "x") λx hx cs=>?_;unfold mZ nG;have hm:yR [bT false f,.str "between",.lst false [.str n,.int lo,.int hi],.int lo,.int hi]=.ok (iD true "Between" [(l:Int)] lo (some hi) x):=hx;walk_at "B";have na:=eY f;have za:=gE false f;have k1:decide (hi<lo)=false:=F6 W9;clear hx;walk_at "e"
def da6{f:Fm}(g:Gd f){l m:Nat}{n k:Str}(h:f.n[l]?=some n)(h':f.n[m]?=some k)(hne:(n==k)=false):
 ∃x,dZ [bT false f,.str "after",.lst false [.str n,.str k]]=.ok (iD true "After" [(l:Int),(m:Int)] 1 none x):=by
 have e1:=eL;refine wB g (c:="After") (d1:="letter") [(n,l),(k,m)] [n,k] do6 dp2 rfl ⟨X5,X4,X4⟩ rfl ⟨gW (D4 h),gW (D4 h'),trivial⟩ (al2 h h') (xl (lE g h)<|xl (lE g h')<|x0) (iO _ _ _) (.inr ⟨e1,n,k,jN _ _,iO _ _ _,hne⟩) (by walk_at "7") (by walk_at "x") λx hx cs=>?_;unfold pE pS;have hm:aa3 [bT false f,.str "after",.lst false [.str n,.str k],.int 1,.non]=.ok (iD true "After" [(l:Int),(m:Int)] 1 none x):=hx;walk_at "B";have na:=eY f;have za:=gE false f;clear hx;walk_at "e"
def eh2{f:Fm}(g:Gd f){l m:Nat}{n k:Str}(h:f.n[l]?=some n)(h':f.n[m]?=some k)(hne:(n==k)=false):
 ∃x,dZ [bT false f,.str "same",.lst false [.str n,.str k]]=.ok (iD true "Same" [(l:Int),(m:Int)] 0 (some 0) x):=by
 have e1:=eL;refine wB g (c:="Same") (d1:="letter") [(n,l),(k,m)] [n,k] ex2 dw8 rfl ⟨X5,X4,X4⟩ rfl ⟨gW (D4 h),gW (D4 h'),trivial⟩ (al2 h h') (xl (lE g h)<|xl (lE g h')<|x0) (iO _ _ _) (.inr ⟨e1,n,k,jN _ _,iO _ _ _,hne⟩) (by walk_at "7") (by walk_at "x") λx hx cs=>?_;unfold qR qW;have hm:ah5 [bT false f,.str "same",.lst false [.str n,.str k],.int 0,.int 0]=.ok (iD true "Same" [(l:Int),(m:Int)] 0 (some 0) x):=hx;walk_at "B";have na:=eY f;have za:=gE false f;clear hx;walk_at "e"
def cu8{f:Fm}(g:Gd f){l m:Nat}{n k:Str}(h:f.n[l]?=some n)(h':f.n[m]?=some k)(hne:(n==k)=false){hi:Int}(h1:0<=hi)(h2:hi<=300):
 ∃x,dZ [bT false f,.str "within",.lst false [.str n,.str k,.int hi]]=.ok (iD true "Within" [(l:Int),(m:Int)] 0 (some hi) x):=by
 have e1:=eL;have e2:=yN "later" X0;have g_hi:=vV (show -10000000<=hi by omega) W9;refine wB g (c:="Within") (d1:="letter") [(n,l),(k,m)] [n,k,toString hi] cz9 dm0 rfl ⟨X5,X4,X4⟩ rfl ⟨gW (D4 h),gW (D4 h'),rW X0 dd5 h1 h2,trivial⟩ (al2 h h') (xl (lE g h)<|xl (lE g h')<|xl (vT W9 W9)<|x0) (iO _ _ _) (.inr ⟨e1,n,k,jN _ _,iO _ _ _,hne⟩) (by walk_at "7") (by walk_at "x") λx hx cs=>?_;unfold oB oC;have hm:ap0 [bT false f,.str "within",.lst false [.str n,.str k,.int hi],.int 0,.int hi]=.ok (iD true "Within" [(l:Int),(m:Int)] 0 (some hi) x):=hx;walk_at "B";have na:=eY f;have za:=gE false f;clear hx;walk_at "e"
def bg8{f:Fm}(g:Gd f){l m:Nat}{n k:Str}(h:f.n[l]?=some n)(h':f.n[m]?=some k)(hne:(n==k)=false){lo hi:Int}(h1:-300<=lo)(h2:lo<=hi)(h3:hi<=300):
 ∃x,dZ [bT false f,.str "apart",.lst false [.str n,.str k,.int lo,.int hi]]=.ok (iD true "Apart" [(l:Int),(m:Int)] lo (some hi) x):=by
 have e1:=eL;have e2:=yN "gap" X0;have g_lo:=vV (show -10000000<=lo by omega) W9;have g_hi:=vV (show -10000000<=hi by omega) W9;refine wB g (c:="Apart") (d1:="letter") [(n,l),(k,m)] [n,k,toString lo,toString hi] dt5 dt2 rfl ⟨X5,X4,X4⟩ rfl ⟨gW (D4 h),gW (D4 h'),rW X0 ch9 W9 W9,rW X0 ch9 W9 W9,trivial⟩ (al2 h h') (xl (lE g h)<|xl (lE g h')<|xl (vT W9 W9)<|xl (vT W9 W9)<|x0) (iO _ _ _) (.inr ⟨e1,n,k,jN _ _,iO _ _ _,hne⟩) (by walk_at "7") (by walk_at "x") λx hx cs=>?_;unfold pG pY;have hm:az1 [bT false f,.str "apart",.lst false [.str n,.str k,.int lo,.int hi],.int lo,.int hi]=.ok (iD true "Apart" [(l:Int),(m:Int)] lo (some hi) x):=hx;walk_at "B";have na:=eY f;have za:=gE false f;have k1:decide (hi<lo)=false:=F6 W9;clear hx;walk_at "e"
def ds3{f:Fm}(g:Gd f){l:Nat}{n:Str}(h:f.n[l]?=some n){p:c9}(hp:p∈f.r){k:Int}(h1:1<=k)(h2:k<=p.2.2):
 ∃x,dZ [bT false f,.str "reign",.lst false [.str n,.str p.1,.int k]]=.ok (iD true "Reign" [(l:Int)] (p.2.1+k-1) (some (p.2.1+k-1)) x):=by
 have e1:=eL;have h100:=(g.rn p hp).2.2.2.2;have e2:=yN "reign" X0;have e3:=yN "place" X0;have g_k:=vV (show -10000000<=k by omega) W9;refine wB g (c:="Reign") (d1:="reign") [(n,l)] [n,p.1,toString k] dz2 di2 rfl ⟨X5,X4,X4⟩ rfl ⟨gW (D4 h),bl4 g (M8 hp),rW X0 dh3 h1 W9,trivial⟩ (al1 h) (xl (lE g h)<|xl (xn g (g.rn p hp).1)<|xl (vT W9 W9)<|x0) (iO _ _ _) (.inl e2) (by walk_at "7") (by walk_at "x") λx hx cs=>?_;unfold pX pK;have hm:aa2 [bT false f,.str "reign",.lst false [.str n,.str p.1,.int k],.int (p.2.1+k-1),.int (p.2.1+k-1)]=.ok (iD true "Reign" [(l:Int)] (p.2.1+k-1) (some (p.2.1+k-1)) x):=hx;walk_at "B";have na:=eY f;have za:=gE false f;have k1:=cf0 g hp;have k2:=af4 (b:=p.2.1) h1 h2;simp only[iE]at k1;clear hx;walk_at "e"
def dh5{f:Fm}(g:Gd f){l:Nat}{n:Str}(h:f.n[l]?=some n){p:c9}(hp:p∈f.r):
 ∃x,dZ [bT false f,.str "under",.lst false [.str n,.str p.1]]=.ok (iD true "Under" [(l:Int)] p.2.1 (some (p.2.1+p.2.2-1)) x):=by
 have e1:=eL;have e2:=yN "reign" X0;refine wB g (c:="Under") (d1:="reign") [(n,l)] [n,p.1] dq5 ds4 rfl ⟨X5,X4,X4⟩ rfl ⟨gW (D4 h),bl4 g (M8 hp),trivial⟩ (al1 h) (xl (lE g h)<|xl (xn g (g.rn p hp).1)<|x0) (iO _ _ _) (.inl e2) (by walk_at "7") (by walk_at "x") λx hx cs=>?_;unfold pC pZ;have hm:af3 [bT false f,.str "under",.lst false [.str n,.str p.1],.int p.2.1,.int (p.2.1+p.2.2-1)]=.ok (iD true "Under" [(l:Int)] p.2.1 (some (p.2.1+p.2.2-1)) x):=hx;walk_at "B";have na:=eY f;have za:=gE false f;have k1:=cf0 g hp;have k2:=af4 (b:=p.2.1) (l:=p.2.2) (k:=p.2.2) (g.rn p hp).2.2.2.1 (U1 _);simp only[iE]at k1;clear hx;walk_at "e"
def dw5:iC "table" ["first","present","letters","inks","reigns"]=none:=X0
def ej1:tm_table.lookup ("Archive":Str)=some gR:=X7
def cy5(ho:o U=.ok (bT b f))(hr:r U=.ok ts):nX 2 "table" tm_table o r U=zO 2 gR (bT b f::ts):=by simp only[nX,ho,hr,rY,bT,dw5,ej1]
local macro_rules | `(tactic| walk_at "7") => `(tactic| (intros; simp only [C7, L3, lW, List.zipWith_cons_cons, List.zipWith_nil_left, cC]; walk_at "e"))
local macro_rules | `(tactic| walk_at "x") => `(tactic| (intros; simp only [cC]; walk_at "e"))
def es7{f:Fm}(g:Gd f){l:Nat}{n:Str}(h:f.n[l]?=some n){p:Str×List Int}(hp:p∈f.i){d e:Int}(h1:0<=d)(h2:d<=1000000)(h3:0<=e)(h4:e<=1000000){a z:Int}{r:ah}(hh:iN p.2 d e (f.s.toNat+1)=a::r)(hz:(a::r).getD r.length 0=z):
 ∃x,dZ [bT false f,.str "ink",.lst false [.str n,.str p.1,.int d,.int e]]=.ok (iD true "Ink" [(l:Int)] (f.a+f.s-z) (some (f.a+f.s-a)) x):=by
 have e1:=eL;have e2:=yN "ink" X0;have e3:=yN "dark" X0;have g_d:=vV (show -10000000<=d by omega) W9;have g_e:=vV (show -10000000<=e by omega) W9;refine wB g (c:="Ink") (d1:="ink") [(n,l)] [n,p.1,toString d,toString e] ej7 er4 rfl ⟨X5,X4,X4⟩ rfl ⟨gW (D4 h),ed0 g (M8 hp),rW X0 co4 W9 W9,rW X0 co4 W9 W9,trivial⟩ (al1 h) (xl (lE g h)<|xl (xn g (g.inn p hp).1)<|xl (vT W9 W9)<|xl (vT W9 W9)<|x0) (iO _ _ _) (.inl e2) (by clear hh hz;walk_at "7") (by clear hh hz;walk_at "x") λx hx cs=>?_;unfold tP uB;have hm:az7 [bT false f,.str "ink",.lst false [.str n,.str p.1,.int d,.int e],.int (f.a+f.s-z),.int (f.a+f.s-a)]=.ok (iD true "Ink" [(l:Int)] (f.a+f.s-z) (some (f.a+f.s-a)) x):=hx;walk_at "B";have na:=eY f;have za:=gE false f;have fp:=ag2 false f;have ff:=ao2 false f;have ht:=ef0 g hp;have hA:vZ [.lst false (p.2.map .int),.int d,.int e,.int (f.a+f.s-f.a)]=.ok (.tup [.int a,.int z]):=by have:=cn8 false p.2 d e f.s.toNat (by have:=(g.inn p hp).2.l1;intro q;rw[q]at this;simp at this) (by have:=(g.inn p hp).2.l60;omega) (by have:=g.s1;omega);rw[hh]at this;simp only[dt4,hz]at this;rw[show f.a+f.s-f.a=(f.s.toNat:Int) by have:=g.s0;omega];exact this
 have hmt:nX 2 "table" tm_table (aB 0) (aD Af5 aH) [some (bT false f),some (.lst false [.str n,.str p.1,.int d,.int e]),none]=.ok (.lst true (p.2.map .int)):=by rw[cy5 (b:=false) (f:=f) (ts:=[.str p.1]) rfl (by clear hA hm hx hh hz;walk_at "e")];clear hA hm hx hh hz;walk_at "e"
 clear hh hz;clear hx;walk_at "e"
def dl7(c:Int)(m:Nat)(hm:m<=8):∃xs:List Int,sJ [.int c,.int m]=.ok (.lst true (xs.map .int))/\xs.length=m/\∀x∈xs,0<=x:=by
 unfold sJ zQ;have ew:=cw3;have h60:ah0 (.int 10) (.int 60)=.ok (.int 1000000000000000000000000000000000000000000000000000000000000):=by rw[as4,eO (show ak2 10 60 from⟨X5,X5,X5⟩)];rfl
 have h18:ah0 (.int 10) (.int 18)=.ok (.int 1000000000000000000):=by rw[as4,eO (show ak2 10 18 from⟨X5,X5,X5⟩)];rfl
 walk_at "e";generalize hL:dI _ _ _ _=o;obtain⟨ρ',rfl,xs,r,o4,rfl,xl,xb,hr⟩:=fL (λi U=>∃(xs:ah)(r:Int)(o4:bc),U=[some (.int c),some (.int m),some (.int r),some (.lst true (xs.map .int)),o4]/\xs.length=i/\(∀x∈xs,0<=x)/\0<=r) hL ⟨[],_,_,rfl,rfl,fH,G9 _ X5⟩ (by
  rintro i t U et ⟨xs,r,o4,rfl,xl,xb,hr⟩;obtain⟨hi,rfl⟩:=mU et;have hl:xs.length<=100000:=W9
  clear hL et;by_cases hA:c<0\/1000000000000000000<=c
  . have k:(decide (c<0)||decide (1000000000000000000<=c))=true:=by simpa using hA
    cases h1:decide (c<0)with
    |true=>walk_at "e";exact⟨xs++[r%10007],_,_,by rw[J1];rfl,by simp[xl],λx hx=>(A9.mp hx).elim (xb x) (λq=>by rw[C5.mp q];exact G9 _ X5),W9⟩
    |false=>
     have h2:decide (1000000000000000000<=c)=true:=by rw[h1]at k;simpa using k
     walk_at "e";exact⟨xs++[r%10007],_,_,by rw[J1];rfl,by simp[xl],λx hx=>(A9.mp hx).elim (xb x) (λq=>by rw[C5.mp q];exact G9 _ X5),W9⟩
  . have h1:decide (c<0)=false:=F6 W9;have h2:decide (1000000000000000000<=c)=false:=F6 W9;walk_at "e";exact⟨xs++[jB (jB c (0+(i:Int))+c) (0+(i:Int))],_,_,by rw[J1];rfl,by simp[xl],λx hx=>(A9.mp hx).elim (xb x) (λq=>by rw[C5.mp q];exact(bt1 _ _).1),hr⟩)
 rw[cI]at xl;refine⟨xs,?_,W9,xb⟩;clear hL;walk_at "e"
def dp4(c:Int)(g:Gd f):∃ys:List Int,sP [.int c,gZ false f]=.ok (.lst true (ys.map .int))/\ys.length=f.n.length/\∀y∈ys,f.a<=y/\y<=f.a+f.s:=by
 obtain⟨xs,h1,h2,h3⟩:=dl7 c f.n.length g.n8;have hs:=g.s0;have hm:0<f.a+f.s-f.a+1:=W9
 refine⟨xs.map λx=>f.a+x%(f.a+f.s-f.a+1),?_,by simp[h2],λy hy=>?_⟩
 . unfold sP sT;have hx:xs.length<=100000:=by have:=g.n8;omega
   have hc:cC (aI 2) bY (aE bR Ag0 (aE cQ (aB 2) Al2)) [some (.int c),some (gZ false f),none] (xs.map .int)=.ok ((xs.map λx=>f.a+x%(f.a+f.s-f.a+1)).map .int):=by rw[J4];refine cX λx _=>?_;simp only[gZ];have b0:=@jN T;have b1:=@iO T;clear h1 h2 h3;walk_at "e";rfl
   have b2:=@sG T;simp only[gZ]at hc⊢;clear h2 h3;walk_at "e"
 . obtain⟨x,_,rfl⟩:=M3.mp hy;have:=G9 x (show f.a+f.s-f.a+1≠0 by omega);have:=J7 x hm;omega
structure Sd where
 word:Str
 cls:Str
 parts:List T
 ls:List Nat
 lo:Int
 hi:Option Int
def kQ(o:Bool)(s:Sd):T:=.tup [.str s.word,.lst o s.parts,.tup (s.ls.map λ(l:Nat)=>T.int (l:Int)),.tup [.int s.lo,nY s.hi]]
structure SdOk (f:Fm) (s:Sd):Prop where
 np:bB s.parts=true
 cp:dD s.parts=true
 c8:s.cls∈lY
 l12:s.ls.length=1\/s.ls.length=2
 lb:∀l∈s.ls,l<f.n.length
 made:∃x,dZ [bT false f,.str s.word,.lst false s.parts]=.ok (iD true s.cls (s.ls.map λ(l:Nat)=>(l:Int)) s.lo s.hi x)
def lb1{i n:Nat}(h:i<n):∀l∈[i],l<n:=λl q=>by rw[C5.mp q];exact h
def lb2{i j n:Nat}(h:i<n)(k:j<n):∀l∈[i,j],l<n:=λl q=>by
 rcases C4.mp q with rfl|q
 . exact h
 . rw[C5.mp q];exact k
def ef6:("Ink":Str)∈lY:=X0
def dc5:("Reign":Str)∈lY:=X0
def de3:("Under":Str)∈lY:=X0
def bd0:("Between":Str)∈lY:=X0
def dy3:("After":Str)∈lY:=X0
def ed1:("Same":Str)∈lY:=X0
def dg1:("Within":Str)∈lY:=X0
def bm9:("Apart":Str)∈lY:=X0
def am1{f:Fm}{k:Nat}(h:k<f.n.length):∃n,f.n[k]?=some n/\atI (f.n.map T.str) (k:Int)=some (.str n):=
 ⟨f.n[k],A6 h,gG (by simp[h])⟩
def int_at{xs:ah}{k:Nat}(h:k<xs.length):∃v∈xs,atI (xs.map T.int) (k:Int)=some (.int v):=
 ⟨xs[k],K3 h,gG (by simp[h])⟩
theorem ed4{xs:ah}(h:xs.length=6)(hb:∀x∈xs,0<=x):∃a b c d e g:Int,xs.map T.int=[.int a,.int b,.int c,.int d,.int e,.int g]/\0<=a/\0<=b/\0<=c/\0<=d/\0<=e/\0<=g:=by
 match xs,h with
 |[a,b,c,d,e,g],_=>exact⟨a,b,c,d,e,g,rfl,hb a X4,hb b X4,hb c X4,hb d X4,hb e X4,hb g X4⟩
def dp7{f:Fm}(g:Gd f){i j:Nat}{n k:Str}(h1:f.n[i]?=some n)(h2:f.n[j]?=some k)(h:i≠j):(n==k)=false:=by simp;rintro rfl;obtain⟨a1,a2⟩:=D3.mp h1;obtain⟨b1,b2⟩:=D3.mp h2;exact h ((List.getElem_inj g.nd).mp (a2.trans b2.symm))
def ek6{f:Fm}(g:Gd f){a b c d e w:Int}(hc:0<=c)(hd:0<=d)(he:0<=e){i j:Nat}(hi:i<f.n.length)(hj:j<f.n.length):∃s,tR [.lst false [.int a,.int b,.int c,.int d,.int e,.int w],gZ false f,.int i,.int j]=.ok (kQ true s)/\SdOk f s:=by
 obtain⟨n,hn,an⟩:=am1 hi;obtain⟨k,hk,ak⟩:=am1 hj;unfold tR wX;walk_at "B";have b4:=@ix4 T;have s0:=g.s0;have s1:=g.s1;have f0:=g.f0;have f1:=g.f1;have m1:0<f.a+f.s-f.a+61:=W9
 have m2:=G9 d (show f.a+f.s-f.a+61≠0 by omega);have m3:=J7 d m1;simp only[gZ];by_cases q:i=j\/c%2=0
 . have k0:(((i:Int)==(j:Int))||(c%2==0))=true:=by
    rcases q with q|q
    . subst q;simp
    . simp[q]
   obtain⟨x,hx⟩:=bm0 g hn (lo:=f.a-30+d%(f.a+f.s-f.a+61)) (hi:=f.a-30+d%(f.a+f.s-f.a+61)+e%40) W9 W9 W9;refine⟨⟨"between","Between",[.str n,.int (f.a-30+d%(f.a+f.s-f.a+61)),.int (f.a-30+d%(f.a+f.s-f.a+61)+e%40)],[i],f.a-30+d%(f.a+f.s-f.a+61),some (f.a-30+d%(f.a+f.s-f.a+61)+e%40)⟩,?_,⟨rfl,rfl,bd0,.inl rfl,lb1 hi,x,hx⟩⟩;have ct:fJ [T.str n,T.str k] none (some 1)=[T.str n]:=ax1 [T.str n,T.str k] 1;clear hx hn hk;cases h1:((i:Int)==(j:Int))with
   |true=>walk_at "e";rfl
   |false=>
    have h2:(c%2==0)=true:=by rw[h1]at k0;simpa using k0
    walk_at "e";rfl
 . have h1:((i:Int)==(j:Int))=false:=by simp;omega
   have h2:(c%2==0)=false:=by simp;omega
   have hne:=dp7 g hn hk W9;obtain⟨x,hx⟩:=bg8 g hn hk hne (lo:=d%601-300) (hi:=if d%601-300+e%40<300 then d%601-300+e%40 else 300) W9 (by split<;>omega) (by split<;>omega);refine⟨⟨"apart","Apart",[.str n,.str k,.int (d%601-300),.int (if d%601-300+e%40<300 then d%601-300+e%40 else 300)],[i,j],d%601-300,some (if d%601-300+e%40<300 then d%601-300+e%40 else 300)⟩,?_,⟨rfl,rfl,bm9,.inr rfl,lb2 hi hj,x,hx⟩⟩;clear hx hn hk;walk_at "e";rfl
def bt7(f:Fm):aO (gZ false f) (.int 0)=.ok (.int f.a)/\aO (gZ false f) (.int 1)=.ok (.int (f.a+f.s))/\aO (gZ false f) (.int 2)=.ok (.lst false (f.n.map .str))/\aO (gZ false f) (.int 3)=.ok (.lst false (f.i.map (gL false)))/\aO (gZ false f) (.int 4)=.ok (.lst false (f.r.map iE)):=by simp only[gZ,ca6,jN,iO,sG,wI,ix4];exact⟨trivial,trivial,trivial,trivial,trivial⟩
theorem df4{f:Fm}(g:Gd f){num gap:Int}(hn0:0<=num){i j:Nat}(hi:i<f.n.length)(hj:j<f.n.length)(hij:i≠j)(g0:-300<=gap)(g1:gap<=300):∃s,oN [.int num,gZ false f,.tup [.int i,.int j],.int gap]=.ok (kQ true s)/\SdOk f s:=by
 obtain⟨n,hn,an⟩:=am1 hi;obtain⟨k,hk,ak⟩:=am1 hj;have hne:=dp7 g hn hk hij;unfold oN sW;have b2:=(bt7 f).2.2.1;obtain⟨x1,hx1⟩:=eh2 g hn hk hne;obtain⟨x2,hx2⟩:=da6 g hn hk hne;have hc:∀q1 q2 q3 q4 q5:Option T,cC (aI 9) bY (aU (aE aO Af4 (aB 9))) [some (.int num),some (gZ false f),some (.tup [.int i,.int j]),some (.int gap),q1,q2,q3,q4,q5,none] [.int i,.int j]=.ok [.str n,.str k]:=by intros;simp only[cC];walk_at "e"
 have z1:=G9 (num/4) (show(4:Int)≠0 by decide);have tA:∀a1 a2 l,mG (bH (aE fT (aB 3) Al3)) Ak1 (some (.int num)::a1::a2::some (.int gap)::l)=.ok (gap==0&&num%4==0):=λa1 a2 l=>by cases h:(gap==0)<;>walk_at "e"
 have tB:∀a1 a2 l,mG (bH (aE gtT (aB 3) Al3)) (bH (aE ltT Af9 Al5)) (some (.int num)::a1::a2::some (.int gap)::l)=.ok (decide (0<gap)&&decide (num%4<2)):=λa1 a2 l=>by cases h:decide (0<gap)<;>walk_at "e"
 have tC:∀a1 a2 l,mG (bH (aE geT (aB 3) Al3)) (bH (aE fT Af9 Al5)) (some (.int num)::a1::a2::some (.int gap)::l)=.ok (decide (0<=gap)&&num%4==2):=λa1 a2 l=>by cases h:decide (0<=gap)<;>walk_at "e"
 generalize mG (bH (aE fT (aB 3) Al3)) Ak1=ZA at*;generalize mG (bH (aE gtT (aB 3) Al3)) (bH (aE ltT Af9 Al5))=ZB at*;generalize mG (bH (aE geT (aB 3) Al3)) (bH (aE fT Af9 Al5))=ZC at*;cases hA:(gap==0&&num%4==0)with
 |true=>refine⟨⟨"same","Same",[.str n,.str k],[i,j],0,some 0⟩,?_,⟨rfl,rfl,ed1,.inr rfl,lb2 hi hj,x1,hx1⟩⟩;rw[hA]at tA;clear hx1 hx2 hn hk hA tB tC;walk_at "e";rfl
 |false=>
  rw[hA]at tA;cases hB:(decide (0<gap)&&decide (num%4<2))with
  |true=>refine⟨⟨"after","After",[.str n,.str k],[i,j],1,none⟩,?_,⟨rfl,rfl,dy3,.inr rfl,lb2 hi hj,x2,hx2⟩⟩;rw[hB]at tB;clear hx1 hx2 hn hk hA hB tC;walk_at "e";rfl
  |false=>
   rw[hB]at tB;cases hC:(decide (0<=gap)&&num%4==2)with
   |true=>have c0:0<=gap:=of_decide_eq_true (Bool.and_eq_true_iff.mp hC).1;obtain⟨x3,hx3⟩:=cu8 g hn hk hne (hi:=if gap+num/4%4<300 then gap+num/4%4 else 300) (by split<;>omega) (by split<;>omega);refine⟨⟨"within","Within",[.str n,.str k,.int (if gap+num/4%4<300 then gap+num/4%4 else 300)],[i,j],0,some (if gap+num/4%4<300 then gap+num/4%4 else 300)⟩,?_,⟨rfl,rfl,dg1,.inr rfl,lb2 hi hj,x3,hx3⟩⟩;rw[hC]at tC;clear hx1 hx2 hx3 hn hk hA hB hC;walk_at "e";rfl
   |false=>obtain⟨x4,hx4⟩:=bg8 g hn hk hne (lo:=if gap-num/4%6>-300 then gap-num/4%6 else -300) (hi:=if gap+num/4/6%6<300 then gap+num/4/6%6 else 300) (by split<;>omega) (by split<;>split<;>omega) (by split<;>omega);refine⟨⟨"apart","Apart",[.str n,.str k,.int (if gap-num/4%6>-300 then gap-num/4%6 else -300),.int (if gap+num/4/6%6<300 then gap+num/4/6%6 else 300)],[i,j],if gap-num/4%6>-300 then gap-num/4%6 else -300,some (if gap+num/4/6%6<300 then gap+num/4/6%6 else 300)⟩,?_,⟨rfl,rfl,bm9,.inr rfl,lb2 hi hj,x4,hx4⟩⟩;rw[hC]at tC;clear hx1 hx2 hx4 hn hk hA hB hC;walk_at "e";rfl
def ak6{a:Int}{n:Nat}(h:0<n):0<=a%(n:Int)/\a%(n:Int)<n:=⟨G9 _ W9,J7 _ W9⟩
def el5{α:Type}{g:α->T}{l:List α}(h:0<l.length)(a:Int):∃p∈l,atI (l.map g) (a%(l.length:Int))=some (g p):=by
 obtain⟨h0,h1⟩:=ak6 (a:=a) h;obtain⟨k,hk⟩:=uQ h0;rw[hk]at h1⊢;have hk':k<l.length:=W9
 exact⟨l[k],K3 hk',gG (by simp[hk'])⟩
def cx3{xs:ah}(h:0<xs.length){a:Int}(ha:0<=a):atI (xs.map T.int) (if(xs.length:Int)-1<a then(xs.length:Int)-1 else a)=some (.int (xs.getD (min a.toNat (xs.length-1)) 0)):=by
 have e:(if(xs.length:Int)-1<a then(xs.length:Int)-1 else a)=((min a.toNat (xs.length-1):Nat):Int):=by split<;>omega
 rw[e];exact uK W9
def dr5{xs:ah}{d e:Int}{n j:Nat}(hj:j<n)(h:pB xs d e j=true):(j:Int)∈iN xs d e n:=by unfold iN;exact M3.mpr ⟨j,V7.mpr ⟨F9.mpr hj,h⟩,rfl⟩
def dc4{f:Fm}(g:Gd f){num y:Int}(hn0:0<=num){i:Nat}(hi:i<f.n.length)(y0:f.a<=y)(y1:y<=f.a+f.s):∃s,oU [.int num,gZ false f,.int i,.int y]=.ok (kQ true s)/\SdOk f s:=by
 obtain⟨n,hn,an⟩:=am1 hi;unfold oU tL;walk_at "B";have b4:=@ix4 T;have s0:=g.s0;have s1:=g.s1;have f0:=g.f0;have f1:=g.f1;obtain⟨m0,m1,m2,m3,m4⟩:=bt7 f;by_cases c0:num%4=0
 . have h0:(num%4==0)=true:=by simp[c0]
   clear c0;obtain⟨p,hp,ap⟩:=el5 (g:=gL false) (l:=f.i) (by have:=g.i1;omega) (num/4);obtain⟨t1,t60,tb,tf⟩:=(g.inn p hp).2;have hlen:0<(f.i.length:Int):=by have:=g.i1;omega
   obtain⟨er,her⟩:∃er,num/4/2%5=er:=⟨_,rfl⟩;have e0:0<=er/\er<5:=W9
   have ix:=cx3 (xs:=p.2) t1 (a:=f.a+f.s-y) W9;have er1:0<2*er+1:=W9
   have z1:=G9 (num/4/10) (show 2*er+1≠0 by omega);have z2:=J7 (num/4/10) er1;obtain⟨D,hD⟩:∃D,p.2.getD (min (f.a+f.s-y).toNat (p.2.length-1)) 0=D:=⟨_,rfl⟩;have dB:0<=D/\D<=408:=by rw[<-hD,A8,A6 (show min (f.a+f.s-y).toNat (p.2.length-1)<p.2.length by omega)];exact tb _ (K3 _)
   obtain⟨dk,hdk⟩:∃dk,(if D+num/4/10%(2*er+1)-er>0 then D+num/4/10%(2*er+1)-er else 0)=dk:=⟨_,rfl⟩;have dkB:0<=dk/\dk<=412/\D-dk<=er/\dk-D<=er:=by rw[<-hdk];split<;>omega
   rw[hD]at ix;simp only[gL]at ap;have pin:pB p.2 dk er (f.a+f.s-y).toNat=true:=by unfold pB;rw[hD];exact F7 (by split<;>omega)
   have hmem:=dr5 (n:=f.s.toNat+1) W9 pin;obtain⟨a,r,hh⟩:∃a r,iN p.2 dk er (f.s.toNat+1)=a::r:=by
    cases q:iN p.2 dk er (f.s.toNat+1)with
    |nil=>rw[q]at hmem;cases hmem
    |cons a r=>exact⟨a,r,rfl⟩
   have hdm:dk<=1000000:=W9
   obtain⟨x,hx⟩:=es7 g hn hp (d:=dk) (e:=er) W9 hdm W9 W9 hh rfl;refine⟨⟨"ink","Ink",[.str n,.str p.1,.int dk,.int er],[i],f.a+f.s-(a::r).getD r.length 0,some (f.a+f.s-a)⟩,?_,⟨rfl,rfl,ef6,.inl rfl,lb1 hi,x,hx⟩⟩;have rg:-(2^62)<=f.a+f.s-f.a+1/\f.a+f.s-f.a+1<2^62:=W9
   clear hx hn hmem pin hD tb tf;walk_at "e";generalize hL:dI _ _ _ _=o;obtain⟨ρ',rfl,o11,rfl⟩:=fL (λj U=>∃(o11:bc),U=[some (.int num),some (gZ false f),some (.int i),some (.int y),some (.str n),some (.int (num/4)),some (.str p.1),some (.lst false (p.2.map .int)),some (.int er),some (.int dk),some (.lst true ((iN p.2 dk er j).map .int)),o11,none,none,none,none,none,none]) hL ⟨_,rfl⟩ (by
    rintro j t U et ⟨o11,rfl⟩;obtain⟨hj,rfl⟩:=mU et;have ixj:=cx3 (xs:=p.2) t1 (a:=0+(j:Int)) W9;rw[show(0+(j:Int)).toNat=j by omega]at ixj;have hl:(iN p.2 dk er j).length<=100000:=by unfold iN;rw[C3];exact K1 (List.length_filter_le _ _) (by rw[K6];omega)
    have hsucc:=sD p.2 dk er j;clear hL et hh hdk ix;cases hB:pB p.2 dk er j with
    |true=>rw[E3 hB]at hsucc;unfold pB at hB;clear hsucc;walk_at "e";refine⟨some (.int (0+(j:Int))),?_⟩;rw[sD,E3 (show pB p.2 dk er j=true from hB),J1,show(0+(j:Int))=(j:Int) by omega];rfl
    |false=>unfold pB at hB;clear hsucc;walk_at "e";refine⟨some (.int (0+(j:Int))),?_⟩;rw[sD,D7 (by rw[show pB p.2 dk er j=false from hB];decide),K8])
   rw[cI,show(f.a+f.s-f.a+1).toNat=f.s.toNat+1 by omega,hh];clear hL hh hdk;have ae:=db5 (a:=a) (l:=r);simp only[C7]at ae⊢;walk_at "e";rfl
 . have h0:(num%4==0)=false:=by simpa using c0
   clear c0;have hlen:0<(f.r.length:Int):=by have:=g.r1;omega
   obtain⟨k0,k1⟩:=ak6 (a:=num/4/2) (n:=f.r.length) W9;obtain⟨kn,hkn⟩:=uQ k0;have hk':kn<=f.r.length:=W9
   have c1:fJ (f.r.map iE) (some (num/4/2%(f.r.length:Int))) none=(f.r.drop kn).map iE:=by rw[hkn,bz9 _ _ (by simpa using hk'),List.map_drop]
   have c2:fJ (f.r.map iE) none (some (num/4/2%(f.r.length:Int)))=(f.r.take kn).map iE:=by rw[hkn,ax1,U6]
   have n1:=mW;have z1:=uP;have l1:(f.r.drop kn).length+(f.r.take kn).length<=100000:=by have:=g.r8;simp;omega
   have mA:=(J1 (f:=iE) (l₁:=f.r.drop kn) (l₂:=f.r.take kn)).symm;clear hkn k0 k1;have hmem:∀q∈f.r.drop kn++f.r.take kn,q∈f.r:=λq hq=>(A9.mp hq).elim List.mem_of_mem_drop O2;walk_at "e";generalize hL:dI _ _ _ _=o;have hx:=dn1 (λ_ U=>∃(o13 o14 o15:bc),U=[some (.int num),some (gZ false f),some (.int i),some (.int y),some (.str n),some (.int (num/4)),none,none,none,none,none,none,some (.int (num/4/2%(f.r.length:Int))),o13,o14,o15,none,none]) (λ_=>False) (λt=>∃s,t=kQ true s/\SdOk f s) hL ⟨_,_,_,rfl⟩ (by
    rintro j t U et ⟨o13,o14,o15,rfl⟩;rw[C8]at et;cases eq:(f.r.drop kn++f.r.take kn)[j]? with
    |none=>rw[eq]at et;cases et
    |some q=>
     rw[eq]at et;have et:=(G0 et).symm;subst et;have hq:=hmem q (D4 eq);obtain⟨_,r1,r2,r3,r4⟩:=g.rn q hq;simp only[iE];clear hL c1 c2 mA n1 z1 l1 hmem eq;by_cases t1:num%4=1
     . have e1:(num%4==1)=true:=by simp[t1]
       clear t1;by_cases t2:q.2.1<=y/\y<q.2.1+q.2.2
       . have e2:decide (q.2.1<=y)=true:=F7 t2.1;have e3:decide (y<q.2.1+q.2.2)=true:=F7 t2.2;cases e4:(num/4%2==0)with
         |true=>obtain⟨x,hx⟩:=ds3 g hn hq (k:=y-q.2.1+1) W9 W9;rw[show q.2.1+(y-q.2.1+1)-1=y by omega]at hx;clear t2 hn;walk_at "e";exact⟨⟨"reign","Reign",[.str n,.str q.1,.int (y-q.2.1+1)],[i],y,some y⟩,rfl,⟨rfl,rfl,dc5,.inl rfl,lb1 hi,x,hx⟩⟩
         |false=>obtain⟨x,hx⟩:=dh5 g hn hq;clear t2 hn;walk_at "e";exact⟨⟨"under","Under",[.str n,.str q.1],[i],q.2.1,some (q.2.1+q.2.2-1)⟩,rfl,⟨rfl,rfl,de3,.inl rfl,lb1 hi,x,hx⟩⟩
       . by_cases t3:q.2.1<=y
         . have e2:decide (q.2.1<=y)=true:=F7 t3;have e3:decide (y<q.2.1+q.2.2)=false:=F6 W9;clear t2 t3 hn;walk_at "e";exact⟨_,_,_,rfl⟩
         . have e2:decide (q.2.1<=y)=false:=F6 t3;clear t2 t3 hn;walk_at "e";exact⟨_,_,_,rfl⟩
     . have e1:(num%4==1)=false:=by simpa using t1
       clear t1 hn;walk_at "e";exact⟨_,_,_,rfl⟩)
   rcases hx with⟨ρ',rfl,(⟨o13,o14,o15,rfl⟩|h)⟩|⟨t,rfl,s,rfl,hs⟩
   . obtain⟨x,hx⟩:=bm0 g hn (lo:=if y-num/4%9>-4000 then y-num/4%9 else -4000) (hi:=if y+num/4/9%9<4000 then y+num/4/9%9 else 4000) (by split<;>omega) (by split<;>split<;>omega) (by split<;>omega);refine⟨⟨"between","Between",[.str n,.int (if y-num/4%9>-4000 then y-num/4%9 else -4000),.int (if y+num/4/9%9<4000 then y+num/4/9%9 else 4000)],[i],if y-num/4%9>-4000 then y-num/4%9 else -4000,some (if y+num/4/9%9<4000 then y+num/4/9%9 else 4000)⟩,?_,⟨rfl,rfl,bd0,.inl rfl,lb1 hi,x,hx⟩⟩;clear hL c1 c2 mA n1 z1 l1 hmem hx hn;walk_at "e";rfl
   . exact h.elim
   . exact⟨s,rfl,hs⟩
def ix5{α:Type}(a b c d e g:α)(l:List α):atI (a::b::c::d::e::g::l) 5=some g:=gG (j:=5) rfl
def ai3{f:Fm}{s:Sd}(h:SdOk f s):cT (kQ true s)=true:=by have q:dD (s.ls.map λ(l:Nat)=>T.int (l:Int))=true:=lJ Am9 _;simp only[kQ,cT,dD,h.cp,q,ak7,H0]
abbrev zT:Fr->Res Bool:=mG (fK (aB 2)) Ak6
abbrev zF:Fr->bS:=(cZ zT (jX 6 [] dH (aW 4 tR (aD (aB 8) (aD (aB 1) (aD (aB 9) (aD (aB 11) aH)))))) (cZ Ai3 (jX 6 [] dH (aW 4 oU Aj7)) (jX 6 [] dH (aW 4 oN Ag8))))
def et7(f:Fm):frz (gZ false f)=gZ false f:=by simp only[gZ,frz,frzs,zY,sI,uP]
theorem ew0{f:Fm}(g:Gd f){fl:Bool}{a b c d e w:Int}(hc:0<=c)(hd:0<=d)(he:0<=e){i j:Nat}(hi:i<f.n.length)(hj:j<f.n.length)(hij:¬f.n.length=1->i≠j){ys:ah}(yl:ys.length=f.n.length)(yb:∀y∈ys,f.a<=y/\y<=f.a+f.s){ss:List Sd}(hsl:ss.length<=100000)(a0 a3 a5 a7 a12:bc):
 ∃s,SdOk f s/\zF [a0,some (gZ false f),some (.bl fl),a3,some (.int f.n.length),a5,some (.lst true (ss.map (kQ true))),a7,some (.lst true [.int a,.int b,.int c,.int d,.int e,.int w]),some (.int i),some (.lst true (ys.map .int)),some (.int j),a12]=.nx [a0,some (gZ false f),some (.bl fl),a3,some (.int f.n.length),a5,some (.lst true ((ss++[s]).map (kQ true))),a7,some (.lst true [.int a,.int b,.int c,.int d,.int e,.int w]),some (.int i),some (.lst true (ys.map .int)),some (.int j),a12]:=by
 have b2:=@sG T;have b3:=@wI T;have b5:=@ix5 T;have zf:=et7 f;have s1:=g.s1;have tst:zT [a0,some (gZ false f),some (.bl fl),a3,some (.int f.n.length),a5,some (.lst true (ss.map (kQ true))),a7,some (.lst true [.int a,.int b,.int c,.int d,.int e,.int w]),some (.int i),some (.lst true (ys.map .int)),some (.int j),a12]=.ok (fl&&(w%8==5)):=by cases fl<;>walk_at "e"
 obtain⟨yi,hyi,ai⟩:=int_at (xs:=ys) (k:=i) W9;obtain⟨yj,hyj,aj⟩:=int_at (xs:=ys) (k:=j) W9;have yi2:=yb yi hyi;have yj2:=yb yj hyj;unfold zF;generalize zT=Z at*;clear yb hyi hyj;simp only[J1,C7,L3];cases h8:(fl&&(w%8==5))with
 |true=>obtain⟨s,hF,hs⟩:=ek6 g (a:=a) (b:=b) (w:=w) hc hd he hi hj;refine⟨s,hs,?_⟩;have ccs:=ai3 hs;rw[h8]at tst;clear h8 hs hij yi2 yj2 ai aj;walk_at "e"
 |false=>
  rw[h8]at tst;by_cases hm1:f.n.length=1\/c%5<2
  . obtain⟨s,hF,hs⟩:=dc4 g hd hi yi2.1 yi2.2;refine⟨s,hs,?_⟩;have ccs:=ai3 hs;by_cases hm:f.n.length=1
    . have t1:((f.n.length:Int)==1)=true:=by simp[hm]
      clear h8 hs hij yi2 yj2 aj hm1 hm;walk_at "e"
    . have t1:((f.n.length:Int)==1)=false:=by simp;omega
      have t2:decide (c%5<2)=true:=F7 (hm1.resolve_left hm);clear h8 hs hij yi2 yj2 aj hm1 hm;walk_at "e"
  . have t1:((f.n.length:Int)==1)=false:=by simp;omega
    have t2:decide (c%5<2)=false:=F6 λq=>hm1 (.inr q);obtain⟨s,hF,hs⟩:=df4 g (gap:=yi-yj) hd hi hj (hij λq=>hm1 (.inl q)) W9 W9;refine⟨s,hs,?_⟩;have ccs:=ai3 hs;clear h8 hs hij yi2 yj2 hm1;walk_at "e"
def cf8{f:Fm}(g:Gd f)(cs:ah)(hcs:cs.length<=100)(fl:Bool)(hid:ah)(hl:hid.length=f.n.length)(hb:∀y∈hid,f.a<=y/\y<=f.a+f.s):
 ∃ss:List Sd,qO [.lst false (cs.map .int),gZ false f,.bl fl,.lst false (hid.map .int)]=.ok (.lst true (ss.map (kQ true)))/\ss.length=cs.length/\∀s∈ss,SdOk f s:=by
 unfold qO rE;have b0:=@jN T;have b1:=@iO T;have b4:=@ix4 T;have b5:=@ix5 T;obtain⟨f0,f1,f2,_⟩:=bt7 f;have s0:=g.s0;have n1:=g.n1;have n8:=g.n8;walk_at "e";generalize hL:dI _ _ _ _=o;obtain⟨ρ',rfl,ss,o7,o8,o9,o10,o11,o12,rfl,sl,sb⟩:=fL (λj U=>∃(ss:List Sd)(o7 o8 o9 o10 o11 o12:bc),U=[some (.lst false (cs.map .int)),some (gZ false f),some (.bl fl),some (.lst false (hid.map .int)),some (.int f.n.length),some (.int (f.a+f.s-f.a)),some (.lst true (ss.map (kQ true))),o7,o8,o9,o10,o11,o12]/\ss.length=j/\∀s∈ss,SdOk f s) hL ⟨[],_,_,_,_,_,_,rfl,rfl,fH⟩ (by
  rintro j0 t U et ⟨ss,o7,o8,o9,o10,o11,o12,rfl,sl,sb⟩;rw[C8]at et;cases eq:cs[j0]? with
  |none=>rw[eq]at et;cases et
  |some cell=>
   rw[eq]at et;have et:=(G0 et).symm;subst et;have hj0:j0<cs.length:=(D3.mp eq).1;have hsl:ss.length<=100000:=W9
   clear hL eq;obtain⟨xs,hr,hxl,hxb⟩:=dl7 cell 6 X5;obtain⟨a,b,c,d,e,w,hx6,ha0,hb0,hc0,hd0,he0,hw0⟩:=ed4 hxl hxb;rw[hx6]at hr;have hr:sJ [.int cell,.int 6]=.ok (.lst true [.int a,.int b,.int c,.int d,.int e,.int w]):=hr;clear hx6 hxl hxb;obtain⟨i0,i1⟩:=ak6 (a:=a) (n:=f.n.length) W9;obtain⟨i,hie⟩:=uQ i0;have hi:i<f.n.length:=W9
   have mx:0<(if(f.n.length:Int)-1>1 then(f.n.length:Int)-1 else 1):=by split<;>omega
   have mx1:=G9 (b/3) (show(if(f.n.length:Int)-1>1 then(f.n.length:Int)-1 else 1)≠0 by omega);have mx2:=J7 (b/3) mx;have mp:0<(f.n.length:Int):=W9
   obtain⟨j1,j2⟩:=ak6 (a:=(i:Int)+1+b/3%(if(f.n.length:Int)-1>1 then(f.n.length:Int)-1 else 1)) (n:=f.n.length) W9;obtain⟨j,hje⟩:=uQ j1;have hj:j<f.n.length:=W9
   have hij:¬f.n.length=1->i≠j:=by
    intro hm hq;subst hq;generalize b/3%(if(f.n.length:Int)-1>1 then(f.n.length:Int)-1 else 1)=v at*;have hv:v<(f.n.length:Int)-1:=by split at mx2<;>omega
    by_cases q:(i:Int)+1+v<f.n.length
    . rw[Int.emod_eq_of_lt W9 q]at hje;omega
    . rw[show(i:Int)+1+v=((i:Int)+1+v-f.n.length)+(f.n.length:Int)*1 by omega,Int.add_mul_emod_self_left,Int.emod_eq_of_lt W9 W9]at hje;omega
   clear i0 i1 j1 j2;have put:=λ(ys:ah) yl yb (o:bc)=>ew0 g (fl:=fl) (a:=a) (b:=b) (w:=w) hc0 hd0 he0 hi hj hij (ys:=ys) yl yb hsl (some (.lst false (cs.map .int))) (some (.lst false (hid.map .int))) (some (.int (f.a+f.s-f.a))) (some (.int cell)) o;have out:∀s,SdOk f s->(ss++[s]).length=j0+1/\∀q∈ss++[s],SdOk f q:=λs hs=>⟨by simp[sl],λq hq=>(A9.mp hq).elim (sb q) (λz=>by rw[C5.mp z];exact hs)⟩;show yG _ (aP _ (aP _ (aP _ (aP _ (aP _ zF))))) _;generalize zF=Z at*;have zh:=gK hid;by_cases h3:(fl&&(b%3==0))=true
   . obtain⟨rfl,h3⟩:=Bool.and_eq_true_iff.mp h3;have rg:-(2^62)<=(f.n.length:Int)/\(f.n.length:Int)<2^62:=W9
     have mspan:0<f.a+f.s-f.a+1:=W9
     obtain⟨ys,hys,hyl,yb⟩:∃ys:List Int,(∀q:Option T,cC (aI 12) bY Ah4 [some (.lst false (cs.map .int)),some (gZ false f),some (.bl true),some (.lst false (hid.map .int)),some (.int f.n.length),some (.int (f.a+f.s-f.a)),some (.lst true (ss.map (kQ true))),some (.int cell),some (.lst true [.int a,.int b,.int c,.int d,.int e,.int w]),some (.int i),some (.lst true (hid.map .int)),q,none] (cK 0 (f.n.length:Int).toNat)=.ok (ys.map .int))/\ys.length=f.n.length/\∀y∈ys,f.a<=y/\y<=f.a+f.s:=by
      refine⟨(List.range f.n.length).map λ(k:Nat)=>f.a+(e+7*w*(0+(k:Int)))%(f.a+f.s-f.a+1),λq=>?_,X4,λy hy=>?_⟩
      . unfold cK;rw[J4,E5];refine cX λk hk=>?_;have hk:=F9.mp hk;have mk:mulOk (7*w) (0+(k:Int)):=ch7 W9 W9;clear hr hie hje put out;walk_at "e";rfl
      . obtain⟨k,_,rfl⟩:=M3.mp hy;have:=G9 (e+7*w*(0+(k:Int))) (show f.a+f.s-f.a+1≠0 by omega);have:=J7 (e+7*w*(0+(k:Int))) mspan;omega
     have ity:(cK 0 (f.n.length:Int).toNat).length<=sizeLine:=by rw[cI];exact uS W9
     obtain⟨s,hs,pz⟩:=put ys hyl yb o12;have out:=out s hs;clear put hs sb sl hb hl;walk_at "e";exact⟨_,_,_,_,_,_,_,rfl,out⟩
   . obtain⟨s,hs,pz⟩:=put hid hl hb o12;have out:=out s hs;clear put hs sb sl hb hl;cases fl with
     |false=>clear h3;walk_at "e";exact⟨_,_,_,_,_,_,_,rfl,out⟩
     |true=>
      have h3:(b%3==0)=false:=by simpa using h3
      walk_at "e";exact⟨_,_,_,_,_,_,_,rfl,out⟩)
 clear hL;rw[C3]at sl;refine⟨ss,?_,sl,sb⟩;walk_at "e"
open Classical in
def txt(f:Fm)(s:Sd):Str:=if h:∃x,dZ [bT false f,.str s.word,.lst false s.parts]=.ok (iD true s.cls (s.ls.map λ(l:Nat)=>(l:Int)) s.lo s.hi x)then Classical.choose h else ""
def eR(o:Bool)(f:Fm)(s:Sd):T:=iD o s.cls (s.ls.map λ(l:Nat)=>(l:Int)) s.lo s.hi (txt f s)
def eg0(h:SdOk f s):dZ [bT false f,.str s.word,.lst false s.parts]=.ok (eR true f s):=by unfold eR txt;rw[dif_pos h.made];exact Classical.choose_spec h.made
def ar9(o:Bool)(f:Fm)(s:Sd):frz (eR o f s)=eR false f s:=eo5 _ _ _ _ _ _
def cw0(f:Fm)(s:Sd):cT (eR true f s)=true:=cd1 _ _ _ _ _
def bc9(f:Fm)(s:Sd):cP (eR false f s)=true:=do4 _ _ _ _ _
theorem oQ(o:Bool)(f:Fm):∀ss:List Sd,frzs (ss.map (eR o f))=ss.map (eR false f)
 |[]=>rfl
 |s::ss=>by simp only[C7,frzs,ar9,oQ o f ss]
def cd6(f:Fm)(ss:List Sd):dD (ss.map (eR true f))=true:=lJ (cw0 f) ss
def jD(f:Fm)(ss:List Sd):bB (ss.map (eR false f))=true:=nE (bc9 f) ss
def eo3(h:SdOk f s)(o:Bool):frz (kQ o s)=kQ false s:=by have q:frzs (s.ls.map λ(l:Nat)=>T.int (l:Int))=s.ls.map λ(l:Nat)=>T.int (l:Int):=yJ Am9 _;simp only[kQ,frz,frzs,iY _ h.np,q,ce9]
def dj3(h:SdOk f s):cP (kQ false s)=true:=by have q:bB (s.ls.map λ(l:Nat)=>T.int (l:Int))=true:=nE Am9 _;simp only[kQ,cP,bB,h.np,q,an2,P7,H0]
theorem ai8(o:Bool):∀{ss:List Sd},(∀s∈ss,SdOk f s)->frzs (ss.map (kQ o))=ss.map (kQ false)
 |[],_=>rfl
 |s::ss,h=>by simp only[C7,frzs,eo3 (h s B7),ai8 o λt ht=>h t (B5 _ ht)]
theorem aj2:∀{ss:List Sd},(∀s∈ss,SdOk f s)->bB (ss.map (kQ false))=true
 |[],_=>rfl
 |s::ss,h=>by simp only[C7,bB,dj3 (h s B7),aj2 λt ht=>h t (B5 _ ht),H0]
theorem ac9:∀{ss:List Sd},(∀s∈ss,SdOk f s)->dD (ss.map (kQ true))=true
 |[],_=>rfl
 |s::ss,h=>by simp only[C7,dD,ai3 (h s B7),ac9 λt ht=>h t (B5 _ ht),H0]
def eu7{f:Fm}{ss:List Sd}(h:∀s∈ss,SdOk f s)(hl:ss.length<=1000):xN [bT false f,.lst false (ss.map (kQ false))]=.ok (.lst true (ss.map (eR true f))):=by
 unfold xN wY;have hc:cC (eX Ah5) bY (aW 3 dZ (aD (aB 0) (aD (aB 2) (aD Ag9 aH)))) [some (bT false f),some (.lst false (ss.map (kQ false))),none,none,none,none] (ss.map (kQ false))=.ok (ss.map (eR true f)):=by refine lC λs hs=>?_;have k:=eg0 (h s hs);have np:=(h s hs).np;have zp:=iY _ np;have za:=gE false f;have co:=cw0 f s;simp only[kQ];clear h;walk_at "e"
 have nn:=aj2 h;have l1:ss.length<=100000:=W9
 clear h;walk_at "e"
def yU(s:Sd):T:=match s.ls with
 |[_,b]=>.int b
 |_=>.non
def fst(s:Sd):Int:=match s.ls with
 |a::_=>a
 |_=>0
def st(s:Sd)(k:Int):List T:=(match s.hi with
 |some h=>[.tup [yU s,.int (fst s),.int h,.int k]]
 |none=>[])++[.tup [.int (fst s),yU s,.int (0-s.lo),.int k]]
def sp(f:Fm)(l:Int):List T:=[.tup [.non,.int l,.int (f.a+f.s),.non],.tup [.int l,.non,.int (0-f.a),.non]]
def ds1(c:Str)(hc:c∈lY)(o:Bool)(ls:ah)(lo:Int)(hi:a9)(x:Str):eQ  Al7  "spoken" (iD o c ls lo hi x)=.ok (.lst o (ls.map .int)):=by have:=ct8 c hc;simp only[eQ,iD,this,N4];with_unfolding_all rfl
def em7(c:Str)(hc:c∈lY)(o:Bool)(ls:ah)(lo:Int)(hi:a9)(x:Str):eQ  Al7  "low" (iD o c ls lo hi x)=.ok (.int lo):=by have:=ct8 c hc;simp only[eQ,iD,this,N4];with_unfolding_all rfl
def dk9(c:Str)(hc:c∈lY)(o:Bool)(ls:ah)(lo:Int)(hi:a9)(x:Str):eQ  Al7  "high" (iD o c ls lo hi x)=.ok (nY hi):=by have:=ct8 c hc;simp only[eQ,iD,this,N4];with_unfolding_all rfl
def dg3:iC "about" ["spoken","low","high","text"]=none:=X0
def da1:iC "bounds" ["spoken","low","high","text"]=none:=X0
def eg1(h:c∈lY):tm_about.lookup c=some bD:=by simp only[lY,C4,J3,O6]at h;rcases h with rfl|rfl|rfl|rfl|rfl|rfl|rfl|rfl<;>with_unfolding_all rfl
def eu0(h:c∈lY):tm_bounds.lookup c=some aX:=by simp only[lY,C4,J3,O6]at h;rcases h with rfl|rfl|rfl|rfl|rfl|rfl|rfl|rfl<;>with_unfolding_all rfl
def db9(c8:s.cls∈lY)(f:Fm)(h:aB 0 U=.ok (eR false f s)):nX 1 "about" tm_about (aB 0) aH U=.ok (.lst true ((s.ls.map λ(l:Nat)=>(l:Int)).map .int)):=by
 have k:bD [eR false f s]=.ok (.lst true ((s.ls.map λ(l:Nat)=>(l:Int)).map .int)):=by unfold bD eT eR;have:=ds1 s.cls c8 false (s.ls.map λ(l:Nat)=>(l:Int)) s.lo s.hi (txt f s);walk_at "e"
 have zo:=ar9 false f s;have e:nX 1 "about" tm_about (aB 0) aH U=zO 1 bD [eR false f s]:=by simp only[nX,h,rY,aH,eR,iD,dg3,eg1 c8]
 rw[e];clear h;walk_at "e"
def dv5(c8:s.cls∈lY)(f:Fm)(h:aB 0 U=.ok (eR false f s)):nX 1 "bounds" tm_bounds (aB 0) aH U=.ok (.tup [.int s.lo,nY s.hi]):=by
 have ch:=ak7 s.hi;have nh:=an2 s.hi;have k:aX [eR false f s]=.ok (.tup [.int s.lo,nY s.hi]):=by unfold aX eE eR;have:=em7 s.cls c8 false (s.ls.map λ(l:Nat)=>(l:Int)) s.lo s.hi (txt f s);have:=dk9 s.cls c8 false (s.ls.map λ(l:Nat)=>(l:Int)) s.lo s.hi (txt f s);walk_at "e"
 have zo:=ar9 false f s;have e:nX 1 "bounds" tm_bounds (aB 0) aH U=zO 1 aX [eR false f s]:=by simp only[nX,h,rY,aH,eR,iD,da1,eu0 c8]
 rw[e];clear h;walk_at "e"
def bu2(ok:SdOk f s)(k:Int):pT [eR false f s,.int k]=.ok (.lst true (st s k)):=by
 unfold pT pU;have ha:=db9 ok.c8 f (U:=[some (eR false f s),some (.int k),none,none,none,none]) rfl;have hb:=λq=>dv5 ok.c8 f (U:=[some (eR false f s),some (.int k),some q,none,none,none]) rfl;have b0:=@jN T;have b1:=@iO T;obtain⟨word,cls,parts,ls,lo,hi⟩:=s;have l12:=ok.l12;simp only at l12 ha hb;clear ok;have t2:((2:Nat):Int)=2:=rfl;have q3:((2:Int)==2)=true:=rfl;have q1:(((0+1:Nat):Int)==2)=false:=rfl;have q2:(((0+1+1:Nat):Int)==2)=true:=rfl;rcases ls with _|⟨a,_|⟨b,_|⟨c,r⟩⟩⟩
 . simp at l12
 . simp only[C7,L3]at ha;cases hi with
   |none=>simp only[nY]at hb;walk_at "e";rfl
   |some h=>simp only[nY]at hb;walk_at "e";rfl
 . simp only[C7,L3]at ha;cases hi with
   |none=>simp only[nY]at hb;walk_at "e";rfl
   |some h=>simp only[nY]at hb;walk_at "e";rfl
 . simp at l12
def bl8(f:Fm)(l:Int):tD [bT false f,.int l]=.ok (.lst true (sp f l)):=by unfold tD tS sp;have f1:=ao2 false f;have f2:=ag2 false f;walk_at "e"
def ah3(ss:List Sd)(k:Nat):List T:=match ss[k]? with
 |some s=>st s k
 |none=>[]
def sH(ss:List Sd)(n:Nat):List T:=(List.range n).flatMap (ah3 ss)
def yD(f:Fm)(n:Nat):List T:=(List.range n).flatMap λ(l:Nat)=>sp f (l:Int)
def cN(f:Fm)(ss:List Sd):List T:=sH ss ss.length++yD f f.n.length
def cy0{ss:List Sd}{n:Nat}{s:Sd}(h:ss[n]?=some s):sH ss (n+1)=sH ss n++st s n:=by unfold sH;rw[R5,List.flatMap_append];simp[ah3,h]
def ad8(f:Fm)(n:Nat):yD f (n+1)=yD f n++sp f n:=by unfold yD;rw[R5,List.flatMap_append];simp
def xG(t:T):Prop:=∃a b c d,t=.tup [a,b,.int c,d]/\(a=.non\/∃i,a=.int i)/\(b=.non\/∃i,b=.int i)/\(d=.non\/∃i,d=.int i)
def db1(s:Sd):yU s=.non\/∃i,yU s=.int i:=by
 unfold yU;split
 . exact .inr ⟨_,rfl⟩
 . exact .inl rfl
def bz1(s:Sd)(k:Int):∀t∈st s k,xG t:=by
 intro t ht;unfold st at ht;rcases A9.mp ht with ht|ht
 . split at ht
   . rw[C5.mp ht];exact⟨_,_,_,_,rfl,db1 s,.inr ⟨_,rfl⟩,.inr ⟨_,rfl⟩⟩
   . cases ht
 . rw[C5.mp ht];exact⟨_,_,_,_,rfl,.inr ⟨_,rfl⟩,db1 s,.inr ⟨_,rfl⟩⟩
def dm6(ss:List Sd)(n:Nat):∀t∈sH ss n,xG t:=by
 intro t ht;obtain⟨k,_,h⟩:=L7.mp ht;unfold ah3 at h;split at h
 . exact bz1 _ _ t h
 . cases h
def di6(f:Fm)(n:Nat):∀t∈yD f n,xG t:=by
 intro t ht;obtain⟨k,_,h⟩:=L7.mp ht;simp only[sp,C4,J3,O6]at h;rcases h with rfl|rfl
 . exact⟨_,_,_,_,rfl,.inl rfl,.inr ⟨_,rfl⟩,.inl rfl⟩
 . exact⟨_,_,_,_,rfl,.inr ⟨_,rfl⟩,.inl rfl,.inl rfl⟩
def oI(f:Fm)(ss:List Sd):∀t∈cN f ss,xG t:=λt ht=>(A9.mp ht).elim (dm6 _ _ t) (di6 _ _ t)
def kC{t:T}(h:xG t):cP t=true/\cT t=true/\frz t=t:=by obtain⟨a,b,c,d,rfl,ha,hb,hd⟩:=h;rcases ha with rfl|⟨i,rfl⟩<;>rcases hb with rfl|⟨j,rfl⟩<;>rcases hd with rfl|⟨k,rfl⟩<;>exact⟨rfl,rfl,rfl⟩
def gO{ts:aw}(h:∀t∈ts,xG t):bB ts=true:=by rw[rX,K4];exact λt ht=>(kC (h t ht)).1
def oM{ts:aw}(h:∀t∈ts,xG t):dD ts=true:=by rw[ao5,K4];exact λt ht=>(kC (h t ht)).2.1
def kJ{ts:aw}(h:∀t∈ts,xG t):frzs ts=ts:=iY ts (gO h)
def cb9(s:Sd)(k:Int):(st s k).length<=2:=by unfold st;split<;>simp
theorem xO(ss:List Sd):∀n,(sH ss n).length<=2*n
 |0=>by simp[sH]
 |n+1=>by
  have ih:=xO ss n;unfold sH at ih⊢;rw[R5,List.flatMap_append,E7];have:(([n]:List Nat).flatMap (ah3 ss)).length<=2:=by
   simp only[List.flatMap_cons,List.flatMap_nil,K8,ah3];split
   . exact cb9 _ _
   . simp
  omega
theorem ah6(f:Fm):∀n,(yD f n).length=2*n
 |0=>by simp[yD]
 |n+1=>by rw[ad8,E7,ah6 f n];simp[sp];omega
def bs0{f:Fm}(g:Gd f){ss:List Sd}(h:∀s∈ss,SdOk f s)(hl:ss.length<=1000):pW [bT false f,.lst false (ss.map (eR false f))]=.ok (.lst true (cN f ss)):=by
 unfold pW xL;have fl:=jZ false f;have no:=jD f ss;have n8:=g.n8;walk_at "e";generalize hL:dI _ _ _ _=o;obtain⟨ρ',rfl,o3,o4,rfl⟩:=fL (λj U=>∃(o3 o4:bc),U=[some (bT false f),some (.lst false (ss.map (eR false f))),some (.lst true (sH ss j)),o3,o4,none]) hL ⟨_,_,rfl⟩ (by
  rintro j t U et ⟨o3,o4,rfl⟩;obtain⟨t2,e2,rfl⟩:=bn5 et;rw[C8]at e2;cases eq:ss[j]? with
  |none=>rw[eq]at e2;cases e2
  |some s=>
   rw[eq]at e2;have e2:=(G0 e2).symm;subst e2;have hs:=h s (D4 eq);have k:=bu2 hs (j:Int);have zo:=ar9 false f s;have cs:=oM (bz1 s j);have zs:=kJ (bz1 s j);have hj:j<ss.length:=(D3.mp eq).1;have l1:=xO ss j;have l2:=cb9 s j;have l3:(sH ss j).length+(st s j).length<=100000:=W9
   have sc:=cy0 eq;clear hL et eq h;walk_at "e";exact⟨_,_,rfl⟩)
 rw[bv4,C3];clear hL;walk_at "e";generalize hL:dI _ _ _ _=o;obtain⟨ρ',rfl,o5,rfl⟩:=fL (λj U=>∃(o5:bc),U=[some (bT false f),some (.lst false (ss.map (eR false f))),some (.lst true (sH ss ss.length++yD f j)),o3,o4,o5]) hL ⟨none,by simp[yD]⟩ (by
  rintro j t U et ⟨o5,rfl⟩;obtain⟨hj,rfl⟩:=mU et;have k:=bl8 f (0+(j:Int));have za:=gE false f;have l1:=xO ss ss.length;have l2:=ah6 f j;have l3:(sH ss ss.length++yD f j).length+(sp f (0+(j:Int))).length<=100000:=by rw[E7];simp[sp];omega
  have cs:dD (sp f (0+(j:Int)))=true:=rfl;clear hL et h l1 l2;walk_at "e";refine⟨some (.int (0+(j:Int))),?_⟩;rw[ad8,K0,show(0+(j:Int))=(j:Int) by omega])
 rw[cI];clear hL;simp only[Int.toNat_natCast];walk_at "e";rfl
def cx2{f:Fm}(g:Gd f){ss:List Sd}(h:∀s∈ss,SdOk f s)(hl:ss.length<=1000):vI [gZ false f,.lst false (ss.map (kQ false))]=.ok (.lst true (cN f ss)):=by
 unfold vI vN;walk_at "B";have n8:=g.n8;obtain⟨m0,m1,m2,_⟩:=bt7 f;have rg:-(2^62)<=(ss.length:Int)/\(ss.length:Int)<2^62:=W9
 walk_at "e";generalize hL:dI _ _ _ _=o;obtain⟨ρ',rfl,o3,o4,o5,o6,o7,rfl⟩:=fL (λj U=>∃(o3 o4 o5 o6 o7:bc),U=[some (gZ false f),some (.lst false (ss.map (kQ false))),some (.lst true (sH ss j)),o3,o4,o5,o6,o7,none]) hL ⟨_,_,_,_,_,rfl⟩ (by
  rintro j t U et ⟨o3,o4,o5,o6,o7,rfl⟩;obtain⟨hj,rfl⟩:=mU et;have hj:j<ss.length:=by simpa using hj
  obtain⟨s,eq⟩:∃s,ss[j]?=some s:=⟨ss[j],A6 hj⟩;have hs:=h s (D4 eq);have at1:atI (ss.map (kQ false)) (j:Int)=some (kQ false s):=by exact gG (by rw[C8,eq];rfl)
  have l1:=xO ss j;have l3:(sH ss j).length<=100000:=W9
  have l4:∀x:T,(sH ss j++[x]).length<sizeLine:=λx=>R6 (show(sH ss j++[x]).length<=100000 by rw[E7];simp;omega) X5;have sc:=cy0 eq;obtain⟨word,cls,parts,ls,lo,hi⟩:=s;have l12:=hs.l12;simp only[kQ]at at1 l12;clear hL et eq h hs l1;have zz:(0+(j:Int))=(j:Int):=M7 _;rcases ls with _|⟨a,_|⟨b,_|⟨c,r⟩⟩⟩
  . simp at l12
  . simp only[C7,L3]at at1;cases hi with
    |none=>simp only[nY]at at1;clear l12;walk_at "e";exact⟨_,_,_,_,_,by simp only[st,yU,fst,List.nil_append];rfl⟩
    |some hh=>simp only[nY]at at1;clear l12;walk_at "e";exact⟨_,_,_,_,_,by simp only[st,yU,fst,K0,List.cons_append,List.nil_append];rfl⟩
  . simp only[C7,L3]at at1;cases hi with
    |none=>simp only[nY]at at1;clear l12;walk_at "e";exact⟨_,_,_,_,_,by simp only[st,yU,fst,List.nil_append];rfl⟩
    |some hh=>simp only[nY]at at1;clear l12;walk_at "e";exact⟨_,_,_,_,_,by simp only[st,yU,fst,K0,List.cons_append,List.nil_append];rfl⟩
  . simp at l12)
 rw[cI];clear hL;simp only[Int.toNat_natCast];walk_at "e";generalize hL:dI _ _ _ _=o;obtain⟨ρ',rfl,o8,rfl⟩:=fL (λj U=>∃(o8:bc),U=[some (gZ false f),some (.lst false (ss.map (kQ false))),some (.lst true (sH ss ss.length++yD f j)),o3,o4,o5,o6,o7,o8]) hL ⟨none,by simp[yD]⟩ (by
  rintro j t U et ⟨o8,rfl⟩;obtain⟨hj,rfl⟩:=mU et;have l1:=xO ss ss.length;have l2:=ah6 f j;have l3:(sH ss ss.length++yD f j).length<=100000:=by rw[E7];omega
  have l4:∀x:T,(sH ss ss.length++yD f j++[x]).length<sizeLine:=λx=>R6 (show(sH ss ss.length++yD f j++[x]).length<=100000 by rw[E7,E7];simp;omega) X5;clear hL et h l1 l2;walk_at "e";refine⟨some (.int (0+(j:Int))),?_⟩;rw[ad8,show(0+(j:Int))=(j:Int) by omega];simp[sp])
 rw[cI];clear hL;simp only[Int.toNat_natCast];walk_at "e";rfl
def wL(ys:ah):T->Int
 |.int i=>ys.getD i.toNat 0
 |_=>0
def kept(ys:ah):T->Bool
 |.tup [a,b,.int c,_]=>decide (wL ys b<=wL ys a+c)
 |_=>true
def Pl(n:Nat)(a:T):Prop:=a=.non\/∃i:Nat,i<n/\a=.int i
def StepN(n:Nat)(t:T):Prop:=∃a b c d,t=.tup [a,b,.int c,d]/\Pl n a/\Pl n b/\(d=.non\/∃i,d=.int i)
def StepN.st(h:StepN n t):xG t:=by obtain⟨a,b,c,d,rfl,ha,hb,hd⟩:=h;exact⟨a,b,c,d,rfl,ha.imp_right λ⟨i,_,e⟩=>⟨_,e⟩,hb.imp_right λ⟨i,_,e⟩=>⟨_,e⟩,hd⟩
def dn0(g:Int):dL [.non,.int g]=.ok (.int g):=by unfold dL tO;walk_at "e"
def cn9(i g:Int):dL [.int i,.int g]=.ok (.int i):=by unfold dL tO;walk_at "e"
def ed8(h:SdOk f s):Pl f.n.length (.int (fst s))/\Pl f.n.length (yU s):=by
 have l12:=h.l12;have lb:=h.lb;obtain⟨w,c,p,ls,lo,hi⟩:=s;simp only at l12 lb;rcases ls with _|⟨a,_|⟨b,_|⟨c',r⟩⟩⟩
 . simp at l12
 . exact⟨.inr ⟨a,lb a X4,rfl⟩,.inl rfl⟩
 . exact⟨.inr ⟨a,lb a X4,rfl⟩,.inr ⟨b,lb b X4,rfl⟩⟩
 . simp at l12
def do3(h:SdOk f s)(k:Int):∀t∈st s k,StepN f.n.length t:=by
 intro t ht;obtain⟨h1,h2⟩:=ed8 h;unfold st at ht;rcases A9.mp ht with ht|ht
 . split at ht
   . rw[C5.mp ht];exact⟨_,_,_,_,rfl,h2,h1,.inr ⟨_,rfl⟩⟩
   . cases ht
 . rw[C5.mp ht];exact⟨_,_,_,_,rfl,h1,h2,.inr ⟨_,rfl⟩⟩
def uC(h:∀s∈ss,SdOk f s):∀t∈cN f ss,StepN f.n.length t:=by
 intro t ht;rcases A9.mp ht with ht|ht
 . obtain⟨k,_,q⟩:=L7.mp ht;unfold ah3 at q;split at q
   . next s es=>exact do3 (h s (D4 es)) _ t q
   . cases q
 . obtain⟨k,hk,q⟩:=L7.mp ht;have hk:=F9.mp hk;simp only[sp,C4,J3,O6]at q;rcases q with rfl|rfl
   . exact⟨_,_,_,_,rfl,.inl rfl,.inr ⟨k,hk,rfl⟩,.inl rfl⟩
   . exact⟨_,_,_,_,rfl,.inr ⟨k,hk,rfl⟩,.inl rfl,.inl rfl⟩
def ed2(g:Gd f)(h:ss.length<=1000):(cN f ss).length<=10000:=by unfold cN;have:=xO ss ss.length;have:=ah6 f f.n.length;have:=g.n8;rw[E7];omega
theorem bv8(Iv:cw):∀{ts:aw}{U:Fr},(∀t∈ts,∀U,Iv U->∃ρ1,b t U=some ρ1/\((p t=false/\body ρ1=.rt r)\/(p t=true/\∃ρ2,body ρ1=.nx ρ2/\Iv ρ2)))->Iv U->
 (ts.all p=true/\∃ρ',dI b body ts U=.nx ρ'/\Iv ρ')\/(ts.all p=false/\dI b body ts U=.rt r)
 |[],U,_,hi=>.inl ⟨rfl,U,rfl,hi⟩
 |t::ts,U,hs,hi=>by
  obtain⟨ρ1,h1,h2⟩:=hs t B7 U hi;rcases h2 with⟨hp,hb⟩|⟨hp,ρ2,hb,hi2⟩
  . refine .inr ⟨by simp[hp],?_⟩;simp only[dI,h1,hb]
  . rcases bv8 (p:=p) (r:=r) Iv (λu hu=>hs u (B5 _ hu)) hi2 with⟨ha,ρ',e,i'⟩|⟨ha,e⟩
    . refine .inl ⟨by simp[hp,ha],ρ',?_,i'⟩;simp only[dI,h1,hb];exact e
    . refine .inr ⟨by simp[hp,ha],?_⟩;simp only[dI,h1,hb];exact e
def dh7{ys:ah}{i:Nat}(hi:i<ys.length):atI (ys.map T.int) (i:Int)=some (.int (wL ys (.int i))):=by refine gG ?_;rw[C8,A6 hi];simp[wL,A8,A6 hi]
def cc2{ys:ah}{ts:aw}(h:∀t∈ts,StepN ys.length t):vH [.lst false (ys.map .int),.lst false ts]=.ok (.bl (ts.all (kept ys))):=by
 unfold vH vB;have no:=gO λt ht=>(h t ht).st;have key:=bv8 (b:=eX Ah5) (body:=(aP (aY [] Al3 (aI 6)) (aP (aY [] Al3 (aI 7)) (aP (cZ Ai7 (aY [] (aU Aj3) (aI 6)) bQ) (aP Ak3 (cZ (bH (aE gtT (aB 7) (aE bR (aB 6) (aB 4)))) Af3 bQ)))))) (r:=.bl false) (p:=kept ys) (λU=>∃o2 o3 o4 o5 o6 o7:Option T,U=[some (.lst false (ys.map .int)),some (.lst false ts),o2,o3,o4,o5,o6,o7]) (ts:=ts) (U:=[some (.lst false (ys.map .int)),some (.lst false ts),none,none,none,none,none,none]) (by
  rintro t ht U ⟨o2,o3,o4,o5,o6,o7,rfl⟩;obtain⟨a,b,c,d,rfl,ha,hb,hd⟩:=h t ht;refine⟨[some (.lst false (ys.map .int)),some (.lst false ts),some a,some b,some (.int c),some d,o6,o7],rfl,?_⟩;have kp:∀x:Bool,decide (wL ys a+c<wL ys b)=x->kept ys (.tup [a,b,.int c,d])=!x:=by
   intro x hx;subst hx;simp only[kept];by_cases q:wL ys b<=wL ys a+c
   . rw[F7 q,F6 W9];rfl
   . rw[F6 q,F7 W9];rfl
  have fA:∀i:Nat,i<ys.length->a=.int i->atI (ys.map T.int) (i:Int)=some (.int (wL ys a)):=λi hi e=>by rw[e];exact dh7 hi
  have fB:∀i:Nat,i<ys.length->b=.int i->atI (ys.map T.int) (i:Int)=some (.int (wL ys b)):=λi hi e=>by rw[e];exact dh7 hi
  have nA:a=.non->wL ys a=0:=λe=>by rw[e];rfl
  have nB:b=.non->wL ys b=0:=λe=>by rw[e];rfl
  have out:∃A B:Int,wL ys a=A/\wL ys b=B/\((a=.non/\A=0)\/∃i:Nat,a=.int i/\atI (ys.map T.int) (i:Int)=some (.int A))/\((b=.non/\B=0)\/∃i:Nat,b=.int i/\atI (ys.map T.int) (i:Int)=some (.int B)):=by
   refine⟨_,_,rfl,rfl,?_,?_⟩
   . rcases ha with e|⟨i,hi,e⟩
     . exact .inl ⟨e,nA e⟩
     . exact .inr ⟨i,e,fA i hi e⟩
   . rcases hb with e|⟨i,hi,e⟩
     . exact .inl ⟨e,nB e⟩
     . exact .inr ⟨i,e,fB i hi e⟩
  obtain⟨A,B,eA,eB,ca,cb⟩:=out;rw[eA,eB]at kp;clear fA fB nA nB ha hb hd h ht no eA eB;cases e:decide (A+c<B)with
  |true=>refine .inl ⟨kp true e,?_⟩;clear kp;rcases ca with⟨rfl,rfl⟩|⟨i,rfl,qa⟩<;>rcases cb with⟨rfl,rfl⟩|⟨j,rfl,qb⟩<;>walk_at "e"
  |false=>refine .inr ⟨kp false e,[some (.lst false (ys.map .int)),some (.lst false ts),some a,some b,some (.int c),some d,some (.int A),some (.int B)],?_,_,_,_,_,_,_,rfl⟩;clear kp;rcases ca with⟨rfl,rfl⟩|⟨i,rfl,qa⟩<;>rcases cb with⟨rfl,rfl⟩|⟨j,rfl,qb⟩<;>walk_at "e") ⟨_,_,_,_,_,_,rfl⟩
 clear h;rcases key with⟨ha,ρ',e,o2,o3,o4,o5,o6,o7,rfl⟩|⟨ha,e⟩
 . walk_at "e"
 . walk_at "e"
def gy(Y:ah)(i:Nat):Int:=Y.getD i 0
def vW(Y:ah)(i j:Nat)(v:Int)(h:i<Y.length):gy (Y.set i v) j=if i=j then v else gy Y j:=by
 unfold gy;rw[A8,A8,List.getElem?_set];by_cases e:i=j
 . subst e;simp[h]
 . simp[e]
theorem aw7:∀(m:Nat)(l:az),l.Nodup->(∀x∈l,x<m)->l.length<=m
 |0,l,_,h=>by
  cases l with
  |nil=>simp
  |cons a l=>exact E8 (h a B7) W9
 |m+1,l,nd,h=>by
  by_cases e:m∈l
  . have:=aw7 m (l.erase m) (nd.erase m) (λx hx=>by have h1:=(List.Nodup.mem_erase_iff nd).mp hx;have:=h x h1.2;have:=h1.1;omega);rw[W5 e]at this;omega
  . have:=aw7 m l nd (λx hx=>by have:=h x hx;have:x≠m:=λq=>e (q▸hx);omega);omega
def ep7(w:c6)(n:Nat)(h:∀k,k<=n+1->w k<=n):∃i j,i<j/\j<=n+1/\w i=w j:=by
 apply O1;intro hn;have nd:((List.range (n+2)).map w).Nodup:=by unfold List.Nodup;rw[List.pairwise_map];refine(List.pairwise_lt_range (n:=n+2)).imp_of_mem λ{a b} ha hb hlt e=>?_;have:=F9.mp hb;exact hn ⟨a,b,hlt,W9,e⟩
 have:=aw7 (n+1) _ nd (λx hx=>by obtain⟨k,hk,rfl⟩:=M3.mp hx;have:=F9.mp hk;have:=h k W9;omega);rw[C3,K6]at this;omega
def it(f:c6):Nat->Nat->Nat
 |0,a=>a
 |k+1,a=>it f k (f a)
theorem ad1(f:c6):∀k a,it f (k+1) a=f (it f k a)
 |0,_=>rfl
 |k+1,a=>ad1 f k (f a)
theorem wE(f:c6)(j:Nat):∀k a,it f (k+j) a=it f k (it f j a)
 |k,a=>by
  induction j generalizing a with
  |zero=>rfl
  |succ j ih=>exact ih (f a)
section
variable{α:Type}(src dst:α->Nat)(cst:α->Int)
def Kp(Y:ah)(t:α):Prop:=gy Y (dst t)<=gy Y (src t)+cst t
instance (Y:ah) (t:α):Decidable (Kp src dst cst Y t):=inferInstanceAs (Decidable (_<=_))
structure Rs (α:Type) where
 Y:List Int
 R:List (Option α)
 x:Option Nat
def one(s:Rs α)(t:α):Rs α:=if Kp src dst cst s.Y t then s else⟨s.Y.set (src t) (gy s.Y (dst t)-cst t),s.R.set (src t) (some t),some (src t)⟩
def Dt(ts:List α)(n:Nat)(D:bu):Prop:=D n=0/\∀t∈ts,D (dst t)<=D (src t)+cst t
structure Gh (ts:List α) (n p i:Nat) (s:Rs α) (L Tm:c6) (τ:Nat):Prop where
 tm:∀a,Tm a<=τ
 lp:∀a,L a<=p
 r:∀a t,s.R[a]?=some (some t)->t∈ts/\src t=a/\L a<=L (dst t)+1/\gy s.Y a<=gy s.Y (dst t)-cst t/\(Tm a<=Tm (dst t)->gy s.Y a<gy s.Y (dst t)-cst t)
 d:∀a,1<=L a->∃t,s.R[a]?=some (some t)
 k1:∀j t,ts[j]?=some t->j<i->L (dst t)<p->Kp src dst cst s.Y t
 k2:∀j t,ts[j]?=some t->i<=j->L (dst t)+1<p->Kp src dst cst s.Y t
 x1:∀a,s.x=some a->L a=p/\a<=n
 x0:s.x=none->∀a,L a<p
structure Iv (Y0:ah) (ts:List α) (n p i:Nat) (s:Rs α):Prop where
 ly:s.Y.length=n+1
 lr:s.R.length=n+1
 up:∀j,gy Y0 j<=gy s.Y j
 low:∀D,Dt src dst cst ts n D->(∀j,j<=n->gy Y0 j<=D j)->∀j,j<=n->gy s.Y j<=D j
 gh:∃L Tm τ,Gh src dst cst ts n p i s L Tm τ
variable{src dst cst}{Y0:ah}{ts:List α}{n p i:Nat}{s:Rs α}
def Iv.start(hy:Y0.length=n+1):Iv src dst cst Y0 ts n 1 0 ⟨Y0,List.replicate (n+1) none,none⟩:=
 ⟨hy,X4,λ_=>U1 _,λD _ h=>h,λ_=>0,λ_=>0,0,λ_=>C9 _,λ_=>R7 _,λa t h=>by simp only[O9]at h;split at h<;>simp at h,λa h=>by omega,λj t _ h=>by omega,λj t _ _ h=>by omega,(λa h=>nomatch h),λ_ a=>by omega⟩
def Iv.next(h:Iv src dst cst Y0 ts n p ts.length s):Iv src dst cst Y0 ts n (p+1) 0 ⟨s.Y,s.R,none⟩:=by obtain⟨L,Tm,τ,g⟩:=h.gh;refine⟨h.ly,h.lr,h.up,h.low,L,Tm,τ,g.tm,λa=>Nat.le_succ_of_le (g.lp a),g.r,g.d,λj t _ q=>by omega,λj t e _ q=>g.k1 j t e (D3.mp e).1 W9,(λa q=>nomatch q),λ_ a=>by have:=g.lp a;omega⟩
theorem Iv.one(h:Iv src dst cst Y0 ts n p i s)(hb:∀t∈ts,src t<=n/\dst t<=n)(et:ts[i]?=some t):Iv src dst cst Y0 ts n p (i+1) (Nk33.one src dst cst s t):=by
 obtain⟨L,Tm,τ,g⟩:=h.gh;have tm:t∈ts:=D4 et;obtain⟨b1,b2⟩:=hb t tm;unfold Nk33.one;by_cases hk:Kp src dst cst s.Y t
 . rw[E3 hk];refine⟨h.ly,h.lr,h.up,h.low,L,Tm,τ,g.tm,g.lp,g.r,g.d,λj u e q l=>?_,λj u e q=>g.k2 j u e W9,g.x1,g.x0⟩;by_cases ej:j=i
   . subst ej;rw[et]at e;cases e;exact hk
   . exact g.k1 j u e W9 l
 . rw[D7 hk];have hl:src t<s.Y.length:=by rw[h.ly];omega
   have lt:gy s.Y (src t)<gy s.Y (dst t)-cst t:=by unfold Kp at hk;omega
   have ge:∀j,gy s.Y j<=gy (s.Y.set (src t) (gy s.Y (dst t)-cst t)) j:=λj=>by
    rw[vW _ _ _ _ hl];split
    . next e=>subst e;omega
    . exact U1 _
   have lb:p<=L (dst t)+1:=by apply O1;intro q;exact hk (g.k2 i t et (C9 _) W9)
   refine⟨by simp[h.ly],by simp[h.lr],λj=>N8 (h.up j) (ge j),λD hD h0 j hj=>?_,λa=>if a=src t then p else L a,λa=>if a=src t then τ+1 else Tm a,τ+1,λa=>?_,λa=>?_,λa u hu=>?_,λa ha=>?_,λj u e q l=>?_,λj u e q l=>?_,λa q=>?_,λq=>by cases q⟩
   . show gy (s.Y.set (src t) (gy s.Y (dst t)-cst t)) j<=D j;rw[vW _ _ _ _ hl];split
     . next e=>
       subst e;have h1:=h.low D hD h0 (dst t) b2;have h2:=hD.2 t tm;omega
     . exact h.low D hD h0 j hj
   . have:=g.tm a;show(if a=src t then τ+1 else Tm a)<=τ+1;split<;>omega
   . show(if a=src t then p else L a)<=p;have:=g.lp a;split<;>omega
   . have hu:(s.R.set (src t) (some t))[a]?=some (some u):=hu;show u∈ts/\src u=a/\(if a=src t then p else L a)<=(if dst u=src t then p else L (dst u))+1/\gy (s.Y.set (src t) (gy s.Y (dst t)-cst t)) a<=gy (s.Y.set (src t) (gy s.Y (dst t)-cst t)) (dst u)-cst u/\((if a=src t then τ+1 else Tm a)<=(if dst u=src t then τ+1 else Tm (dst u))->gy (s.Y.set (src t) (gy s.Y (dst t)-cst t)) a<gy (s.Y.set (src t) (gy s.Y (dst t)-cst t)) (dst u)-cst u);have G:=λj=>vW s.Y (src t) j (gy s.Y (dst t)-cst t) hl;rw[G a,G (dst u)];by_cases ea:a=src t
     . subst ea;rw[S2 (by rw[h.lr];omega)]at hu;cases hu;have l1:=g.lp (dst t);have l2:=g.tm (dst t);by_cases e:dst t=src t
       . simp only[e,N4];rw[e]at lt;exact⟨tm,trivial,W9,W9,λ_=>by omega⟩
       . have e':¬src t=dst t:=λz=>e z.symm;simp only[D7 e,D7 e',N4];exact⟨tm,trivial,W9,W9,λq=>by omega⟩
     . rw[J9 (λz=>ea z.symm)]at hu;obtain⟨q1,q2,q3,q4,q5⟩:=g.r a u hu;have ea':¬src t=a:=λz=>ea z.symm;have l1:=g.lp a;by_cases e:dst u=src t
       . have e':src t=dst u:=e.symm;rw[e]at q4;simp only[D7 ea,D7 ea',E3 e,E3 e'];exact⟨q1,q2,W9,W9,λ_=>by omega⟩
       . have e':¬src t=dst u:=λz=>e z.symm;simp only[D7 ea,D7 ea',D7 e,D7 e'];exact⟨q1,q2,q3,q4,q5⟩
   . show∃u,(s.R.set (src t) (some t))[a]?=some (some u);by_cases ea:a=src t
     . exact⟨t,by rw[ea,S2 (by rw[h.lr];omega)]⟩
     . have ha:1<=(if a=src t then p else L a):=ha;rw[D7 ea]at ha;rw[J9 (λz=>ea z.symm)];exact g.d a ha
   . have l:(if dst u=src t then p else L (dst u))<p:=l;show gy (s.Y.set (src t) (gy s.Y (dst t)-cst t)) (dst u)<=gy (s.Y.set (src t) (gy s.Y (dst t)-cst t)) (src u)+cst u;by_cases e2:dst u=src t
     . rw[E3 e2]at l;omega
     . rw[D7 e2]at l;have h1:=ge (src u);have h2:gy (s.Y.set (src t) (gy s.Y (dst t)-cst t)) (dst u)=gy s.Y (dst u):=by rw[vW _ _ _ _ hl,D7 (λz=>e2 z.symm)]
       rw[h2];by_cases ej:j=i
       . subst ej;rw[et]at e;cases e;rw[vW _ _ _ _ hl,E3 rfl];omega
       . have:gy s.Y (dst u)<=gy s.Y (src u)+cst u:=g.k1 j u e W9 l;omega
   . have l:(if dst u=src t then p else L (dst u))+1<p:=l;show gy (s.Y.set (src t) (gy s.Y (dst t)-cst t)) (dst u)<=gy (s.Y.set (src t) (gy s.Y (dst t)-cst t)) (src u)+cst u;by_cases e2:dst u=src t
     . rw[E3 e2]at l;omega
     . rw[D7 e2]at l;have h1:=ge (src u);have h2:gy (s.Y.set (src t) (gy s.Y (dst t)-cst t)) (dst u)=gy s.Y (dst u):=by rw[vW _ _ _ _ hl,D7 (λz=>e2 z.symm)]
       rw[h2];have:gy s.Y (dst u)<=gy s.Y (src u)+cst u:=g.k2 j u e W9 l;omega
   . have q:some (src t)=some a:=q;cases q;exact⟨by show(if src t=src t then p else _)=p;rw[E3 rfl],b1⟩
end
theorem fm0{p:Nat->Prop}(h:∃k,p k):∃k,p k/\∀m,m<k->¬p m:=by
 obtain⟨k,hk⟩:=h;induction k using Nat.strongRecOn with
 |ind k ih=>
  by_cases q:∃m,m<k/\p m
  . obtain⟨m,h1,h2⟩:=q;exact ih m h1 h2
  . exact⟨k,hk,λm h1 h2=>q ⟨m,h1,h2⟩⟩
section
variable{α:Type}{src dst:α->Nat}{cst:α->Int}{Y0:ah}{ts:List α}{n p i:Nat}{s:Rs α}
theorem Iv.fold(hb:∀t∈ts,src t<=n/\dst t<=n):∀(us:List α){i:Nat}{s:Rs α},ts.drop i=us->Iv src dst cst Y0 ts n p i s->Iv src dst cst Y0 ts n p (i+us.length) (us.foldl (Nk33.one src dst cst) s)
 |[],i,s,_,h=>h
 |t::us,i,s,e,h=>by
  have et:ts[i]?=some t:=by
   have:(ts.drop i)[0]?=some t:=by rw[e];rfl
   rw[List.getElem?_drop]at this;exact this
  have ed:ts.drop (i+1)=us:=by rw[<-List.tail_drop,e];rfl
  have:=Iv.fold hb us ed (h.one hb et);rw[G5,show i+(us.length+1)=i+1+us.length by omega];exact this
variable(src dst cst) in
def zX(ts:List α)(s:Rs α):Rs α:=ts.foldl (Nk33.one src dst cst) ⟨s.Y,s.R,none⟩
variable(src dst cst) in
def aj6(ts:List α)(s:Rs α):Nat->Rs α
 |0=>s
 |k+1=>zX src dst cst ts (aj6 ts s k)
def Iv.pass(hb:∀t∈ts,src t<=n/\dst t<=n)(h:Iv src dst cst Y0 ts n p 0 ⟨s.Y,s.R,none⟩):Iv src dst cst Y0 ts n p ts.length (zX src dst cst ts s):=by have:=Iv.fold hb ts (i:=0) rfl h;rwa[R8]at this
theorem Iv.runs(hb:∀t∈ts,src t<=n/\dst t<=n)(hy:Y0.length=n+1):∀k,Iv src dst cst Y0 ts n (k+1) ts.length (aj6 src dst cst ts ⟨Y0,List.replicate (n+1) none,none⟩ (k+1))
 |0=>Iv.pass hb (s:=⟨Y0,List.replicate (n+1) none,none⟩) (Iv.start hy)
 |k+1=>Iv.pass hb (Iv.next (Iv.runs hb hy k))
variable(dst) in
def nx(R:List (Option α))(a:Nat):Nat:=match R[a]? with
 |some (some t)=>dst t
 |_=>a
variable(dst cst) in
def cs(R:List (Option α)):Nat->Nat->Int
 |0,_=>0
 |k+1,a=>(match R[a]? with
  |some (some t)=>cst t
  |_=>0)+cs R k (nx dst R a)
theorem bp4(g:Gh src dst cst ts n p i s L Tm τ):∀(k a:Nat),(∀m,m<k->∃t,s.R[it (nx dst s.R) m a]?=some (some t))->
 gy s.Y a+cs dst cst s.R k a<=gy s.Y (it (nx dst s.R) k a)/\(gy s.Y a+cs dst cst s.R k a<gy s.Y (it (nx dst s.R) k a)\/Tm (it (nx dst s.R) k a)+k<=Tm a)
 |0,a,_=>⟨by simp[cs,it],.inr (by simp[it])⟩
 |k+1,a,h=>by
  obtain⟨t,et⟩:=h 0 W9;have et:s.R[a]?=some (some t):=et;obtain⟨_,_,_,q4,q5⟩:=g.r a t et;have en:nx dst s.R a=dst t:=by simp only[nx,et]
  obtain⟨i1,i2⟩:=bp4 g k (nx dst s.R a) (λm hm=>h (m+1) W9);have ec:cs dst cst s.R (k+1) a=cst t+cs dst cst s.R k (nx dst s.R a):=by simp only[cs,et]
  have ei:it (nx dst s.R) (k+1) a=it (nx dst s.R) k (nx dst s.R a):=rfl;rw[ec,ei];rw[en]at*;refine⟨W9,?_⟩;rcases i2 with i2|i2
  . exact .inl W9
  . by_cases q:Tm a<=Tm (dst t)
    . have:=q5 q;exact .inl W9
    . exact .inr W9
structure Ring (src dst:α->Nat) (cst:α->Int) (ts:List α) (n:Nat) (R:List (Option α)) (a0 P k:Nat):Prop where
 at0:it (nx dst R) (n+1) a0=P
 k1:1<=k
 kn:k<=n+1
 back:it (nx dst R) k P=P
 fst:∀m,1<=m->m<k->it (nx dst R) m P≠P
 dfa:∀m,∃t,R[it (nx dst R) m a0]?=some (some t)/\t∈ts/\src t=it (nx dst R) m a0
 neg:cs dst cst R k P<0
def Ring.df(h:Ring src dst cst ts n R a0 P k)(m:Nat):∃t,R[it (nx dst R) m P]?=some (some t)/\t∈ts/\src t=it (nx dst R) m P:=by have:=h.dfa (m+(n+1));rwa[wE,h.at0]at this
def dh9(hb:∀t∈ts,src t<=n/\dst t<=n)(h:Iv src dst cst Y0 ts n (n+1) ts.length s){a0:Nat}(hx:s.x=some a0):∃P k,Ring src dst cst ts n s.R a0 P k:=by
 obtain⟨L,Tm,τ,g⟩:=h.gh;obtain⟨l0,a0n⟩:=g.x1 a0 hx;let w:=λm=>it (nx dst s.R) m a0;have df:∀a,1<=L a->∃t,s.R[a]?=some (some t)/\t∈ts/\src t=a/\nx dst s.R a=dst t/\L a<=L (dst t)+1:=λa ha=>by obtain⟨t,et⟩:=g.d a ha;obtain⟨q1,q2,q3,_⟩:=g.r a t et;exact⟨t,et,q1,q2,by simp only[nx,et],q3⟩
 have wl:∀k,k<=n+1->n+1<=L (w k)+k/\w k<=n:=by
  intro k;induction k with
  |zero=>intro _;exact⟨by show n+1<=L a0+0;omega,a0n⟩
  |succ k ih=>
   intro hk;obtain⟨i1,i2⟩:=ih W9;obtain⟨t,et,q1,q2,q3,q4⟩:=df (w k) W9;have e:w (k+1)=dst t:=by show it _ (k+1) a0=_;rw[ad1];exact q3
   rw[e];exact⟨W9,(hb t q1).2⟩
 obtain⟨i,j,hij,hj,eij⟩:=ep7 w n (λk hk=>(wl k hk).2);have per:∀m,i<=m->w (m+(j-i))=w m:=λm hm=>by
  show it _ (m+(j-i)) a0=it _ m a0;have e1:m+(j-i)=(m-i)+j:=W9
  have e2:m=(m-i)+i:=W9
  rw[e1,wE]
  conv=>rhs;rw[e2,wE]
  exact N1 _ eij.symm
 have dw:∀m,1<=L (w m)\/∃m',m'<m/\w m=w m':=λm=>by
  by_cases hm:m<=n
  . exact .inl (by have:=(wl m W9).1;omega)
  . refine .inr ⟨m-(j-i),W9,?_⟩;have:=per (m-(j-i)) W9;rwa[show m-(j-i)+(j-i)=m by omega]at this
 have dfa:∀m,∃t,s.R[w m]?=some (some t)/\t∈ts/\src t=w m:=by
  intro m;induction m using Nat.strongRecOn with
  |ind m ih=>
   rcases dw m with q|⟨m',h1,h2⟩
   . obtain⟨t,et,q1,q2,_⟩:=df (w m) q;exact⟨t,et,q1,q2⟩
   . rw[h2];exact ih m' h1
 have ex:∃k,1<=k/\it (nx dst s.R) k (w (n+1))=w (n+1):=⟨j-i,W9,by
  have:=per (n+1) W9;have e:w (n+1+(j-i))=it (nx dst s.R) (j-i) (w (n+1)):=by show it _ (n+1+(j-i)) a0=_;rw[Nat.add_comm,wE]
  rw[<-e];exact this⟩
 obtain⟨k,⟨k1,kb⟩,kf⟩:=fm0 ex;have kn:k<=n+1:=by
  apply O1;intro q;refine kf (j-i) W9 ⟨W9,?_⟩;have:=per (n+1) W9;have e:w (n+1+(j-i))=it (nx dst s.R) (j-i) (w (n+1)):=by show it _ (n+1+(j-i)) a0=_;rw[Nat.add_comm,wE]
  rw[<-e];exact this
 have dP:∀m,m<k->∃t,s.R[it (nx dst s.R) m (w (n+1))]?=some (some t):=λm _=>by obtain⟨t,et,_⟩:=dfa (m+(n+1));have e:w (m+(n+1))=it (nx dst s.R) m (w (n+1)):=wE _ _ _ _;rw[e]at et;exact⟨t,et⟩
 have neg:cs dst cst s.R k (w (n+1))<0:=by obtain⟨_,q⟩:=bp4 g k (w (n+1)) dP;rw[kb]at q;rcases q with q|q<;>omega
 exact⟨w (n+1),k,rfl,k1,kn,kb,λm h1 h2 e=>kf m h2 ⟨h1,e⟩,dfa,neg⟩
def cs9(h:Iv src dst cst Y0 ts n p ts.length s)(hx:s.x=none):∀t∈ts,Kp src dst cst s.Y t:=λt ht=>by obtain⟨L,Tm,τ,g⟩:=h.gh;obtain⟨j,hj,e⟩:=S9.mp ht;exact g.k1 j t (by rw[A6 hj,e]) hj (g.x0 hx _)
def ez1(h:Iv src dst cst Y0 ts n p ts.length s)(hx:s.x=none)(h0:gy Y0 n=0)(hbase:∀D,Dt src dst cst ts n D->∀j,j<=n->gy Y0 j<=D j):gy s.Y n=0:=by have ak:=cs9 h hx;have hD:Dt src dst cst ts n (λj=>gy s.Y j-gy s.Y n):=⟨by show gy s.Y n-gy s.Y n=0;omega,λt ht=>by have:gy s.Y (dst t)<=gy s.Y (src t)+cst t:=ak t ht;show gy s.Y (dst t)-gy s.Y n<=gy s.Y (src t)-gy s.Y n+cst t;omega⟩;have q:gy s.Y n<=gy s.Y n-gy s.Y n:=h.low _ hD (hbase _ hD) n (C9 _);have:=h.up n;omega
def ey5(h:Iv src dst cst Y0 ts n p ts.length s)(hx:s.x=none)(h0:gy Y0 n=0)(hbase:∀D,Dt src dst cst ts n D->∀j,j<=n->gy Y0 j<=D j):Dt src dst cst ts n (gy s.Y):=⟨ez1 h hx h0 hbase,λt ht=>cs9 h hx t ht⟩
end
def pN(n:Nat):T->Nat
 |.int i=>i.toNat
 |_=>n
def bW(n:Nat):T->Nat
 |.tup (a::_)=>pN n a
 |_=>n
def bJ(n:Nat):T->Nat
 |.tup (_::b::_)=>pN n b
 |_=>n
def bP:T->Int
 |.tup (_::_::.int c::_)=>c
 |_=>0
def am0(h:Pl n a):pN n a<=n/\dL [a,.int (n:Int)]=.ok (.int ((pN n a:Nat):Int))/\cP a=true/\frz a=a/\cT a=true:=by
 rcases h with rfl|⟨i,hi,rfl⟩
 . exact⟨C9 _,dn0 _,rfl,rfl,rfl⟩
 . exact⟨by simp[pN];omega,by simpa[pN]using cn9 (i:Int) n,rfl,rfl,rfl⟩
def pL{Y:ah}{i:Nat}(h:i<Y.length):atI (Y.map T.int) (i:Int)=some (.int (gy Y i)):=uK h
def yP(h:StepN n t):bW n t<=n/\bJ n t<=n:=by obtain⟨a,b,c,d,rfl,ha,hb,hd⟩:=h;exact⟨(am0 ha).1,(am0 hb).1⟩
def ca9{n:Nat}{Y:ah}(hy:Y.length=n+1){t:T}(h:StepN n t):oK [t,.lst false (Y.map .int)]=.ok (.bl (decide (Kp (bW n) (bJ n) bP Y t))):=by
 obtain⟨a,b,c,d,rfl,ha,hb,hd⟩:=h;obtain⟨la,pa,na,za,ca⟩:=am0 ha;obtain⟨lb,pb,nb,zb,cb⟩:=am0 hb;have qa:=pL (Y:=Y) (i:=pN n a) W9;have qb:=pL (Y:=Y) (i:=pN n b) W9;have key:decide (Kp (bW n) (bJ n) bP Y (.tup [a,b,.int c,d]))=decide (gy Y (pN n b)<=gy Y (pN n a)+c):=rfl;rw[key];unfold oK yX;have el:(((Y.map T.int).length:Nat):Int)-1=(n:Int):=by rw[C3,hy];omega
 have b0:=@jN T;have b1:=@iO T;have b2:=@sG T;clear ha hb hd key hy;generalize gy Y (pN n a)=A at*;generalize gy Y (pN n b)=B at*;generalize Y.map T.int=L at*;walk_at "e"
def xT:Option Nat->T
 |none=>.non
 |some a=>.int a
def Rt(R:cg):List T:=R.map λo=>o.getD .non
def en6(R:cg)(k:Nat)(t:T):Rt (R.set k (some t))=(Rt R).set k t:=by unfold Rt;rw[List.map_set];rfl
def fr2(Y:ah)(k:Nat)(v:Int):(Y.set k v).map T.int=(Y.map T.int).set k (.int v):=List.map_set
def one_len:(one (bW n) (bJ n) bP s t).Y.length=s.Y.length/\(one (bW n) (bJ n) bP s t).R.length=s.R.length:=by unfold one;split<;>simp
def xR(h:k<l):qG l (k:Int)=some k:=by unfold qG;simp;omega
def eu1{n:Nat}{ts:aw}(h:∀t∈ts,StepN n t){Y:ah}{R:cg}(hy:Y.length=n+1)(hr:R.length=n+1):
 jQ (.lst false ts) (.lst true (Y.map .int)) (.lst true (Rt R))=.ok (xT (zX (bW n) (bJ n) bP ts ⟨Y,R,none⟩).x,.lst true ((zX (bW n) (bJ n) bP ts ⟨Y,R,none⟩).Y.map .int),.lst true (Rt (zX (bW n) (bJ n) bP ts ⟨Y,R,none⟩).R)):=by
 unfold jQ rG;have no:=gO λt ht=>(h t ht).st;have el:(((Y.map T.int).length:Nat):Int)-1=(n:Int):=by rw[C3,hy];omega
 have en:((n+1:Nat):Int)-1=(n:Int):=W9
 walk_at "e";generalize hL:dI _ _ _ _=o;obtain⟨ρ',rfl,o5,rfl,l1,l2⟩:=fL (λi U=>∃(o5:bc),U=[some (.lst false ts),some (.lst true (((ts.take i).foldl (one (bW n) (bJ n) bP) ⟨Y,R,none⟩).Y.map .int)),some (.lst true (Rt ((ts.take i).foldl (one (bW n) (bJ n) bP) ⟨Y,R,none⟩).R)),some (.int n),some (xT ((ts.take i).foldl (one (bW n) (bJ n) bP) ⟨Y,R,none⟩).x),o5]/\((ts.take i).foldl (one (bW n) (bJ n) bP) ⟨Y,R,none⟩).Y.length=n+1/\((ts.take i).foldl (one (bW n) (bJ n) bP) ⟨Y,R,none⟩).R.length=n+1) hL ⟨_,rfl,hy,hr⟩ (by
  rintro i t U et ⟨o5,rfl,l1,l2⟩;have tm:=D4 et;have es:(ts.take (i+1)).foldl (one (bW n) (bJ n) bP) ⟨Y,R,none⟩=one (bW n) (bJ n) bP ((ts.take i).foldl (one (bW n) (bJ n) bP) ⟨Y,R,none⟩) t:=by rw[List.take_add_one,et,List.foldl_append];rfl
  rw[es];clear es;generalize(ts.take i).foldl (one (bW n) (bJ n) bP) ⟨Y,R,none⟩=s at*;have hs:=h t tm;have kk:=ca9 l1 hs;obtain⟨n1,c1,z1⟩:=kC (hs.st);have o1:(one (bW n) (bJ n) bP s t).Y.length=n+1:=by rw[one_len.1,l1]
  have o2:(one (bW n) (bJ n) bP s t).R.length=n+1:=by rw[one_len.2,l2]
  by_cases k:Kp (bW n) (bJ n) bP s.Y t
  . have e1:one (bW n) (bJ n) bP s t=s:=by unfold one;rw[E3 k]
    rw[F7 k]at kk;rw[e1];clear hL et h no el en k e1 o1 o2 hs tm;walk_at "e";exact⟨_,rfl⟩
  . obtain⟨a,b,c,d,rfl,ha,hb,hd⟩:=hs;obtain⟨la,pa,na,za,ca⟩:=am0 ha;obtain⟨lb,pb,nb,zb,cb⟩:=am0 hb;have qb:=pL (Y:=s.Y) (i:=pN n b) W9;have e1:one (bW n) (bJ n) bP s (.tup [a,b,.int c,d])=⟨s.Y.set (pN n a) (gy s.Y (pN n b)-c),s.R.set (pN n a) (some (.tup [a,b,.int c,d])),some (pN n a)⟩:=by unfold one;rw[D7 k];rfl
    rw[F6 k]at kk;rw[e1]at o1 o2⊢;have x1:qG (n+1) ((pN n a:Nat):Int)=some (pN n a):=xR W9;have x2:(Rt s.R).length=n+1:=by unfold Rt;rw[C3];omega
    have nd:cP d=true/\cT d=true/\frz d=d:=by rcases hd with rfl|⟨i,rfl⟩<;>exact⟨rfl,rfl,rfl⟩
    obtain⟨nd,cd,zd⟩:=nd;have b0:=@jN T;have b1:=@iO T;have b2:=@sG T;simp only[en6,fr2,xT];clear hL et h no el en k e1 tm ha hb hd o1 o2 z1 n1 c1;walk_at "e";exact⟨_,rfl,by rw[N7];exact l1,by rw[N7];exact l2⟩)
 rw[List.take_length]at*;have ep:ts.foldl (one (bW n) (bJ n) bP) ⟨Y,R,none⟩=zX (bW n) (bJ n) bP ts ⟨Y,R,none⟩:=rfl;rw[ep];generalize zX (bW n) (bJ n) bP ts ⟨Y,R,none⟩=s at*;have nx:cP (xT s.x)=true:=by cases s.x<;>rfl
 clear hL h;walk_at "e"
def dU(n:Nat)(R:cg)(P:Nat)(m:Nat):T:=(Rt R).getD (it (nx (bJ n) R) m P) .non
def en4{R:cg}{a:Nat}{t:T}(e:R[a]?=some (some t)):atI (Rt R) (a:Int)=some t:=gG (by unfold Rt;rw[C8,e];rfl)
def as5(e:R[a]?=some (some t)):(Rt R).getD a .non=t:=by unfold Rt;rw[A8,C8,e];rfl
theorem bw1(h:∀t,some t∈R->StepN n t):bB (Rt R)=true/\dD (Rt R)=true/\frzs (Rt R)=Rt R:=by
 unfold Rt;induction R with
 |nil=>exact⟨rfl,rfl,rfl⟩
 |cons o R ih=>
  obtain⟨i1,i2,i3⟩:=ih λt ht=>h t (B5 _ ht);cases o with
  |none=>simp only[C7,bB,dD,frzs,i1,i2,i3];exact⟨rfl,rfl,rfl⟩
  |some t=>obtain⟨n1,c1,z1⟩:=kC (h t B7).st;simp only[C7,bB,dD,frzs,i1,i2,i3,Option.getD_some,n1,c1,z1];exact⟨rfl,rfl,trivial⟩
def cu3(h:StepN n t)(e:R[a]?=some (some t)):∃x b c d,t=.tup [x,b,.int c,d]/\dL [b,.int (n:Int)]=.ok (.int ((nx (bJ n) R a:Nat):Int))/\cP b=true/\cT b=true/\frz b=b/\cP x=true/\cP d=true/\cT x=true/\cT d=true:=by
 obtain⟨x,b,c,d,rfl,ha,hb,hd⟩:=h;obtain⟨lb,pb,nb,zb,cb⟩:=am0 hb;obtain⟨la,pa,na,za,ca⟩:=am0 ha;have nd:cP d=true/\cT d=true:=by rcases hd with rfl|⟨i,rfl⟩<;>exact⟨rfl,rfl⟩
 refine⟨x,b,c,d,rfl,?_,nb,cb,zb,na,nd.1,ca,nd.2⟩;have:nx (bJ n) R a=pN n b:=by simp only[nx,e];rfl
 rw[this];exact pb
def el3{n:Nat}{ts:aw}(h:∀t∈ts,StepN n t){R:cg}(hr:R.length=n+1)(hR:∀t,some t∈R->StepN n t)(n8:n<=8){a0 P k:Nat}(r:Ring (bW n) (bJ n) bP ts n R a0 P k):
 rD [.lst false (Rt R),.int (a0:Int)]=.ok (.lst true ((List.range k).map (dU n R P))):=by
 unfold rD qN;obtain⟨f1,f2,f3⟩:=bw1 hR;have lR:(Rt R).length=n+1:=by unfold Rt;rw[C3,hr]
 have en:((n+1:Nat):Int)-1=(n:Int):=W9
 have rg:-(2^62)<=((n+1:Nat):Int)/\((n+1:Nat):Int)<2^62:=W9
 have b1:=@iO T;walk_at "e";generalize hL:dI _ _ _ _=o;obtain⟨ρ',rfl,o3,rfl⟩:=fL (λi U=>∃(o3:bc),U=[some (.lst false (Rt R)),some (.int ((it (nx (bJ n) R) i a0:Nat):Int)),some (.int n),o3,none,none]) hL ⟨_,rfl⟩ (by rintro i t U et ⟨o3,rfl⟩;clear hL et;obtain⟨u,eu,ut,us⟩:=r.dfa i;obtain⟨x,b,c,d,rfl,pb,nb,cb,zb,na,nd,ca,cd⟩:=cu3 (h u ut) eu;have au:=en4 eu;rw[ad1];generalize nx (bJ n) R (it (nx (bJ n) R) i a0)=N at*;generalize it (nx (bJ n) R) i a0=A at*;clear r h hR eu ut us;walk_at "e";exact⟨_,rfl⟩);clear hL;have eP:it (nx (bJ n) R) (cK 0 (((n+1:Nat):Int)).toNat).length a0=P:=by rw[cI,E5];exact r.at0
 rw[eP];clear eP;have df:∀m,∃x b c d,atI (Rt R) ((it (nx (bJ n) R) m P:Nat):Int)=some (.tup [x,b,.int c,d])/\dU n R P m=.tup [x,b,.int c,d]/\dL [b,.int (n:Int)]=.ok (.int ((it (nx (bJ n) R) (m+1) P:Nat):Int))/\cP b=true/\cT b=true/\frz b=b/\cP x=true/\cP d=true/\cT x=true/\cT d=true:=λm=>by obtain⟨u,eu,ut,us⟩:=r.df m;obtain⟨x,b,c,d,rfl,pb,rest⟩:=cu3 (h u ut) eu;exact⟨x,b,c,d,en4 eu,as5 eu,by rw[ad1];exact pb,rest⟩
 obtain⟨x,b,c,d,q1,q2,q3,q4,q5,q6,q7,q8,q9,q10⟩:=df 0;have q1:atI (Rt R) ((P:Nat):Int)=some (.tup [x,b,.int c,d]):=q1;have e0:dU n R P 0=.tup [x,b,.int c,d]:=q2;have q3:dL [b,.int (n:Int)]=.ok (.int ((it (nx (bJ n) R) 1 P:Nat):Int)):=q3;clear q2;have er1:(List.range 1).map (dU n R P)=[.tup [x,b,.int c,d]]:=by rw[<-e0];rfl
 clear e0;have sz:1<=sizeLine:=by have:=F8;omega
 walk_at "e";generalize hW:ab5 _ _ _=o;obtain⟨ρ',m',rfl,⟨j,j1,jk,em,o3',rfl⟩,hc⟩:=ce8 (m:=k-1) (λm U=>∃j,1<=j/\j<=k/\m=k-j/\∃(o3:bc),U=[some (.lst false (Rt R)),some (.int ((P:Nat):Int)),some (.int n),o3,some (.lst true ((List.range j).map (dU n R P))),some (.int ((it (nx (bJ n) R) j P:Nat):Int))]) hW ⟨1,W9,r.k1,rfl,o3,by rw[er1]⟩ (by have:=r.kn;omega) (by
  rintro m U ⟨j,j1,jk,em,o3,rfl⟩;obtain⟨x,b,c,d,q1,q2,q3,q4,q5,q6,q7,q8,q9,q10⟩:=df j;clear hW;by_cases e:it (nx (bJ n) R) j P=P
  . have t1:(((it (nx (bJ n) R) j P:Nat):Int)==((P:Nat):Int))=true:=by rw[e];simp
    clear e;walk_at "e"
  . have t1:(((it (nx (bJ n) R) j P:Nat):Int)==((P:Nat):Int))=false:=by rw[K2];omega
    have hj:j<k:=by
     apply O1;intro q;have:j=k:=W9
     rw[this]at e;exact e r.back
    have ll:((List.range j).map (dU n R P)).length<=100000:=by have:=r.kn;rw[C3,K6];omega
    have lz:j<sizeLine:=by have:=F8;have:=r.kn;omega
    have er:(List.range (j+1)).map (dU n R P)=(List.range j).map (dU n R P)++[.tup [x,b,.int c,d]]:=by rw[R5,J1,<-q2];rfl
    have hlr:(List.range j).length=j:=K6;clear e q2;walk_at "e";exact⟨k-(j+1),W9,j+1,W9,hj,rfl,o3,by rw[er]⟩)
 have ek:j=k:=by
  apply O1;intro q;have ne:=r.fst j j1 W9;have t1:(((it (nx (bJ n) R) j P:Nat):Int)==((P:Nat):Int))=false:=by rw[K2];omega
  have:(Res.ok true:Res Bool)=.ok false:=by rw[<-hc];clear hc hW;walk_at "e"
  cases this
 subst ek;clear hc hW;walk_at "e"
theorem ay2(x:α):∀n:Nat,(List.replicate n [x]).flatten=List.replicate n x
 |0=>rfl
 |n+1=>by rw[J8,D0,ay2 x n];rfl
def eg9(xs:List α)(k:Nat):fJ xs (some 0) (some (k:Int))=xs.take k:=by
 have:=ax1 xs k;unfold fJ at this⊢;have e:HT.sIx xs.length 0 (some 0)=HT.sIx xs.length 0 none:=by simp[HT.sIx]
 rw[e];exact this
def Y0(f:Fm):List Int:=List.replicate f.n.length (f.a-1)++[0]
def S0(f:Fm):Rs T:=⟨Y0 f,List.replicate (f.n.length+1) none,none⟩
def dG(f:Fm)(ts:aw)(i:Nat):Rs T:=aj6 (bW f.n.length) (bJ f.n.length) bP ts (S0 f) i
theorem dk6{n:Nat}{ts:aw}:∀{s:Rs T},(ts.foldl (one (bW n) (bJ n) bP) s).Y.length=s.Y.length/\(ts.foldl (one (bW n) (bJ n) bP) s).R.length=s.R.length:=by
 induction ts with
 |nil=>intro s;exact⟨rfl,rfl⟩
 |cons t ts ih=>intro s;rw[Q3,ih.1,ih.2];exact one_len
theorem ct4(f:Fm)(ts:aw):∀i,(dG f ts i).Y.length=f.n.length+1/\(dG f ts i).R.length=f.n.length+1
 |0=>by unfold dG aj6 S0 Y0;simp
 |i+1=>by have ih:=ct4 f ts i;have:=dk6 (n:=f.n.length) (ts:=ts) (s:=⟨(dG f ts i).Y,(dG f ts i).R,none⟩);exact⟨this.1.trans ih.1,this.2.trans ih.2⟩
def cf9(h:∀t∈ts,StepN f.n.length t):Iv (bW f.n.length) (bJ f.n.length) bP (Y0 f) ts f.n.length (f.n.length+1) ts.length (dG f ts (f.n.length+1)):=
 Iv.runs (λt ht=>yP (h t ht)) (by unfold Y0;simp) f.n.length
theorem dn8(h:∀t∈ts,StepN f.n.length t):∀i,∀t,some t∈(dG f ts i).R->t∈ts
 |0,t,ht=>by unfold dG aj6 S0 at ht;have:=List.eq_of_mem_replicate ht;cases this
 |i+1,t,ht=>by
  have key:∀(us:aw)(s:Rs T),(∀u∈us,u∈ts)->(∀t,some t∈s.R->t∈ts)->∀t,some t∈(us.foldl (one (bW f.n.length) (bJ f.n.length) bP) s).R->t∈ts:=by
   intro us;induction us with
   |nil=>exact λs _ hs=>hs
   |cons u us ih=>
    intro s hu hs;refine ih _ (λv hv=>hu v (B5 _ hv)) λt ht=>?_;unfold one at ht;split at ht
    . exact hs t ht
    . rcases List.mem_or_eq_of_mem_set ht with q|q
      . exact hs t q
      . cases q;exact hu u B7
  exact key ts ⟨(dG f ts i).Y,(dG f ts i).R,none⟩ (λ_ hu=>hu) (λt ht=>dn8 h i t ht) t ht
def ew1(n:Nat):Rt (List.replicate n none)=List.replicate n .non:=by unfold Rt;rw[U5];rfl
theorem bf9(g:Gd f)(h:∀t∈ts,StepN f.n.length t):
 ((dG f ts (f.n.length+1)).x=none/\jM [bT false f,.lst false ts]=.ok (.tup [.str "dating",.lst true (((dG f ts (f.n.length+1)).Y.take f.n.length).map .int)]))\/
 ∃a0 P k,(dG f ts (f.n.length+1)).x=some a0/\Ring (bW f.n.length) (bJ f.n.length) bP ts f.n.length (dG f ts (f.n.length+1)).R a0 P k/\jM [bT false f,.lst false ts]=.ok (.tup [.str "ring",.lst true ((List.range k).map (dU f.n.length (dG f ts (f.n.length+1)).R P))]):=by
 have iv:=cf9 h;have rl:=ct4 f ts;have rR:=dn8 h;have n8:=g.n8;have fl:=jZ false f;have ff:=ao2 false f;have no:=gO λt ht=>(h t ht).st;have zs:frzs ts=ts:=kJ λt ht=>(h t ht).st;have hY0:(dG f ts 0).Y.map T.int=List.replicate f.n.length (T.int (f.a-1))++[T.int 0]:=by unfold dG aj6 S0 Y0;rw[J1,U5];rfl
 have hR0:Rt (dG f ts 0).R=List.replicate (f.n.length+1) T.non:=ew1 _;have hx0:(dG f ts 0).x=none:=rfl;obtain⟨o6,loop⟩:∃o6:Option T,dI (aI 6) (as0 5 1 3 4 jQ) (cK 0 (f.n.length+1)) [some (bT false f),some (.lst false ts),some (.int f.n.length),some (.lst true (List.replicate f.n.length (T.int (f.a-1))++[T.int 0])),some (.lst true (List.replicate (f.n.length+1) T.non)),some .non,none]=.nx [some (bT false f),some (.lst false ts),some (.int f.n.length),some (.lst true ((dG f ts (f.n.length+1)).Y.map .int)),some (.lst true (Rt (dG f ts (f.n.length+1)).R)),some (xT (dG f ts (f.n.length+1)).x),o6]:=by
  generalize hL:dI _ _ _ _=o;obtain⟨ρ',rfl,o6,rfl⟩:=fL (λi U=>∃(o6:bc),U=[some (bT false f),some (.lst false ts),some (.int f.n.length),some (.lst true ((dG f ts i).Y.map .int)),some (.lst true (Rt (dG f ts i).R)),some (xT (dG f ts i).x),o6]) hL ⟨none,by rw[hY0,hR0,hx0];rfl⟩ (by
   rintro i t U et ⟨o6,rfl⟩;have er:=eu1 h (rl i).1 (rl i).2;have es:zX (bW f.n.length) (bJ f.n.length) bP ts ⟨(dG f ts i).Y,(dG f ts i).R,none⟩=dG f ts (i+1):=rfl;rw[es]at er;obtain⟨f1,f2,f3⟩:=bw1 (n:=f.n.length) (R:=(dG f ts (i+1)).R) λt ht=>h t (rR (i+1) t ht);have c1:dD ((dG f ts (i+1)).Y.map T.int)=true:=gB _;have cx:cT (xT (dG f ts (i+1)).x)=true/\cP (xT (dG f ts (i+1)).x)=true:=by cases(dG f ts (i+1)).x<;>exact⟨rfl,rfl⟩
   have cc:bu0 jQ 1 3 4 [some (bT false f),some (.lst false ts),some (.int f.n.length),some (.lst true ((dG f ts i).Y.map .int)),some (.lst true (Rt (dG f ts i).R)),some (xT (dG f ts i).x),some t]=some (xT (dG f ts (i+1)).x,.lst true ((dG f ts (i+1)).Y.map .int),.lst true (Rt (dG f ts (i+1)).R)):=by
    have z:frz (.lst false ts)=.lst false ts:=by simp only[frz,zs]
    simp only[bu0,List.getElem?_cons_zero,List.getElem?_cons_succ,z,er,cT,c1,f2,cx.1,cx.2,H0,N4]
   show yG _ (as0 5 1 3 4 jQ) (some _);simp only[yG,aI,List.set_cons_succ,List.set_cons_zero,as0,cc,Go];exact⟨_,rfl⟩)
  rw[cI];exact⟨o6,rfl⟩
 have g1:bB [T.int (f.a-1)]=true/\-(2^63)<=(f.n.length:Int)/\(f.n.length:Int)<2^63/\[T.int (f.a-1)].length*((f.n.length:Int)).toNat<=2^24:=⟨rfl,W9,W9,by simp;omega⟩;have g2:bB [T.non]=true/\-(2^63)<=(f.n.length:Int)+1/\(f.n.length:Int)+1<2^63/\[T.non].length*((f.n.length:Int)+1).toNat<=2^24:=⟨rfl,W9,W9,by simp;omega⟩;have m1:pP (.lst true [T.int (f.a-1)]) (.int f.n.length)=.ok (.lst true (List.replicate f.n.length (T.int (f.a-1)))):=by simp only[pP];rw[eO g1,ay2,E5]
 have m2:pP (.lst true [T.non]) (.int ((f.n.length:Int)+1))=.ok (.lst true (List.replicate (f.n.length+1) T.non)):=by simp only[pP];rw[eO g2,ay2];congr
 have nr:bB (List.replicate f.n.length (T.int (f.a-1)))=true:=by rw[rX];simp[cP]
 have a1:bR (.lst true (List.replicate f.n.length (T.int (f.a-1)))) (.lst true [.int 0])=.ok (.lst true (List.replicate f.n.length (T.int (f.a-1))++[T.int 0])):=by rw[cn0,eO ⟨by rw[nr];rfl,by have:=F8;simp;omega⟩]
 have sz1:1<=sizeLine:=by have:=F8;omega
 have rg1:eZ [.int ((f.n.length:Int)+1)]=.ok (cK 0 (f.n.length+1)):=by rw[pV,eO ⟨W9,W9⟩];congr
 have lnames:cY [.lst false (f.n.map T.str)]=.ok (.int f.n.length):=by rw[nZ];simp only[C3]
 clear g1 g2 hY0 hR0 hx0 rl no;unfold jM tX;cases hx:(dG f ts (f.n.length+1)).x with
 |none=>
  rw[hx]at loop;refine .inl ⟨rfl,?_⟩;have lt:xT none=T.non:=rfl;rw[lt]at loop;have cu:fJ ((dG f ts (f.n.length+1)).Y.map T.int) (some 0) (some (f.n.length:Int))=((dG f ts (f.n.length+1)).Y.take f.n.length).map T.int:=by rw[eg9,U6]
  clear hx iv rR h zs nr lt n8 g;generalize dG f ts (f.n.length+1)=s at*;generalize List.replicate (f.n.length+1) T.non=L2 at*;walk_at "e"
 |some a0=>
  obtain⟨P,k,r⟩:=dh9 (λt ht=>yP (h t ht)) iv hx;rw[hx]at loop;refine .inr ⟨a0,P,k,rfl,r,?_⟩;have lt:xT (some a0)=T.int a0:=rfl;rw[lt]at loop;have er:=el3 h iv.lr (λt ht=>h t (rR _ t ht)) n8 r;obtain⟨f1,f2,f3⟩:=bw1 (n:=f.n.length) (R:=(dG f ts (f.n.length+1)).R) λt ht=>h t (rR _ t ht);have cr:dD ((List.range k).map (dU f.n.length (dG f ts (f.n.length+1)).R P))=true:=by rw[ao5,K4];intro t ht;obtain⟨m,_,rfl⟩:=M3.mp ht;obtain⟨u,eu,ut,_⟩:=r.df m;unfold dU;rw[as5 eu];exact(kC (h u ut).st).2.1
  clear hx iv rR h zs nr lt n8 g r;generalize dG f ts (f.n.length+1)=s at*;generalize List.replicate (f.n.length+1) T.non=L2 at*;walk_at "e"
def sc(t:T):Prop:=t=.non\/∃i:Int,t=.int i
def eqS:T->T->Bool
 |.non,.non=>true
 |.int i,.int j=>i==j
 |_,_=>false
def ct3(hx:sc x)(hy:sc y):eqS x y=true↔x=y:=by rcases hx with rfl|⟨i,rfl⟩<;>rcases hy with rfl|⟨j,rfl⟩<;>simp[eqS]
def rO(hx:sc x):eqS x x=true:=(ct3 hx hx).mpr rfl
theorem am5(hx:sc x)(hy:sc y):∀m,tN m x y=some (eqS x y)
 |0=>by rcases hx with rfl|⟨i,rfl⟩<;>rcases hy with rfl|⟨j,rfl⟩<;>rfl
 |m+1=>by rcases hx with rfl|⟨i,rfl⟩<;>rcases hy with rfl|⟨j,rfl⟩<;>rfl
def fb2(hx:sc x)(hy:sc y):yQ x y=.ok (.bl (!eqS x y)):=by rcases hx with rfl|⟨i,rfl⟩<;>rcases hy with rfl|⟨j,rfl⟩<;>rfl
def ef9(hx:sc x)(hy:sc y):fT x y=.ok (.bl (eqS x y)):=by rcases hx with rfl|⟨i,rfl⟩<;>rcases hy with rfl|⟨j,rfl⟩<;>rfl
theorem cb4(ht:sc t):∀us:List T,(∀u∈us,sc u)->uM t us=some (us.map λu=>eqS u t)
 |[],_=>rfl
 |u::us,h=>by rw[uM,am5 (h u B7) ht,cb4 ht us λv hv=>h v (B5 _ hv)];rfl
def et5{t:T}(ht:sc t){us:aw}(h:∀u∈us,sc u):((us.map λu=>eqS u t).any id=true)↔t∈us:=by
 rw[List.any_map,Q8];constructor
 . rintro⟨u,hu,e⟩;rw[<-(ct3 (h u hu) ht).mp e];exact hu
 . exact λhu=>⟨t,hu,rO ht⟩
def qZ(h:Pl n a):sc a:=h.imp_right λ⟨i,_,e⟩=>⟨_,e⟩
def zV(m:Nat)(x y:T)(xs ys:aw):uO m (x::xs) (y::ys)=(tN m x y).bind λb=>(uO m xs ys).map λes=>b::es:=by rw[uO]
def di3(m:Nat):uO m [] []=some []:=by rw[uO];intros;simp_all
def du9(m:Nat)(xs ys:aw):tN (m+1) (.tup xs) (.tup ys)=(uO m xs ys).map λes=>es.all id&&xs.length==ys.length:=by rw[tN]
def dj6(ht:StepN n t)(hu:StepN n u):∃b,tN (m+1) u t=some b/\(u=t->b=true):=by
 obtain⟨a,b,c,d,rfl,ha,hb,hd⟩:=ht;obtain⟨a',b',c',d',rfl,ha',hb',hd'⟩:=hu;refine⟨[eqS a' a,eqS b' b,eqS (.int c') (.int c),eqS d' d].all id&&[a',b',T.int c',d'].length==[a,b,T.int c,d].length,?_,λe=>?_⟩
 . rw[du9,zV,zV,zV,zV,di3,am5 (qZ ha') (qZ ha),am5 (qZ hb') (qZ hb),am5 (.inr ⟨c',rfl⟩) (.inr ⟨c,rfl⟩),am5 hd' hd];rfl
 . cases e;have e1:=rO (qZ ha);have e2:=rO (qZ hb);have e3:=rO (x:=.int c) (.inr ⟨c,rfl⟩);have e4:=rO hd;simp only[List.all_cons,List.all_nil,id,e1,e2,e3,e4,H0,List.length_cons,List.length_nil];rfl
theorem bz4(ht:StepN n t):∀us:List T,(∀u∈us,StepN n u)->∃es,uM t us=some es/\(t∈us->es.any id=true)
 |[],_=>⟨[],rfl,λh=>by cases h⟩
 |u::us,h=>by
  obtain⟨es,e1,e2⟩:=bz4 ht us λv hv=>h v (B5 _ hv);obtain⟨b,b1,b2⟩:=dj6 (m:=eN-1) ht (h u B7);have b1:tN eN u t=some b:=b1;refine⟨b::es,by rw[uM,b1,e1];rfl,λhm=>?_⟩;rw[List.any_cons];rcases C4.mp hm with q|q
  . rw[b2 q.symm];rfl
  . rw[e2 q,Bool.or_true]
def ae0(x:Int):jF [.int x]=.ok (.bl true):=by unfold jF vL;walk_at "e"
def ba0(h:∀u∈ts,StepN n u)(ht:t∈ts):jU [t,.lst false ts]=.ok (.bl true):=by
 have st:=h t ht;obtain⟨es,e1,e2⟩:=bz4 st ts h;have e2:=e2 ht;have ei:inT false t (.lst false ts)=.ok (.bl true):=by
  rw[inT.eq_1,e1]
  . simp[e2]
 obtain⟨n1,c1,z1⟩:=kC st.st;have no:=gO λt ht=>(h t ht).st;obtain⟨a,b,c,d,rfl,ha,hb,hd⟩:=st;unfold jU qT;walk_at "B";have kw:=ae0 c;have sz3:3<=sizeLine:=by have:=F8;omega
 have t4:(((4:Nat):Int)==4)=true:=rfl;have body:∀(x:T),sc x->∀o2:Option T,(cZ (mG Ai7 (fG (fK (aW 1 jF (aD (aB 2) aH))))) Af3 bQ) [some (.tup [a,b,.int c,d]),some (.lst false ts),some x]=.nx [some (.tup [a,b,.int c,d]),some (.lst false ts),some x]:=by
  intro x hx o2;rcases hx with rfl|⟨i,rfl⟩
  . clear ei e1 e2 h ht z1 n1 c1 no kw ha hb hd;walk_at "e"
  . have kw2:=ae0 i;clear ei e1 e2 h ht z1 n1 c1 no kw ha hb hd;walk_at "e"
 have na:cP a=true/\cT a=true/\frz a=a:=by rcases ha with rfl|⟨i,_,rfl⟩<;>exact⟨rfl,rfl,rfl⟩
 have nb:cP b=true/\cT b=true/\frz b=b:=by rcases hb with rfl|⟨i,_,rfl⟩<;>exact⟨rfl,rfl,rfl⟩
 have nd:cP d=true/\cT d=true/\frz d=d:=by rcases hd with rfl|⟨i,rfl⟩<;>exact⟨rfl,rfl,rfl⟩
 obtain⟨na,ca,za⟩:=na;obtain⟨nb,cb,zb⟩:=nb;obtain⟨nd,cd,zd⟩:=nd;have loop:dI (aI 2) (cZ (mG Ai7 (fG (fK (aW 1 jF (aD (aB 2) aH))))) Af3 bQ) [a,b,d] [some (.tup [a,b,.int c,d]),some (.lst false ts),none]=.nx [some (.tup [a,b,.int c,d]),some (.lst false ts),some d]:=by have q1:=body a (qZ ha) none;have q2:=body b (qZ hb) none;have q3:=body d hd none;simp only[dI,aI,List.set_cons_succ,List.set_cons_zero,q1,q2,q3]
 clear body e1 e2 h ht z1 n1 c1 ha hb hd;walk_at "e"
def sA:T->T
 |.tup (a::_)=>a
 |_=>.non
def sB:T->T
 |.tup (_::b::_)=>b
 |_=>.non
def Ch:T->List T->T->Prop
 |x,[],y=>x=y
 |x,t::r,y=>sA t=x/\Ch (sB t) r y
def el6(ha:Pl n a)(hb:Pl n b)(e:pN n a=pN n b):a=b:=by
 rcases ha with rfl|⟨i,hi,rfl⟩<;>rcases hb with rfl|⟨j,hj,rfl⟩
 . rfl
 . simp[pN]at e;omega
 . simp[pN]at e;omega
 . simp[pN]at e;rw[e]
def qS(h:StepN n t):Pl n (sA t)/\Pl n (sB t)/\bW n t=pN n (sA t)/\bJ n t=pN n (sB t)/\∃d,t=.tup [sA t,sB t,.int (bP t),d]/\sc d:=by obtain⟨a,b,c,d,rfl,ha,hb,hd⟩:=h;exact⟨ha,hb,rfl,rfl,d,rfl,hd⟩
theorem cc4{r:Nat->T}(h:∀m,sB (r m)=sA (r (m+1))):∀(j m:Nat),Ch (sA (r m)) ((List.range j).map λi=>r (m+i)) (sA (r (m+j)))
 |0,m=>rfl
 |j+1,m=>by
  rw[V5,C7,J4];refine⟨rfl,?_⟩;have:=cc4 h j (m+1);rw[show m+1+j=m+(j+1) by omega]at this;rw[show sB (r (m+0))=sA (r (m+1)) from h m];have e:((List.range j).map λi=>r (m+1+i))=(List.range j).map ((λi=>r (m+i))∘Nat.succ):=List.map_congr_left λi _=>by show r _=r _;congr 1;omega
  rw[<-e];exact this
theorem ax9:∀(rs:aw)(x:T)(o5:bc),(∀t∈rs,StepN n t)->sc x->Ch x rs y->∃o5',dI (aI 5) (aP Ai4 Aj4) rs [a0,a1,a2,a3,some x,o5]=.nx [a0,a1,a2,a3,some y,o5']
 |[],x,o5,_,_,e=>⟨o5,by rw[<-show x=y from e];rfl⟩
 |t::rs,x,o5,h,hx,c=>by
  obtain⟨h1,h2,_,_,d,et,hd⟩:=qS (h t B7);obtain⟨c1,c2⟩:=c;obtain⟨o5',ih⟩:=ax9 (a0:=a0) (a1:=a1) (a2:=a2) (a3:=a3) rs (sB t) (some t) (λu hu=>h u (B5 _ hu)) (qZ h2) c2;refine⟨o5',?_⟩;have one:(aP Ai4 Aj4) [a0,a1,a2,a3,some x,some t]=.nx [a0,a1,a2,a3,some (sB t),some t]:=by
   have q1:atI [sA t,sB t,.int (bP t),d] 0=some (sA t):=jN _ _;have q2:atI [sA t,sB t,.int (bP t),d] 1=some (sB t):=iO _ _ _;have q3:yQ x x=.ok (.bl false):=by rw[fb2 hx hx,rO hx];rfl
   have q4:cP (sB t)=true:=by rcases h2 with e|⟨i,_,e⟩<;>rw[e]<;>rfl
   rw[c1]at q1 q2 et;generalize sB t=B at*;generalize bP t=C at*;subst et;clear ih h h1 h2 c1 c2 hd hx;walk_at "e"
  simp only[dI,aI,List.set_cons_succ,List.set_cons_zero,one];exact ih
def cg2(h:∀u∈ts,StepN n u)(hr:∀t∈rs,t∈ts)(hl:rs.length<=100)(hx:sc x)(c:Ch x rs x):pF [.lst false rs,.lst false ts,x,x]=.ok (.bl true):=by
 unfold pF pD;have hR:∀t∈rs,StepN n t:=λt ht=>h t (hr t ht);have no:=gO λt ht=>(h t ht).st;have nr:=gO λt ht=>(hR t ht).st;have zs:frzs ts=ts:=kJ λt ht=>(h t ht).st;have zr:frzs rs=rs:=kJ λt ht=>(hR t ht).st;have nx:cP x=true/\frz x=x:=by rcases hx with e|⟨i,e⟩<;>rw[e]<;>exact⟨rfl,rfl⟩
 obtain⟨nx,zx⟩:=nx;have hc:cC (aI 5) bY (aW 2 jU Al1) [some (.lst false rs),some (.lst false ts),some x,some x,none,none] rs=.ok (rs.map λ_=>T.bl true):=by have q:=cX (k:=5) (d:=(aW 2 jU Al1)) (U:=[some (.lst false rs),some (.lst false ts),some x,some x,none,none]) (g:=id) (f:=λ_=>T.bl true) (l:=rs) (λt ht=>by have kk:=ba0 h (hr t ht);obtain⟨n1,c1,z1⟩:=kC (hR t ht).st;simp only[id];clear h hr hR c hx;walk_at "e");rwa[List.map_id]at q
 have al:kN false [.lst true (rs.map λ_=>T.bl true)]=.ok (.bl true):=by
  have e:(rs.map λ_=>T.bl true)=(rs.map λ_=>true).map T.bl:=X4
  rw[e,cz6];simp
 obtain⟨o5,lp⟩:=ax9 (a0:=some (.lst false rs)) (a1:=some (.lst false ts)) (a2:=some x) (a3:=some x) rs x none hR hx c;have ee:fT x x=.ok (.bl true):=by rw[ef9 hx hx,rO hx]
 have l1:rs.length<=100000:=W9
 have l2:rs.length<=sizeLine:=by have:=F8;omega
 clear h hr hR c hx hl;walk_at "e"
theorem cy9:∀(k a:Nat),(∀m,m<k->∃t,R[it (nx (bJ n) R) m a]?=some (some t))->((List.range k).map λm=>bP (dU n R a m)).sum=cs (bJ n) bP R k a
 |0,a,_=>rfl
 |k+1,a,h=>by obtain⟨t,et⟩:=h 0 W9;have et:R[a]?=some (some t):=et;have ih:=cy9 k (nx (bJ n) R a) (λm hm=>h (m+1) W9);rw[V5,C7,J4,List.sum_cons];have e0:dU n R a 0=t:=as5 et;have e1:((List.range k).map ((λm=>bP (dU n R a m))∘Nat.succ))=(List.range k).map λm=>bP (dU n R (nx (bJ n) R a) m):=rfl;rw[e0,e1,ih];simp only[cs,et]
def em0(r:Ring (bW n) (bJ n) bP ts n R a0 P k)(hij:i<j)(hj:j<k):it (nx (bJ n) R) i P≠it (nx (bJ n) R) j P:=λe=>by
 have e1:it (nx (bJ n) R) (k-j+j) P=P:=by rw[show k-j+j=k by omega];exact r.back
 rw[wE,<-e,<-wE]at e1;exact r.fst (k-j+i) W9 W9 e1
def cb7(h:∀u∈ts,StepN n u)(n8:n<=8)(r:Ring (bW n) (bJ n) bP ts n R a0 P k):nK [.lst false ((List.range k).map (dU n R P)),.lst false ts]=.ok (.bl true):=by
 have kn:=r.kn;have k1:=r.k1;have fact:∀m,dU n R P m∈ts/\bW n (dU n R P m)=it (nx (bJ n) R) m P/\bJ n (dU n R P m)=it (nx (bJ n) R) (m+1) P:=λm=>by obtain⟨u,eu,ut,us⟩:=r.df m;have e:dU n R P m=u:=as5 eu;rw[e,ad1];exact⟨ut,us,by simp only[nx,eu]⟩
 have hq:∀m,StepN n (dU n R P m):=λm=>h _ (fact m).1;have link:∀m,sB (dU n R P m)=sA (dU n R P (m+1)):=λm=>by obtain⟨p1,p2,p3,p4,_⟩:=qS (hq m);obtain⟨q1,q2,q3,q4,_⟩:=qS (hq (m+1));refine el6 p2 q1 ?_;rw[<-p4,<-q3,(fact m).2.2,(fact (m+1)).2.1]
 have e0k:dU n R P k=dU n R P 0:=by unfold dU;rw[r.back];rfl
 have ch:Ch (sA (dU n R P 0)) ((List.range k).map (dU n R P)) (sA (dU n R P 0)):=by have:=cc4 (r:=dU n R P) link k 0;simp only[R8,e0k]at this;exact this
 obtain⟨rs,hrs⟩:∃rs,(List.range k).map (dU n R P)=rs:=⟨_,rfl⟩;have lrs:rs.length=k:=by rw[<-hrs];simp
 have mem:∀t∈rs,t∈ts:=λt ht=>by rw[<-hrs]at ht;obtain⟨m,_,rfl⟩:=M3.mp ht;exact(fact m).1
 have s0:=(qS (hq 0)).1;have kc:=cg2 h mem W9 (qZ s0) (by rw[<-hrs];exact ch);have ks:=ba0 h (fact 0).1;have a0':atI rs 0=some (dU n R P 0):=by
  have:rs[0]?=some (dU n R P 0):=by rw[<-hrs,C8,G7 W9];rfl
  exact gG (j:=0) this
 have mS:∀t∈rs,StepN n t:=λt ht=>h t (mem t ht);have nr:=gO λt ht=>(mS t ht).st;have no:=gO λt ht=>(h t ht).st;have zs:frzs ts=ts:=kJ λt ht=>(h t ht).st;have zr:frzs rs=rs:=kJ λt ht=>(mS t ht).st;have c1:∀o2 o4:Option T,cC (aI 3) bY (aU Ah2) [some (.lst false rs),some (.lst false ts),o2,none,o4] rs=.ok (rs.map sA):=λo2 o4=>by
  have q:=cX (k:=3) (d:=(aU Ah2)) (U:=[some (.lst false rs),some (.lst false ts),o2,none,o4]) (g:=id) (f:=sA) (l:=rs) (λt ht=>by
   obtain⟨p1,_,_,_,d,et,_⟩:=qS (mS t ht);have q1:atI [sA t,sB t,.int (bP t),d] 0=some (sA t):=jN _ _;have q4:cP (sA t)=true:=by rcases p1 with e|⟨i,_,e⟩<;>rw[e]<;>rfl
   simp only[id];generalize sA t=A at*;generalize sB t=B at*;generalize bP t=C at*;subst et;clear ht kc ks a0' p1 ch;walk_at "e")
  rwa[List.map_id]at q
 have c3:∀o2 o4:Option T,cC (aI 3) bY (aU (aE aO (aB 3) Al5)) [some (.lst false rs),some (.lst false ts),o2,none,o4] rs=.ok ((rs.map bP).map .int):=λo2 o4=>by have q:=cX (k:=3) (d:=(aU (aE aO (aB 3) Al5))) (U:=[some (.lst false rs),some (.lst false ts),o2,none,o4]) (g:=id) (f:=λt=>T.int (bP t)) (l:=rs) (λt ht=>by obtain⟨p1,_,_,_,d,et,_⟩:=qS (mS t ht);have q1:atI [sA t,sB t,.int (bP t),d] 2=some (.int (bP t)):=sG _ _ _ _;simp only[id];generalize sA t=A at*;generalize sB t=B at*;generalize bP t=C at*;subst et;clear ht kc ks a0' p1 ch;walk_at "e");rw[List.map_id]at q;rw[q,J4];rfl
 have nS:bB (rs.map sA)=true:=by rw[rX,List.all_map,K4];intro t ht;rcases(qS (mS t ht)).1 with e|⟨i,_,e⟩<;>simp[e,cP]
 have scS:∀u∈rs.map sA,sc u:=λu hu=>by obtain⟨t,ht,rfl⟩:=M3.mp hu;exact qZ (qS (mS t ht)).1
 have atS:∀i,i<k->(rs.map sA)[i]?=some (sA (dU n R P i)):=λi hi=>by rw[<-hrs,J4,C8,G7 hi];rfl
 have c2:∀o3:Option T,cC (aI 4) bY (aE (inT false) (aE aO (aB 2) (aB 4)) (yA tJ (aB 2) lD (lH (aB 4)))) [some (.lst false rs),some (.lst false ts),some (.lst true (rs.map sA)),o3,none] (cK 0 k)=.ok ((List.range k).map λ_=>T.bl false):=λo3=>by
  unfold cK;refine cX λi hi=>?_;have hi:=F9.mp hi;have ai:atI (rs.map sA) (0+(i:Int))=some (sA (dU n R P i)):=by rw[M7];exact gG (atS i hi)
  have cu:fJ (rs.map sA) none (some (0+(i:Int)))=(rs.map sA).take i:=by rw[M7];exact ax1 _ _
  have si:sc (sA (dU n R P i)):=qZ (qS (hq i)).1;have ei:inT false (sA (dU n R P i)) (.lst true ((rs.map sA).take i))=.ok (.bl false):=by
   have e1:=cb4 si ((rs.map sA).take i) λu hu=>scS u (O2 hu);have e2:(((rs.map sA).take i).map λu=>eqS u (sA (dU n R P i))).any id=false:=by
    rw[Bool.eq_false_iff];intro q;have hm:=(et5 si λu hu=>scS u (O2 hu)).mp q;obtain⟨j,e⟩:=List.mem_iff_getElem?.mp hm;have hj:j<i:=by have:=(D3.mp e).1;rw[S6]at this;omega
    rw[U7 hj,atS j W9]at e;have e:=G0 e;refine em0 r hj hi ?_;rw[<-(fact j).2.1,<-(fact i).2.1,(qS (hq j)).2.2.1,(qS (hq i)).2.2.1,e]
   rcases si with e|⟨x,e⟩;all_goals
    rw[e]at e1 e2⊢;simp only[inT,e1,e2];rfl
  clear kc ks a0' ch c1 c3 si;generalize sA (dU n R P i)=A at*;walk_at "e"
 have an:kN true [.lst true ((List.range k).map λ_=>T.bl false)]=.ok (.bl false):=by
  have e:((List.range k).map λ_=>T.bl false)=((List.range k).map λ_=>false).map T.bl:=by rw[J4];rfl
  rw[e];simp only[kN,aj4];simp
 have sneg:(rs.map bP).sum<0:=by
  have:=cy9 (n:=n) (R:=R) k P (λm _=>by obtain⟨t,et,_⟩:=r.df m;exact⟨t,et⟩);have e:rs.map bP=(List.range k).map λm=>bP (dU n R P m):=by rw[<-hrs,J4];rfl
  rw[e,this];exact r.neg
 have dneg:decide ((rs.map bP).sum<0)=true:=F7 sneg;have enil:fT (.lst false rs) (.lst true [])=.ok (.bl false):=by
  cases rs with
  |nil=>simp at lrs;omega
  |cons t rs=>rfl
 rw[hrs];have l1:rs.length<=100000:=W9
 have lz:rs.length<=sizeLine:=by have:=F8;omega
 have rg:-(2^62)<=(k:Int)/\(k:Int)<2^62:=W9
 have tk:(k:Int).toNat=k:=W9
 have li:=cI 0 k;have lk:k<=sizeLine:=by have:=F8;omega
 obtain⟨p1,p2,_,_,d,et,hd⟩:=qS (hq 0);have q1:atI [sA (dU n R P 0),sB (dU n R P 0),.int (bP (dU n R P 0)),d] 0=some (sA (dU n R P 0)):=jN _ _;have nA:cP (sA (dU n R P 0))=true/\frz (sA (dU n R P 0))=sA (dU n R P 0):=by rcases p1 with e|⟨i,_,e⟩<;>rw[e]<;>exact⟨rfl,rfl⟩
 obtain⟨nA,zA⟩:=nA;obtain⟨n1,_,z1⟩:=kC (hq 0).st;generalize hq0:dU n R P 0=q0 at*;have ixq:aO q0 (.int 0)=.ok (sA q0):=by rw[et];simp only[ca6];rw[show atI [sA q0,sB q0,T.int (bP q0),d] 0=some (sA q0) from q1];rfl
 unfold nK qQ;have b0:=a0';clear a0' et hq0 fact hq link e0k ch mem mS scS atS sneg h r hd p1 p2 q1 s0 hrs n8 kn k1;walk_at "e"
section
variable{α:Type}(src dst:α->Nat)(cst:α->Int)(ts:List α)
inductive Wk (k:Nat):Nat->Nat->Int->Prop
 |nil (i:Nat):Wk k i i 0
 |step (t:α) (h:t∈ts):Wk k (src t) (dst t) (cst t)
 |join {i m j:Nat} {c d:Int} (h:m<k) (x:Wk k i m c) (y:Wk k m j d):Wk k i j (c+d)
variable{src dst cst ts}{k n i j:Nat}{c:Int}{D:bu}
theorem Wk.pot(hD:∀t∈ts,D (dst t)<=D (src t)+cst t)(x:Wk src dst cst ts k i j c):D j<=D i+c:=by
 induction x with
 |nil i=>omega
 |step t h=>exact hD t h
 |join h x y ix iy=>omega
theorem Wk.split(hD:∀t∈ts,D (dst t)<=D (src t)+cst t)(x:Wk src dst cst ts (k+1) i j c):
 (∃c',c'<=c/\Wk src dst cst ts k i j c')\/∃a b,a+b<=c/\Wk src dst cst ts k i k a/\Wk src dst cst ts k k j b:=by
 induction x with
 |nil i=>exact .inl ⟨0,W9,.nil i⟩
 |step t h=>exact .inl ⟨_,U1 _,.step t h⟩
 |@join i m j c d h x y ix iy=>
  by_cases e:m=k
  . rw[e]at ix iy;rcases ix with⟨c',lc,x'⟩|⟨a,b,lx,xa,xb⟩<;>rcases iy with⟨d',ld,y'⟩|⟨a',b',ly,ya,yb⟩
    . exact .inr ⟨c',d',W9,x',y'⟩
    . have:=ya.pot hD;exact .inr ⟨c',b',W9,x',yb⟩
    . have:=xb.pot hD;exact .inr ⟨a,d',W9,xa,y'⟩
    . have:=xb.pot hD;have:=ya.pot hD;exact .inr ⟨a,b',W9,xa,yb⟩
  . have h:m<k:=W9
    rcases ix with⟨c',lc,x'⟩|⟨a,b,lx,xa,xb⟩<;>rcases iy with⟨d',ld,y'⟩|⟨a',b',ly,ya,yb⟩
    . exact .inl ⟨_,W9,.join h x' y'⟩
    . exact .inr ⟨_,b',W9,.join h x' ya,yb⟩
    . exact .inr ⟨a,_,W9,xa,.join h xb y'⟩
    . have:=(Wk.join h xb ya).pot hD;exact .inr ⟨a,b',W9,xa,yb⟩
theorem Wk.cross{F:az}(x:Wk src dst cst ts k i j c)(hb:∀t∈ts,src t<k/\dst t<k):i∈F->j∉F->∃t∈ts,src t∈F/\dst t∉F/\∃p r,Wk src dst cst ts k i (src t) p/\Wk src dst cst ts k (dst t) j r/\p+cst t+r=c:=by
 induction x with
 |nil i=>exact λa b=>E8 a b
 |step t h=>exact λa b=>⟨t,h,a,b,0,0,.nil _,.nil _,W9⟩
 |@join i m j c d h x y ix iy=>
  intro a b;by_cases e:m∈F
  . obtain⟨t,h1,h2,h3,p,r,w1,w2,q⟩:=iy e b;exact⟨t,h1,h2,h3,_,r,.join h x w1,w2,W9⟩
  . obtain⟨t,h1,h2,h3,p,r,w1,w2,q⟩:=ix a e;exact⟨t,h1,h2,h3,p,_,w1,.join h w2 y,W9⟩
def en(M:am)(i j:Nat):Int:=gy (M.getD i []) j
def rlx(M:am)(i j:Nat)(v:Int):List (List Int):=M.set i ((M.getD i []).set j (if v<en M i j then v else en M i j))
def Tb(n:Nat)(M:am):Prop:=M.length=n+1/\∀i,i<=n->(M.getD i []).length=n+1
def ae2(M:List β)(i a:Nat)(r z:β)(h:i<M.length):(M.set i r).getD a z=if i=a then r else M.getD a z:=by
 rw[A8,A8,List.getElem?_set];by_cases e:i=a
 . subst e;simp[h]
 . simp[e]
def el4(h:Tb n M)(hi:i<=n)(hj:j<=n)(v:Int)(a b:Nat):en (rlx M i j v) a b=if i=a/\j=b then(if v<en M i j then v else en M i j)else en M a b:=by
 unfold rlx;generalize(if v<en M i j then v else en M i j)=z;unfold en;rw[ae2 _ _ _ _ _ (by have:=h.1;omega)];by_cases e:i=a
 . subst e;rw[E3 rfl,vW _ _ _ _ (by have:=h.2 i hi;omega)];simp
 . rw[D7 e,D7 (λq=>e q.1)]
theorem Tb.rlx(h:Tb n M)(hi:i<=n)(v:Int):Tb n (Nk33.rlx M i j v):=by
 refine⟨by unfold Nk33.rlx;rw[N7];exact h.1,λa ha=>?_⟩;unfold Nk33.rlx;rw[ae2 _ _ _ _ _ (by have:=h.1;omega)];split
 . rw[N7];exact h.2 i hi
 . exact h.2 a ha
variable(src dst cst ts) in
structure Tw (n:Nat) (M:am):Prop where
 tb:Tb n M
 wk:∀i j,i<=n->j<=n->Wk src dst cst ts (n+1) i j (en M i j)
variable(src dst cst ts) in
def Bd(n:Nat)(M:am)(k:Nat):Prop:=∀i j c,i<=n->j<=n->Wk src dst cst ts k i j c->en M i j<=c
variable{M M0:am}{v:Int}
theorem Tw.rlx(h:Tw src dst cst ts n M)(hi:i<=n)(hj:j<=n)(w:Wk src dst cst ts (n+1) i j v):Tw src dst cst ts n (Nk33.rlx M i j v)/\(∀a b,en (Nk33.rlx M i j v) a b<=en M a b)/\en (Nk33.rlx M i j v) i j<=v:=by
 have e:=el4 h.tb hi hj v;refine⟨⟨h.tb.rlx hi v,λa b ha hb=>?_⟩,λa b=>?_,?_⟩
 . rw[e];split
   . next q=>obtain⟨rfl,rfl⟩:=q;split;exact w;exact h.wk _ _ ha hb
   . exact h.wk a b ha hb
 . rw[e];split
   . next q=>obtain⟨rfl,rfl⟩:=q;split<;>omega
   . exact U1 _
 . rw[e,E3 ⟨rfl,rfl⟩];split<;>omega
def Bd.next(hD:∀t∈ts,D (dst t)<=D (src t)+cst t)(h:Bd src dst cst ts n M0 k)(hk:k<=n)(h1:∀a b,en M a b<=en M0 a b)(h2:∀a b,a<=n->b<=n->en M a b<=en M0 a k+en M0 k b):Bd src dst cst ts n M (k+1):=λi j c hi hj w=>by
 rcases w.split hD with⟨c',l,w⟩|⟨a,b,l,wa,wb⟩
 . have:=h i j c' hi hj w;have:=h1 i j;omega
 . have:=h i k a hi hk wa;have:=h k j b hk hj wb;have:=h2 i j hi hj;omega
theorem Bd.start(h0:∀i,i<=n->en M i i<=0)(h1:∀t∈ts,en M (src t) (dst t)<=cst t):Bd src dst cst ts n M 0:=λi j c hi hj w=>by
 cases w with
 |nil=>exact h0 i hi
 |step t h=>exact h1 t h
 |join h=>omega
def ae8(hb:∀t∈ts,src t<=n/\dst t<=n)(hD:∀t∈ts,D (dst t)<=D (src t)+cst t)(h:Tw src dst cst ts n M)(hB:Bd src dst cst ts n M (n+1)){s:Nat}(hs:s<=n):
 en M s s=0/\(∀t∈ts,en M s (dst t)<=en M s (src t)+cst t)/\∀F:List Nat,s∈F->∀a,a<=n->a∉F->∃t∈ts,src t∈F/\dst t∉F/\en M s (dst t)=en M s (src t)+cst t:=by
 have st:∀t∈ts,en M s (dst t)<=en M s (src t)+cst t:=λt ht=>hB _ _ _ hs (hb t ht).2 (.join (by have:=(hb t ht).1;omega) (h.wk _ _ hs (hb t ht).1) (.step t ht));refine⟨?_,st,λF hF a ha hn=>?_⟩
 . have:=hB _ _ _ hs hs (.nil s);have:=(h.wk _ _ hs hs).pot hD;omega
 . obtain⟨t,ht,t1,t2,p,r,w1,w2,q⟩:=(h.wk _ _ hs ha).cross (F:=F) (λt ht=>by have:=hb t ht;omega) hF hn;have:=st t ht;have:=hB _ _ _ hs (hb t ht).1 w1;have:=hB _ _ _ hs ha (.join (by have:=(hb t ht).2;omega) (h.wk _ _ hs (hb t ht).2) w2);exact⟨t,ht,t1,t2,W9⟩
end
def tM(o:Bool)(M:am):T:=.lst o (M.map λr=>.lst o (r.map .int))
def uL(M:am):cT (tM true M)=true:=by simp only[tM,cT,U9];exact lJ (λr=>by simp only[cT,gB,H0]) M
def dm8(o:Bool){M:am}{i:Nat}(h:i<M.length):(M.map λr=>T.lst o (r.map .int))[i]?=some (.lst o ((M.getD i []).map .int)):=by rw[C8,A6 h,A8,A6 h];rfl
def dd8(o:Bool){M:am}{i:Nat}(h:i<M.length):aO (tM o M) (.int (i:Int))=.ok (.lst o ((M.getD i []).map .int)):=by unfold tM;rw[de8,gG (dm8 o h)]
def au7{q n i j:Nat}{U:Fr}{M:am}{z:Int}{e ii jj:a8}(h:Tb n M)(hi:i<=n)(hj:j<=n)(hq:U[q]?=some (some (tM true M)))(he:e U=.ok (.int z))(h1:ii U=.ok (.int (i:Int)))(h2:jj U=.ok (.int (j:Int))):
 sU q [] e (pIx q dH ii) jj U=.nx (U.set q (some (tM true (M.set i ((M.getD i []).set j z))))):=by
 have li:i<M.length:=by have:=h.1;omega
 have x1:qG (M.map λr=>T.lst true (r.map .int)).length (i:Int)=some i:=xR (by rw[C3];exact li);have x2:qG ((M.getD i []).map T.int).length (j:Int)=some j:=xR (by rw[C3,h.2 i hi];omega);have a1:=dm8 true li;have p1:pIx q dH ii U=.ok [i]:=by simp only[pIx,dH,Res.bind,h1,hq,fN,tM,Option.bind,bi3,N4,x1,List.nil_append]
 have p2:fN [i] (tM true M)=some (.lst true ((M.getD i []).map .int)):=by simp only[fN,tM,a1,Option.bind]
 have p3:kR (.lst true (((M.getD i []).map T.int).set j (.int z))) [i] (tM true M)=some (tM true (M.set i ((M.getD i []).set j z))):=by simp only[kR,tM,a1,Option.map,List.map_set]
 simp only[sU,kills,he,hq,p1,p2,h2,x2,TL.al6,p3]
def eu2(h:Tb n M)(hi:i<=n)(hj:j<=n):Tb n (M.set i ((M.getD i []).set j z))/\∀a b,en (M.set i ((M.getD i []).set j z)) a b=if i=a/\j=b then z else en M a b:=by
 have li:i<M.length:=by have:=h.1;omega
 refine⟨⟨by rw[N7];exact h.1,λa ha=>?_⟩,λa b=>?_⟩
 . rw[ae2 _ _ _ _ _ li];split
   . rw[N7];exact h.2 i hi
   . exact h.2 a ha
 . unfold en;rw[ae2 _ _ _ _ _ li];by_cases e:i=a
   . subst e;rw[E3 rfl,vW _ _ _ _ (by have:=h.2 i hi;omega)];simp
   . rw[D7 e,D7 (λq=>e q.1)]
def ef8(g:Gd f):∃M,sV [bT false f]=.ok (tM true M)/\Tb f.n.length M/\∀a b,a<=f.n.length->b<=f.n.length->en M a b=if a=b then 0 else if a=f.n.length then f.a+f.s else if b=f.n.length then 0-f.a else f.a+f.s-f.a:=by
 have n8:=g.n8;have fl:=jZ false f;have ff:=ao2 false f;have fp:=ag2 false f;have lnames:cY [.lst false (f.n.map T.str)]=.ok (.int f.n.length):=by rw[nZ];simp only[C3]
 have m1:∀p:Int,pP (.lst true [T.int p]) (.int f.n.length)=.ok (.lst true (List.replicate f.n.length (T.int p))):=λp=>by simp only[pP];rw[eO ⟨rfl,W9,W9,by simp;omega⟩,ay2,E5]
 have nr:∀p:Int,bB (List.replicate f.n.length (T.int p))=true:=λp=>by rw[rX];simp[cP]
 have a1:∀p z:Int,bR (.lst true (List.replicate f.n.length (T.int p))) (.lst true [.int z])=.ok (.lst true ((List.replicate f.n.length p++[z]).map .int)):=λp z=>by rw[cn0,eO ⟨by rw[nr];rfl,by have:=F8;simp;omega⟩,J1,U5];rfl
 have sz1:1<=sizeLine:=by have:=F8;omega
 have rg1:eZ [.int (f.n.length:Int)]=.ok (cK 0 f.n.length):=by rw[pV,eO ⟨W9,W9⟩,E5]
 have hc:cC (aI 3) bY Aj6 [some (bT false f),some (.int f.n.length),none,none] (f.n.map T.str)=.ok (f.n.map λ_=>T.lst true ((List.replicate f.n.length (f.a+f.s-f.a)++[0-f.a]).map .int)):=by refine cX λx _=>?_;clear rg1 lnames nr n8 g;walk_at "e"
 obtain⟨M1,hM⟩:∃M1,M1=List.replicate f.n.length (List.replicate f.n.length (f.a+f.s-f.a)++[0-f.a])++[List.replicate f.n.length (f.a+f.s)++[0]]:=⟨_,rfl⟩;have eM:(f.n.map λ_=>T.lst true ((List.replicate f.n.length (f.a+f.s-f.a)++[0-f.a]).map .int))++[T.lst true ((List.replicate f.n.length (f.a+f.s)++[0]).map .int)]=M1.map λr=>T.lst true (r.map .int):=by simp only[hM,J1,U5,List.map_const',C7,L3]
 have r1:∀a,a<f.n.length->M1.getD a []=List.replicate f.n.length (f.a+f.s-f.a)++[0-f.a]:=λa ha=>by rw[hM,A8,N0 (by simpa using ha),O9,E3 ha];rfl
 have r2:M1.getD f.n.length []=List.replicate f.n.length (f.a+f.s)++[0]:=by rw[hM,A8,K5 X4];simp
 have rw1:∀(p z:Int)(b:Nat),b<=f.n.length->gy (List.replicate f.n.length p++[z]) b=if b=f.n.length then z else p:=λp z b hb=>by
  unfold gy;by_cases e:b=f.n.length
  . rw[E3 e,e,A8,K5 X4];simp
  . rw[D7 e,A8,N0 (by simp;omega),O9,E3 W9];rfl
 have t1:Tb f.n.length M1:=⟨by rw[hM];simp,λa ha=>by
  by_cases e:a=f.n.length
  . rw[e,r2];simp
  . rw[r1 a W9];simp⟩
 have v1:∀a b,a<=f.n.length->b<=f.n.length->en M1 a b=if a=f.n.length then(if b=f.n.length then 0 else f.a+f.s)else if b=f.n.length then 0-f.a else f.a+f.s-f.a:=λa b ha hb=>by
  unfold en;by_cases e:a=f.n.length
  . rw[E3 e,e,r2,rw1 _ _ _ hb]
  . rw[D7 e,r1 a W9,rw1 _ _ _ hb]
 clear hM r1 r2 rw1;obtain⟨M,o3,loop,tb,val⟩:∃M,∃o3:Option T,dI (aI 3) (sU 2 [] Al3 (pIx 2 dH (aB 3)) (aB 3)) (cK 0 f.n.length) [some (bT false f),some (.int f.n.length),some (.lst true (M1.map λr=>T.lst true (r.map .int))),none]=.nx [some (bT false f),some (.int f.n.length),some (tM true M),o3]/\Tb f.n.length M/\∀a b,a<=f.n.length->b<=f.n.length->en M a b=if a=b/\a<f.n.length then 0 else en M1 a b:=by
  generalize hL:dI _ _ _ _=o;obtain⟨ρ',rfl,M,o3,rfl,tb,val⟩:=fL (λi U=>∃M,∃(o3:bc),U=[some (bT false f),some (.int f.n.length),some (tM true M),o3]/\Tb f.n.length M/\∀a b,a<=f.n.length->b<=f.n.length->en M a b=if a=b/\a<i then 0 else en M1 a b) hL ⟨M1,none,rfl,t1,λa b _ _=>by rw[D7 W9]⟩ (by
   rintro i t U et ⟨M,o3,rfl,tb,val⟩;have hi:i<f.n.length:=by have:=(D3.mp et).1;rwa[cI]at this
   have et:t=.int (i:Int):=by unfold cK at et;rw[C8,G7 hi]at et;simpa using et.symm
   subst et;have sc:=au7 (q:=2) (U:=[some (bT false f),some (.int f.n.length),some (tM true M),some (.int (i:Int))]) (z:=0) (e:=dC (.int 0)) (ii:=aB 3) (jj:=aB 3) tb (i:=i) (j:=i) W9 W9 rfl rfl rfl rfl;show yG _ _ (some [some (bT false f),some (.int f.n.length),some (tM true M),some (.int (i:Int))]);simp only[yG,sc,Go];obtain⟨tb',val'⟩:=eu2 (z:=0) tb (i:=i) (j:=i) W9 W9;refine⟨_,_,rfl,tb',λa b ha hb=>?_⟩;rw[val',val a b ha hb];by_cases e:i=a/\i=b
   . rw[E3 e,E3 W9]
   . rw[D7 e];by_cases e2:a=b/\a<i
     . rw[E3 e2,E3 W9]
     . rw[D7 e2,D7 W9])
  rw[cI]at val;exact⟨M,o3,rfl,tb,val⟩
 refine⟨M,?_,tb,λa b ha hb=>?_⟩
 . unfold sV tZ;have ns:=mB f.n;have cl:=uL M;have lf:f.n.length<=sizeLine:=by have:=F8;omega
   have lf2:f.n.length<sizeLine:=by have:=F8;omega
   clear tb val v1 t1 g n8 nr;walk_at "e"
 . rw[val a b ha hb,v1 a b ha hb];by_cases e:a=b
   . rw[E3 e];by_cases e2:a=f.n.length
     . rw[D7 W9,E3 e2,E3 W9]
     . rw[E3 W9]
   . rw[D7 W9,D7 e];by_cases e2:a=f.n.length
     . rw[E3 e2,E3 e2,D7 W9]
     . rw[D7 e2,D7 e2]
def ba3(e:(cK 0 m)[i]?=some t):i<m/\t=.int (i:Int):=by
 have hi:i<m:=by have:=(D3.mp e).1;rwa[cI]at this
 refine⟨hi,?_⟩;unfold cK at e;rw[C8,G7 hi]at e;simpa using e.symm
def sC(h:Tb n M)(hi:i<=n)(hj:j<=n):aO (tM true M) (.int (i:Int))=.ok (.lst true ((M.getD i []).map .int))/\atI ((M.getD i []).map T.int) (j:Int)=some (.int (en M i j)):=
 ⟨dd8 true (by have:=h.1;omega),pL (by rw[h.2 i hi];omega)⟩
abbrev rN:Fr->Res (List T):=fP eZ Ah7
abbrev rB:Fr->bS:=sU 3 [] (bU kM Af8) (pIx 3 dH (aB 5)) (aB 6)
def dk7{n:Nat}(n8:n<=8)(a0 a1 a3 a4 a5 a6 a7:bc):rN [a0,a1,some (.int (n:Int)),a3,a4,a5,a6,a7]=.ok (cK 0 (n+1)):=by
 have rg1:eZ [.int ((n:Int)+1)]=.ok (cK 0 (n+1)):=by rw[pV,eO ⟨W9,W9⟩];congr
 unfold rN;walk_at "e"
section
variable{n k i:Nat}{ts:aw}{M:am}{D:bu}
abbrev sE(n:Nat)(ts:aw)(M:am):Prop:=Tw (bW n) (bJ n) bP ts n M
def ek9(n8:n<=8)(h:sE n ts M)(hk:k<=n)(hi:i<=n)(a0 a1 o4 o6:bc):∃M' o6',fR rN (aI 6) rB [a0,a1,some (.int (n:Int)),some (tM true M),o4,some (.int (i:Int)),o6,some (.int (k:Int))]=.nx [a0,a1,some (.int (n:Int)),some (tM true M'),o4,some (.int (i:Int)),o6',some (.int (k:Int))]/\sE n ts M'/\(∀a b,en M' a b<=en M a b)/\∀b,b<=n->en M' i b<=en M i k+en M k b:=by
 simp only[fR,dk7 n8];generalize hL:dI _ _ _ _=o;obtain⟨ρ',rfl,M',o6',rfl,tw,le,dn⟩:=fL (λj U=>∃M',∃(o6':bc),U=[a0,a1,some (.int (n:Int)),some (tM true M'),o4,some (.int (i:Int)),o6',some (.int (k:Int))]/\sE n ts M'/\(∀a b,en M' a b<=en M a b)/\∀b,b<j->en M' i b<=en M i k+en M k b) hL ⟨M,o6,rfl,h,λ_ _=>U1 _,λb q=>by omega⟩ (by
  rintro j t U et ⟨M',o6',rfl,tw,le,dn⟩;obtain⟨hj,rfl⟩:=ba3 et;obtain⟨p1,p2⟩:=sC tw.tb hi (show j<=n by omega);obtain⟨_,p3⟩:=sC tw.tb hi hk;obtain⟨p4,p5⟩:=sC tw.tb hk (show j<=n by omega);have w:Wk (bW n) (bJ n) bP ts (n+1) i j (en M' i k+en M' k j):=.join W9 (tw.wk _ _ hi hk) (tw.wk _ _ hk W9);obtain⟨q1,q2,q3⟩:=tw.rlx hi (show j<=n by omega) w;have l1:=le i k;have l2:=le k j;have z:=au7 (q:=3) (U:=[a0,a1,some (.int (n:Int)),some (tM true M'),o4,some (.int (i:Int)),some (.int (j:Int)),some (.int (k:Int))]) (z:=if en M' i k+en M' k j<en M' i j then en M' i k+en M' k j else en M' i j) (e:=bU kM Af8) (ii:=aB 5) (jj:=aB 6) tw.tb hi (show j<=n by omega) rfl (by clear hL et tw le dn w q1 q2 q3 l1 l2;walk_at "e") rfl rfl;show yG _ rB (some [a0,a1,some (.int (n:Int)),some (tM true M'),o4,some (.int (i:Int)),some (.int (j:Int)),some (.int (k:Int))]);simp only[yG,rB,z,Go];refine⟨_,_,rfl,q1,λa b=>N8 (q2 a b) (le a b),λb hb=>?_⟩;by_cases e:b=j
  . subst e;have q3:en (rlx M' i b (en M' i k+en M' k b)) i b<=en M' i k+en M' k b:=q3;exact N8 q3 W9
  . exact N8 (q2 i b) (dn b W9))
 rw[cI]at dn;exact⟨M',o6',rfl,tw,le,λb hb=>dn b W9⟩
def fb0(n8:n<=8)(h:sE n ts M)(hk:k<=n)(a0 a1 o4 o5 o6:bc):∃M' o5' o6',fR rN (aI 5) (fR rN (aI 6) rB) [a0,a1,some (.int (n:Int)),some (tM true M),o4,o5,o6,some (.int (k:Int))]=.nx [a0,a1,some (.int (n:Int)),some (tM true M'),o4,o5',o6',some (.int (k:Int))]/\sE n ts M'/\(∀a b,en M' a b<=en M a b)/\∀a b,a<=n->b<=n->en M' a b<=en M a k+en M k b:=by
 rw[fR,dk7 n8];simp only[];generalize hL:dI _ _ _ _=o;obtain⟨ρ',rfl,M',o5',o6',rfl,tw,le,dn⟩:=fL (λj U=>∃M',∃(o5' o6':bc),U=[a0,a1,some (.int (n:Int)),some (tM true M'),o4,o5',o6',some (.int (k:Int))]/\sE n ts M'/\(∀a b,en M' a b<=en M a b)/\∀a b,a<j->b<=n->en M' a b<=en M a k+en M k b) hL ⟨M,o5,o6,rfl,h,λ_ _=>U1 _,λa b q=>by omega⟩ (by
  rintro j t U et ⟨M',o5',o6',rfl,tw,le,dn⟩;obtain⟨hj,rfl⟩:=ba3 et;obtain⟨M2,p6,e,tw2,le2,dn2⟩:=ek9 n8 tw hk (show j<=n by omega) a0 a1 o4 o6';show yG _ _ (some [a0,a1,some (.int (n:Int)),some (tM true M'),o4,some (.int (j:Int)),o6',some (.int (k:Int))]);simp only[yG,e,Go];refine⟨_,_,_,rfl,tw2,λa b=>N8 (le2 a b) (le a b),λa b ha hb=>?_⟩;by_cases q:a=j
  . subst q;have:=dn2 b hb;have:=le a k;have:=le k b;omega
  . exact N8 (le2 a b) (dn a b W9 hb))
 rw[cI]at dn;exact⟨M',o5',o6',rfl,tw,le,λa b ha hb=>dn a b W9 hb⟩
def fk0(n8:n<=8)(hD:∀t∈ts,D (bJ n t)<=D (bW n t)+bP t)(h:sE n ts M)(hB:Bd (bW n) (bJ n) bP ts n M 0)(a0 a1 o4 o5 o6 o7:bc):∃M' o5' o6' o7',dI (aI 7) (fR rN (aI 5) (fR rN (aI 6) rB)) (cK 0 (n+1)) [a0,a1,some (.int (n:Int)),some (tM true M),o4,o5,o6,o7]=.nx [a0,a1,some (.int (n:Int)),some (tM true M'),o4,o5',o6',o7']/\sE n ts M'/\Bd (bW n) (bJ n) bP ts n M' (n+1):=by generalize hL:dI _ _ _ _=o;obtain⟨ρ',rfl,M',o5',o6',o7',rfl,tw,bd⟩:=fL (λj U=>∃M',∃(o5' o6' o7':bc),U=[a0,a1,some (.int (n:Int)),some (tM true M'),o4,o5',o6',o7']/\sE n ts M'/\Bd (bW n) (bJ n) bP ts n M' j) hL ⟨M,o5,o6,o7,rfl,h,hB⟩ (by rintro j t U et ⟨M',o5',o6',o7',rfl,tw,bd⟩;obtain⟨hj,rfl⟩:=ba3 et;obtain⟨M2,p5,p6,e,tw2,le2,dn2⟩:=fb0 n8 tw (show j<=n by omega) a0 a1 o4 o5' o6';show yG _ _ (some [a0,a1,some (.int (n:Int)),some (tM true M'),o4,o5',o6',some (.int (j:Int))]);simp only[yG,e,Go];exact⟨_,_,_,_,rfl,tw2,bd.next hD W9 le2 dn2⟩);rw[cI]at bd;exact⟨M',o5',o6',o7',rfl,tw,bd⟩
abbrev sB':Fr->bS:=(aP (aY [] (aW 2 dL (aD Ah3 (aD (aB 2) aH))) (aI 5)) (aP (aY [] (aW 2 dL Aj5) (aI 6)) (sU 3 [] (bU kM Ag1) (pIx 3 dH (aB 5)) (aB 6))))
def eh9(h:∀t∈ts,StepN n t)(tw0:sE n ts M)(hd:∀a,a<=n->en M a a<=0)(a0 a1 o4 o5 o6 o7:bc):∃M' o4' o5' o6',dI (aI 4) sB' ts [a0,a1,some (.int (n:Int)),some (tM true M),o4,o5,o6,o7]=.nx [a0,a1,some (.int (n:Int)),some (tM true M'),o4',o5',o6',o7]/\sE n ts M'/\Bd (bW n) (bJ n) bP ts n M' 0:=by
 generalize hL:dI _ _ _ _=o;obtain⟨ρ',rfl,M',o4',o5',o6',rfl,tw,hd',dn⟩:=fL (λi U=>∃M',∃(o4' o5' o6':bc),U=[a0,a1,some (.int (n:Int)),some (tM true M'),o4',o5',o6',o7]/\sE n ts M'/\(∀a,a<=n->en M' a a<=0)/\∀t∈ts.take i,en M' (bW n t) (bJ n t)<=bP t) hL ⟨M,o4,o5,o6,rfl,tw0,hd,λt ht=>by simp at ht⟩ (by
  rintro i t U et ⟨M',o4',o5',o6',rfl,tw,hd',dn⟩;have tm:=D4 et;have hs:=h t tm;obtain⟨n1,c1,z1⟩:=kC hs.st;obtain⟨b1,b2⟩:=yP hs;obtain⟨q1,q2,q3⟩:=tw.rlx b1 b2 ((Wk.step t tm:Wk (bW n) (bJ n) bP ts (n+1) _ _ _));have es:ts.take (i+1)=ts.take i++[t]:=by rw[List.take_add_one,et];rfl
  have bN:∃M2,∃(p4 p5 p6:bc),[a0,a1,some (.int (n:Int)),some (tM true (rlx M' (bW n t) (bJ n t) (bP t))),some t,some (.int (bW n t:Int)),some (.int (bJ n t:Int)),o7]=[a0,a1,some (.int (n:Int)),some (tM true M2),p4,p5,p6,o7]/\sE n ts M2/\(∀a,a<=n->en M2 a a<=0)/\∀u∈ts.take (i+1),en M2 (bW n u) (bJ n u)<=bP u:=by
   refine⟨_,_,_,_,rfl,q1,λa ha=>N8 (q2 a a) (hd' a ha),λu hu=>?_⟩;rw[es]at hu;rcases A9.mp hu with hu|hu
   . exact N8 (q2 _ _) (dn u hu)
   . rw[C5.mp hu];exact q3
  obtain⟨p1,p2⟩:=sC tw.tb b1 b2;have z:=au7 (q:=3) (U:=[a0,a1,some (.int (n:Int)),some (tM true M'),some t,some (.int (bW n t:Int)),some (.int (bJ n t:Int)),o7]) (z:=if bP t<en M' (bW n t) (bJ n t)then bP t else en M' (bW n t) (bJ n t)) (e:=bU kM Ag1) (ii:=aB 5) (jj:=aB 6) tw.tb b1 b2 rfl (by obtain⟨a,b,c,d,rfl,ha,hb,hd⟩:=hs;have i2:=@sG T;have ec:bP (.tup [a,b,.int c,d])=c:=rfl;rw[ec];clear hL et tw dn q1 q2 q3 bN es hd' n1 c1 z1 ec tm ha hb hd h b1 b2;generalize bW n (.tup [a,b,.int c,d])=I at*;generalize bJ n (.tup [a,b,.int c,d])=J at*;walk_at "e") rfl rfl;have z:sU 3 [] (bU kM Ag1) (pIx 3 dH (aB 5)) (aB 6) [a0,a1,some (.int (n:Int)),some (tM true M'),some t,some (.int (bW n t:Int)),some (.int (bJ n t:Int)),o7]=.nx [a0,a1,some (.int (n:Int)),some (tM true (rlx M' (bW n t) (bJ n t) (bP t))),some t,some (.int (bW n t:Int)),some (.int (bJ n t:Int)),o7]:=z;have s12:∀x y:Option T,aY [] (aW 2 dL (aD Ah3 (aD (aB 2) aH))) (aI 5) [a0,a1,some (.int (n:Int)),some (tM true M'),some t,x,y,o7]=.nx [a0,a1,some (.int (n:Int)),some (tM true M'),some t,some (.int (bW n t:Int)),y,o7]/\aY [] (aW 2 dL Aj5) (aI 6) [a0,a1,some (.int (n:Int)),some (tM true M'),some t,x,y,o7]=.nx [a0,a1,some (.int (n:Int)),some (tM true M'),some t,x,some (.int (bJ n t:Int)),o7]:=λx y=>by obtain⟨a,b,c,d,rfl,ha,hb,hd⟩:=hs;obtain⟨la,pa,na,za,ca⟩:=am0 ha;obtain⟨lb,pb,nb,zb,cb⟩:=am0 hb;have i0:=@jN T;have i1:=@iO T;have e1:bW n (.tup [a,b,.int c,d])=pN n a:=rfl;have e2:bJ n (.tup [a,b,.int c,d])=pN n b:=rfl;rw[e1,e2];clear hL et tw dn q1 q2 q3 bN es hd' n1 c1 z1 tm ha hb hd h z p1 p2 b1 b2 e1 e2;refine⟨?_,?_⟩<;>walk_at "e"
  show yG _ sB' (some [a0,a1,some (.int (n:Int)),some (tM true M'),some t,o5',o6',o7]);simp only[yG,sB',aP,(s12 _ _).1,(s12 _ _).2,z,Go];exact bN)
 rw[List.take_length]at dn;exact⟨M',o4',o5',o6',rfl,tw,Bd.start hd' dn⟩
end
def dl1(hy:Y.length=n+1)(h0:gy Y n=0)(h:Pl n a):wL (Y.take n) a=gy Y (pN n a):=by
 rcases h with rfl|⟨i,hi,rfl⟩
 . exact h0.symm
 . simp only[wL,pN,gy,Int.toNat_natCast,A8,U7 hi]
def dv9(hy:Y.length=n+1)(h0:gy Y n=0)(h:StepN n t)(k:Kp (bW n) (bJ n) bP Y t):kept (Y.take n) t=true:=by obtain⟨a,b,c,d,rfl,ha,hb,hd⟩:=h;simp only[kept];rw[dl1 hy h0 ha,dl1 hy h0 hb];exact F7 k
def bu9(h:∀u∈ts,StepN n u)(yl:ys.length=n)(n8:n<=8)(hk:∀t∈ts,kept ys t=true):gF [.lst false (ys.map .int),.int (n:Int),.lst false ts]=.ok (.bl true):=by
 unfold gF oE;have kh:=cc2 (ys:=ys) (ts:=ts) (by rw[yl];exact h);have ek:ts.all (kept ys)=true:=K4.mpr hk;rw[ek]at kh;have zs:frzs ts=ts:=kJ λt ht=>(h t ht).st;have hc:cC (aI 3) bY (aW 1 jF (aD (aB 3) aH)) [some (.lst false (ys.map .int)),some (.int n),some (.lst false ts),none] (ys.map .int)=.ok (ys.map λ_=>T.bl true):=by refine cX λy _=>?_;have kw:=ae0 y;clear kh;walk_at "e"
 have al:=nV true ys;have ll:ys.length<=100000:=W9
 have nn:((n:Int)==(n:Int))=true:=X4
 clear h hk ek n8;subst yl;walk_at "e"
abbrev yL(f:Fm)(ss:List Sd)(D:bu):Prop:=Dt (bW f.n.length) (bJ f.n.length) bP (cN f ss) f.n.length D
def dh8(n:Nat)(D:bu)(s:Sd):Prop:=D (pN n (yU s))<=D (pN n (.int (fst s)))+(0-s.lo)/\∀h,s.hi=some h->D (pN n (.int (fst s)))<=D (pN n (yU s))+h
def dq7(f:Fm)(D:bu):Prop:=∀j,j<f.n.length->D j<=D f.n.length+(f.a+f.s)/\D f.n.length<=D j+(0-f.a)
def ca1(f:Fm)(ss:List Sd)(D:bu):yL f ss D↔D f.n.length=0/\(∀s∈ss,dh8 f.n.length D s)/\dq7 f D:=by
 constructor
 . rintro⟨h0,h⟩;refine⟨h0,λs hs=>?_,λj hj=>?_⟩
   . obtain⟨k,hk,e⟩:=S9.mp hs;have inn:∀t∈st s (k:Int),t∈cN f ss:=λt ht=>by refine D9 _ (L7.mpr ⟨k,F9.mpr hk,?_⟩);unfold ah3;rw[A6 hk,e];exact ht
     refine⟨h (.tup [.int (fst s),yU s,.int (0-s.lo),.int k]) (inn _ ?_),λx hx=>h (.tup [yU s,.int (fst s),.int x,.int k]) (inn _ ?_)⟩
     . unfold st;exact C6 _ (C5.mpr rfl)
     . unfold st;rw[hx];exact D9 _ (C5.mpr rfl)
   . have inn:∀t∈sp f (j:Int),t∈cN f ss:=λt ht=>C6 _ (L7.mpr ⟨j,F9.mpr hj,ht⟩);have h1:=h (.tup [.non,.int j,.int (f.a+f.s),.non]) (inn _ (by simp[sp]));have h2:=h (.tup [.int j,.non,.int (0-f.a),.non]) (inn _ (by simp[sp]));simp only[bJ,bW,bP,pN,Int.toNat_natCast]at h1 h2;exact⟨h1,h2⟩
 . rintro⟨h0,h1,h2⟩;refine⟨h0,λt ht=>?_⟩;rcases A9.mp ht with ht|ht
   . obtain⟨k,hk,q⟩:=L7.mp ht;unfold ah3 at q;split at q
     . next s es=>
       obtain⟨a1,a2⟩:=h1 s (D4 es);unfold st at q;rcases A9.mp q with q|q
       . split at q
         . next x hx=>rw[C5.mp q];exact a2 x hx
         . cases q
       . rw[C5.mp q];exact a1
     . cases q
   . obtain⟨k,hk,q⟩:=L7.mp ht;obtain⟨b1,b2⟩:=h2 k (F9.mp hk);simp only[sp,C4,J3,O6]at q;rcases q with rfl|rfl
     . simp only[bJ,bW,bP,pN,Int.toNat_natCast];exact b1
     . simp only[bJ,bW,bP,pN,Int.toNat_natCast];exact b2
def ey2:∀D,yL f ss D->∀j,j<=f.n.length->gy (Y0 f) j<=D j:=λD h j hj=>by
 obtain⟨h0,_,h2⟩:=(ca1 f ss D).mp h;unfold gy Y0;by_cases e:j<f.n.length
 . rw[A8,N0 (by simpa using e),O9,E3 e];have:=(h2 j e).2;show f.a-1<=D j;omega
 . have:j=f.n.length:=W9
   subst this;rw[A8,K5 X4,h0];simp
def fb4(f:Fm):gy (Y0 f) f.n.length=0:=by unfold gy Y0;rw[A8,K5 X4];simp
def dl8{f:Fm}{ss:List Sd}{j:Nat}(hj:j<f.n.length):(T.tup [.non,.int j,.int (f.a+f.s),.non])∈cN f ss/\(T.tup [.int j,.non,.int (0-f.a),.non])∈cN f ss:=by have inn:∀t∈sp f (j:Int),t∈cN f ss:=λt ht=>C6 _ (L7.mpr ⟨j,F9.mpr hj,ht⟩);exact⟨inn _ (by simp[sp]),inn _ (by simp[sp])⟩
def ee0{f:Fm}{ss:List Sd}{M:am}(tb:Tb f.n.length M)(h:∀a b,a<=f.n.length->b<=f.n.length->en M a b=if a=b then 0 else if a=f.n.length then f.a+f.s else if b=f.n.length then 0-f.a else f.a+f.s-f.a):sE f.n.length (cN f ss) M:=by
 refine⟨tb,λa b ha hb=>?_⟩;rw[h a b ha hb];have up:∀j,j<f.n.length->Wk (bW f.n.length) (bJ f.n.length) bP (cN f ss) (f.n.length+1) f.n.length j (f.a+f.s):=λj hj=>by have:=Wk.step (src:=bW f.n.length) (dst:=bJ f.n.length) (cst:=bP) (k:=f.n.length+1) _ (dl8 (ss:=ss) hj).1;simpa[bW,bJ,bP,pN]using this
 have down:∀j,j<f.n.length->Wk (bW f.n.length) (bJ f.n.length) bP (cN f ss) (f.n.length+1) j f.n.length (0-f.a):=λj hj=>by have:=Wk.step (src:=bW f.n.length) (dst:=bJ f.n.length) (cst:=bP) (k:=f.n.length+1) _ (dl8 (ss:=ss) hj).2;simpa[bW,bJ,bP,pN]using this
 by_cases e:a=b
 . rw[E3 e,e];exact .nil b
 . rw[D7 e];by_cases e1:a=f.n.length
   . rw[E3 e1,e1];exact up b W9
   . rw[D7 e1];by_cases e2:b=f.n.length
     . rw[E3 e2,e2];exact down a W9
     . rw[D7 e2,show f.a+f.s-f.a=0-f.a+(f.a+f.s) by omega];exact .join W9 (down a W9) (up b W9)
def dz5(hz:frzs ts=ts)(no:bB ts=true)(e:jM [bT false f,.lst false ts]=.ok (.tup [.str w,.lst true xs]))(cx:dD xs=true)(q:(w=="ring")=false):oZ [bT false f,.lst false ts]=.ok .non:=by unfold oZ oX;have za:=gE false f;have na:=eY f;have b0:=@jN T;walk_at "e"
def cx5(g:Gd f)(h:∀s∈ss,SdOk f s)(e:jM [bT false f,.lst false (cN f ss)]=.ok (.tup [.str w,.lst true xs]))(cx:dD xs=true)(q:(w=="ring")=false)(hD:yL f ss D):
 ∃M,wO [bT false f,.lst false (cN f ss)]=.ok (tM true M)/\sE f.n.length (cN f ss) M/\Bd (bW f.n.length) (bJ f.n.length) bP (cN f ss) f.n.length M (f.n.length+1):=by
 have aS:=uC h;have hz:frzs (cN f ss)=cN f ss:=kJ (oI f ss);have no:=gO λt ht=>(aS t ht).st;have er:=dz5 hz no e cx q;have za:=gE false f;have na:=eY f;obtain⟨M0,e0,tb0,v0⟩:=ef8 g;have tw0:=ee0 (ss:=ss) tb0 v0;obtain⟨M1,p4,p5,p6,l0,tw1,bd1⟩:=eh9 aS tw0 (λa ha=>by rw[v0 a a ha ha,E3 rfl];omega) (some (bT false f)) (some (.lst false (cN f ss))) none none none none;obtain⟨M2,r5,r6,r7,l1,tw2,bd2⟩:=fk0 g.n8 hD.2 tw1 bd1 (some (bT false f)) (some (.lst false (cN f ss))) p4 p5 p6 none;refine⟨M2,?_,tw2,bd2⟩;unfold wO xE;have fl:=jZ false f;have n8:=g.n8;have lnames:cY [.lst false (f.n.map T.str)]=.ok (.int f.n.length):=by rw[nZ];simp only[C3]
 have rg1:eZ [.int ((f.n.length:Int)+1)]=.ok (cK 0 (f.n.length+1)):=by rw[pV,eO ⟨W9,W9⟩];congr
 have c0:=uL M0;have c2:=uL M2;clear aS q e cx h g tb0 v0 tw0 tw1 bd1 tw2 bd2 hD n8;generalize cN f ss=S at*;walk_at "e"
section
variable{α:Type}{src dst:α->Nat}{cst:α->Int}{ts:List α}{n l:Nat}{M:am}{D:bu}{y:Int}
def bs(M:am)(n l:Nat)(y:Int)(i:Nat):Int:=ag5 [y-en M i l,0-en M i n]
theorem bo7(i:Nat):bs M n l y i=if 0-en M i n>y-en M i l then 0-en M i n else y-en M i l:=rfl
def fy0(hb:∀t∈ts,src t<=n/\dst t<=n)(h:Tw src dst cst ts n M)(hB:Bd src dst cst ts n M (n+1))(z:∀i,i<=n->en M i i=0)(hl:l<=n)(h1:0-en M l n<=y)(h2:y<=en M n l):
 bs M n l y n=0/\bs M n l y l=y/\∀t∈ts,bs M n l y (dst t)<=bs M n l y (src t)+cst t:=by
 have zn:=z n (C9 _);have zl:=z l hl;have tri:∀t∈ts,∀x,x<=n->en M (src t) x<=cst t+en M (dst t) x:=λt ht x hx=>hB _ _ _ (hb t ht).1 hx (.join (by have:=(hb t ht).2;omega) (.step t ht) (h.wk _ _ (hb t ht).2 hx));have en0:bs M n l y n=0:=by rw[bo7,zn];split<;>omega
 have enl:bs M n l y l=y:=by rw[bo7,zl];split<;>omega
 refine⟨en0,enl,λt ht=>?_⟩;have t1:=tri t ht l hl;have t2:=tri t ht n (C9 _);rw[bo7,bo7];split<;>split<;>omega
end
def wK(M:am)(n l:Nat)(y:Int):List Int:=(List.range n).map (bs M n l y)
def fk4(M:am)(n l:Nat)(y:Int):(wK M n l y).length=n:=by unfold wK;rw[C3,K6]
def es3{i:Nat}(h:i<n):gy (wK M n l y) i=bs M n l y i:=by unfold gy wK;rw[A8,C8,G7 h];rfl
theorem ek8(o:Bool)(M:am):frz (tM o M)=tM false M:=by
 unfold tM;simp only[frz];congr 1;induction M with
 |nil=>rfl
 |cons r M ih=>simp only[C7,frzs,frz,gK,ih]
def bh3{row:ah}{n l:Nat}(hr:row.length=n+1)(hl:l<=n)(y:Int):
 kH [.lst false (row.map .int),.lst false [.tup [.int (l:Int),.int y],.tup [.int (n:Int),.int 0]]]=.ok (.int (ag5 [y-gy row l,0-gy row n])):=by
 unfold kH pH;have a1:=pL (Y:=row) (i:=l) W9;have a2:=pL (Y:=row) (i:=n) W9;have hc:cC (eX Af6) bY (aE cV (aB 3) Aj3) [some (.lst false (row.map .int)),some (.lst false [.tup [.int (l:Int),.int y],.tup [.int (n:Int),.int 0]]),none,none] [.tup [.int (l:Int),.int y],.tup [.int (n:Int),.int 0]]=.ok [.int (y-gy row l),.int (0-gy row n)]:=by simp only[cC];walk_at "e"
 have mx:tI [.lst true [.int (y-gy row l),.int (0-gy row n)]]=.ok (.int (ag5 [y-gy row l,0-gy row n])):=dx7 true (y-gy row l) [0-gy row n];have l2:(2:Nat)<=100000:=X5
 clear a1 a2 hr hl;generalize ag5 [y-gy row l,0-gy row n]=Q at*;generalize y-gy row l=A at*;generalize 0-gy row n=B at*;walk_at "e"
def ew3(o:Bool)(tb:Tb n M):cY [tM o M]=.ok (.int ((n+1:Nat):Int)):=by unfold tM;rw[nZ,C3,tb.1]
def am6{n l:Nat}{M:am}(tb:Tb n M)(n8:n<=8)(hl:l<=n)(y:Int):
 mE [tM false M,.lst false [.tup [.int (l:Int),.int y]]]=.ok (.lst true ((wK M n l y).map .int)):=by
 unfold mE mC;have lm:=ew3 false tb;have en:((n+1:Nat):Int)-1=(n:Int):=W9
 have rg:eZ [.int (n:Int)]=.ok (cK 0 n):=by rw[pV,eO ⟨W9,W9⟩];congr
 have z1:(2:Nat)<=sizeLine:=by have:=F8;omega
 have hc:∀x1 x2:Option T,cC (aI 4) bY (aW 2 kH Ak2) [some (tM false M),x1,x2,some (.lst true [.tup [.int (l:Int),.int y],.tup [.int (n:Int),.int 0]]),none] (cK 0 n)=.ok ((wK M n l y).map .int):=λx1 x2=>by
  have:=cX (k:=4) (d:=aW 2 kH Ak2) (U:=[some (tM false M),x1,x2,some (.lst true [.tup [.int (l:Int),.int y],.tup [.int (n:Int),.int 0]]),none]) (g:=λi:Nat=>T.int (0+(i:Int))) (f:=λi:Nat=>T.int (bs M n l y i)) (l:=List.range n) λi hi=>by have hi:i<n:=F9.mp hi;have ix:=dd8 false (M:=M) (i:=i) (by have:=tb.1;omega);have kb:=bh3 (row:=M.getD i []) (tb.2 i W9) hl y;have zr:=gK (M.getD i []);simp only[M7];show _=Res.ok (T.int (ag5 [y-gy (M.getD i []) l,0-gy (M.getD i []) n]));generalize M.getD i []=R at*;clear lm en rg z1;walk_at "e"
  unfold cK wK;rw[this,J4];rfl
 have nn:(1:Nat)+1=2:=rfl;have li:(cK 0 n).length<=sizeLine:=by rw[cI];have:=F8;omega
 have ci:=gB (wK M n l y);generalize(wK M n l y).map T.int=YY at*;walk_at "e"
def iF(M:am)(n i:Nat):T:=.tup [.int (0-en M i n),.int (en M n i)]
def xI{f:Fm}(g:Gd f){os:aw}(zo:frzs os=os)(no:bB os=true){M:am}(tb:Tb f.n.length M)(kl:fZ [bT false f,.lst false os]=.ok (tM true M)):
 nC [bT false f,.lst false os]=.ok (.lst true ((List.range f.n.length).map (iF M f.n.length))):=by
 unfold nC wT;have n8:=g.n8;have za:=gE false f;have na:=eY f;have fl:=jZ false f;have lnames:cY [.lst false (f.n.map T.str)]=.ok (.int f.n.length):=by rw[nZ];simp only[C3]
 have rg:eZ [.int (f.n.length:Int)]=.ok (cK 0 f.n.length):=by rw[pV,eO ⟨W9,W9⟩];congr
 have cM:=uL M;have hc:∀x0 x1:Option T,cC (aI 4) bY Ai2 [x0,x1,some (tM true M),some (.int f.n.length),none] (cK 0 f.n.length)=.ok ((List.range f.n.length).map (iF M f.n.length)):=λx0 x1=>by refine cX (g:=λi:Nat=>T.int (0+(i:Int))) λi hi=>?_;have hi:i<f.n.length:=F9.mp hi;obtain⟨p1,p2⟩:=sC tb (show i<=f.n.length by omega) (C9 f.n.length);obtain⟨p3,p4⟩:=sC tb (C9 f.n.length) (show i<=f.n.length by omega);simp only[M7,iF];generalize M.getD i []=R at*;generalize M.getD f.n.length []=R' at*;generalize en M i f.n.length=E1 at*;generalize en M f.n.length i=E2 at*;generalize f.n.length=N at*;clear g kl cM rg lnames fl na za zo no tb n8;walk_at "e"
 have li:(cK 0 f.n.length).length<=sizeLine:=by rw[cI];have:=F8;omega
 clear g tb;generalize(List.range f.n.length).map (iF M f.n.length)=YY at*;walk_at "e"
def bk6{f:Fm}(g:Gd f){os:aw}(zo:frzs os=os)(no:bB os=true){M:am}(tb:Tb f.n.length M)(kl:fZ [bT false f,.lst false os]=.ok (tM true M)){l:Nat}(hl:l<f.n.length)(y:Int)(c:0-en M l f.n.length<=y/\y<=en M f.n.length l):
 kX [bT false f,.lst false os,.int (l:Int),.int y]=.ok (.lst true ((wK M f.n.length l y).map .int)):=by
 unfold kX qX;have n8:=g.n8;have za:=gE false f;have na:=eY f;have fl:=jZ false f;have lnames:cY [.lst false (f.n.map T.str)]=.ok (.int f.n.length):=by rw[nZ];simp only[C3]
 have cM:=uL M;have fM:=ek8 true M;have kb:=am6 tb n8 (Nat.le_of_lt hl) y;have cy:=gB (wK M f.n.length l y);obtain⟨p1,p2⟩:=sC tb (show l<=f.n.length by omega) (C9 f.n.length);obtain⟨p3,p4⟩:=sC tb (C9 f.n.length) (show l<=f.n.length by omega);generalize(wK M f.n.length l y).map T.int=YY at*;generalize M.getD l []=R at*;generalize M.getD f.n.length []=R' at*;generalize en M l f.n.length=E1 at*;generalize en M f.n.length l=E2 at*;clear g tb n8 hl;have t1:decide (0-E1<=y)=true:=F7 c.1;have t2:decide (y<=E2)=true:=F7 c.2;clear c;walk_at "e"
def Dk(n:Nat)(ts:aw)(ys:ah):Prop:=ys.length=n/\∀t∈ts,Kp (bW n) (bJ n) bP (ys++[0]) t
def gM(n:Nat)(D:bu):List Int:=(List.range n).map D
def xS(n:Nat)(D:bu):(gM n D).length=n:=by unfold gM;rw[C3,K6]
def dk1{D:bu}(h0:D n=0)(h:i<=n):gy (gM n D++[0]) i=D i:=by
 unfold gy;rw[A8];by_cases q:i<n
 . rw[N0 (by rw[xS];exact q)];unfold gM;rw[C8,G7 q];rfl
 . have:i=n:=W9
   rw[K5 (by rw[xS];omega),xS,this,Nat.sub_self,h0];rfl
def eq8{D:bu}(h:i<n):gy (gM n D) i=D i:=by unfold gy gM;rw[A8,C8,G7 h];rfl
def ag4{D:bu}(h:∀t∈ts,StepN n t)(h0:D n=0)(hD:∀t∈ts,D (bJ n t)<=D (bW n t)+bP t):Dk n ts (gM n D):=
 ⟨xS n D,λt ht=>by have b:=yP (h t ht);show gy _ _<=gy _ _+_;rw[dk1 h0 b.1,dk1 h0 b.2];exact hD t ht⟩
def pot(ys:ah)(i:Nat):Int:=gy (ys++[0]) i
def ax8(h:ys.length=n):pot ys n=0:=by unfold pot gy;rw[A8,K5 W9,h,Nat.sub_self];rfl
def bn7(h:i<ys.length):pot ys i=gy ys i:=by unfold pot gy;rw[A8,N0 h,A8]
def aq0(a b:Int):Int:=if b<a then b else a
def vP(a b:Int):Int:=if b>a then b else a
def dx0(h:∀t∈ts,StepN n t)(ha:Dk n ts xs)(hb:Dk n ts zs):Dk n ts (gM n λi=>aq0 (pot xs i) (pot zs i)):=
 ag4 h (by show aq0 (pot xs n) (pot zs n)=0;rw[ax8 ha.1,ax8 hb.1];rfl) λt ht=>by have p:=ha.2 t ht;have q:=hb.2 t ht;simp only[Kp]at p q;show aq0 (gy _ _) (gy _ _)<=aq0 (gy _ _) (gy _ _)+_;unfold aq0;split<;>split<;>omega
def cv4(h:∀t∈ts,StepN n t)(ha:Dk n ts xs)(hb:Dk n ts zs):Dk n ts (gM n λi=>vP (pot xs i) (pot zs i)):=
 ag4 h (by show vP (pot xs n) (pot zs n)=0;rw[ax8 ha.1,ax8 hb.1];rfl) λt ht=>by have p:=ha.2 t ht;have q:=hb.2 t ht;simp only[Kp]at p q;show vP (gy _ _) (gy _ _)<=vP (gy _ _) (gy _ _)+_;unfold vP;split<;>split<;>omega
def ac8(h:∀u∈ts,StepN n u)(n8:n<=8)(hd:Dk n ts ys):gF [.lst false (ys.map .int),.int (n:Int),.lst false ts]=.ok (.bl true):=
 bu9 h hd.1 n8 λt ht=>by have:=dv9 (Y:=ys++[0]) (by rw[E7,hd.1];rfl) (ax8 hd.1) (h t ht) (hd.2 t ht);rwa[List.take_left' hd.1]at this
def ct6(x:Int):lG [.int x]=.ok (.bl true):=by unfold lG tW;walk_at "e"
def es0{f:Fm}(g:Gd f){ss:List Sd}(h:∀s∈ss,SdOk f s)(hl:ss.length<=1000)(hd:Dk f.n.length (cN f ss) ys):xQ [bT false f,.lst false (ss.map (eR false f)),.lst false (ys.map .int)]=.ok (.bl true):=by
 unfold xQ ai6;have fl:=jZ false f;have za:=gE false f;have na:=eY f;have zo:=oQ false f ss;have no:=jD f ss;have aS:=uC h;have aT:=oI f ss;have zS:=kJ aT;have nS:=gO aT;have cS:=oM aT;have lS:=ed2 g hl;have n8:=g.n8;have yl:=hd.1;have al:=nV true ys;have ak:=nV true (cN f ss);have ll:ys.length<=100000:=W9
 have lz:ys.length+1<=sizeLine:=by have:=F8;omega
 have lS2:(cN f ss).length<=100000:=W9
 have t1:(!((ys.length:Int)==(f.n.length:Int)))=false:=by simp[yl]
 have hc1:cC (aI 4) bY (aW 1 lG (aD (aB 4) aH)) [some (bT false f),some (.lst false (ss.map (eR false f))),some (.lst false (ys.map .int)),none,none,none] (ys.map .int)=.ok (ys.map λ_=>T.bl true):=by refine cX λy _=>?_;have kw:=ct6 y;clear aS aT hd al ak;walk_at "e"
 have hc2:cC (aI 5) bY (aW 2 oK (aD (aB 5) (aD (aB 3) aH))) [some (bT false f),some (.lst false (ss.map (eR false f))),some (.lst false (ys.map .int)),some (.lst true (ys.map T.int++[.int 0])),none,none] (cN f ss)=.ok ((cN f ss).map λ_=>T.bl true):=by
  have q:=cX (k:=5) (d:=(aW 2 oK (aD (aB 5) (aD (aB 3) aH)))) (U:=[some (bT false f),some (.lst false (ss.map (eR false f))),some (.lst false (ys.map .int)),some (.lst true (ys.map T.int++[.int 0])),none,none]) (g:=id) (f:=λ_=>T.bl true) (l:=cN f ss) (λt ht=>by
   have kk:=ca9 (Y:=ys++[0]) (by rw[E7,yl];rfl) (aS t ht);rw[F7 (hd.2 t ht),J1]at kk;obtain⟨n1,c1,z1⟩:=kC (aT t ht);have zy:frzs (ys.map T.int++[T.int 0])=ys.map T.int++[T.int 0]:=by have:=gK (ys++[0]);rwa[J1]at this
   simp only[id,C7,L3]at kk⊢;clear aS aT hc1 ht hd al ak;walk_at "e")
  rwa[List.map_id]at q
 have k:=bs0 g h hl;clear aS aT h g hl yl lS hd n8;walk_at "e"
def iP(o:Bool)(Ls:am):List T:=Ls.map λys=>.lst o (ys.map .int)
def az5(o:Bool)(Ls:am):(iP o Ls).length=Ls.length:=C3 _
theorem dt9(o:Bool)(Ls:am):frzs (iP o Ls)=iP false Ls:=by
 unfold iP;induction Ls with
 |nil=>rfl
 |cons r M ih=>simp only[C7,frzs,frz,gK,ih]
theorem dw0(Ls:am):bB (iP false Ls)=true:=by
 unfold iP;induction Ls with
 |nil=>rfl
 |cons r M ih=>simp only[C7,bB,cP,jC,ih,P7,H0]
theorem bn4(Ls:am):dD (iP true Ls)=true:=by
 unfold iP;induction Ls with
 |nil=>rfl
 |cons r M ih=>simp only[C7,dD,cT,gB,ih,H0]
def by9(M:am){n l:Nat}(h:l<n):atI ((List.range n).map (iF M n)) (l:Int)=some (.tup [.int (0-en M l n),.int (en M n l)]):=by unfold L2.atI;rw[C3,K6,xR h];show((List.range n).map (iF M n))[l]?=_;rw[C8,G7 h];rfl
abbrev zI:Fr->bS:=(aP Ah0
 (jX 4 [] dH (aW 4 kX (aD (aB 0) (aD (aB 1) (aD (aB 5) (aD (aB 9) aH)))))))
def ek1{ar os sp:T}{c lo hi:Int}{l:Nat}{mk:Int->List Int}(le:lo<=hi)(na:cP ar=true)(za:frz ar=ar)(no:cP os=true)(zo:frz os=os)
 (kd:∀y,lo<=y->y<=hi->kX [ar,os,.int (l:Int),.int y]=.ok (.lst true ((mk y).map .int)))(Ls:am)(hl:Ls.length<=1000)(m:Nat)(hm:m<=3)(o8 o9:bc):
 ∃Ns p8 p9,dI (aI 8) zI (cK 0 m) [some ar,some os,some sp,some (.int c),some (.lst true (iP true Ls)),some (.int (l:Int)),some (.int lo),some (.int hi),o8,o9]=
  .nx [some ar,some os,some sp,some (.int c),some (.lst true (iP true (Ls++Ns))),some (.int (l:Int)),some (.int lo),some (.int hi),p8,p9]/\Ns.length=m/\∀ys∈Ns,∃y,lo<=y/\y<=hi/\ys=mk y:=by
 generalize hL:dI _ _ _ _=o;obtain⟨ρ',rfl,Ns,o8,o9,rfl,h1,h2⟩:=fL (λj U=>∃(Ns:am)(o8 o9:bc),U=[some ar,some os,some sp,some (.int c),some (.lst true (iP true (Ls++Ns))),some (.int (l:Int)),some (.int lo),some (.int hi),o8,o9]/\Ns.length=j/\∀ys∈Ns,∃y,lo<=y/\y<=hi/\ys=mk y) hL ⟨[],o8,o9,by rw[K8],rfl,X4⟩ (by
  rintro j t U et ⟨Ns,o8,o9,rfl,h1,h2⟩;have hj:j<m:=by have:=(D3.mp et).1;rwa[cI]at this
  obtain rfl:t=.int (0+(j:Int)):=by unfold cK at et;rw[C8,G7 hj]at et;exact(G0 et).symm
  have mo:mulOk (0+(j:Int)) (hi-lo):=.inl ⟨W9,W9⟩;have d2:(0:Int)<hi-lo+1:=W9
  have e0:=G9 (c+(0+(j:Int))*(hi-lo)/2) (Int.ne_of_gt d2);have e1:=J7 (c+(0+(j:Int))*(hi-lo)/2) d2;have kd:=kd (lo+(c+(0+(j:Int))*(hi-lo)/2)%(hi-lo+1)) W9 W9;have ex:iP true (Ls++Ns)++[.lst true ((mk (lo+(c+(0+(j:Int))*(hi-lo)/2)%(hi-lo+1))).map .int)]=iP true (Ls++(Ns++[mk (lo+(c+(0+(j:Int))*(hi-lo)/2)%(hi-lo+1))])):=by unfold iP;simp
  have ll:(iP true (Ls++Ns)).length<sizeLine:=by rw[az5,E7];have:=F8;omega
  have nx:∀ys∈Ns++[mk (lo+(c+(0+(j:Int))*(hi-lo)/2)%(hi-lo+1))],∃y,lo<=y/\y<=hi/\ys=mk y:=λys h=>by
   rcases A9.mp h with h|h
   . exact h2 ys h
   . exact⟨_,W9,W9,C5.mp h⟩
  have ln:(Ns++[mk (lo+(c+(0+(j:Int))*(hi-lo)/2)%(hi-lo+1))]).length=j+1:=by simp[h1]
  clear hL et e0 e1 h2 le hl hm hj h1;generalize Ns++[mk (lo+(c+(0+(j:Int))*(hi-lo)/2)%(hi-lo+1))]=Nx at*;generalize iP true (Ls++Ns)=LL at*;generalize mk (lo+(c+(0+(j:Int))*(hi-lo)/2)%(hi-lo+1))=my at*;walk_at "e";exact⟨Nx,_,_,rfl,ln,nx⟩)
 rw[cI]at h1;exact⟨Ns,o8,o9,rfl,h1,h2⟩
def bc6{f:Fm}(g:Gd f){os:aw}(zo:frzs os=os)(no:bB os=true){M:am}(tb:Tb f.n.length M)(kl:fZ [bT false f,.lst false os]=.ok (tM true M))(le:∀l,l<f.n.length->0-en M l f.n.length<=en M f.n.length l)(c:Int):
 ∃Ls,qP [bT false f,.lst false os,.lst false ((List.range f.n.length).map (iF M f.n.length)),.int c]=.ok (.lst true (iP true Ls))/\1<=Ls.length/\Ls.length<=24/\
  ∀ys∈Ls,∃l y,l<f.n.length/\0-en M l f.n.length<=y/\y<=en M f.n.length l/\ys=wK M f.n.length l y:=by
 have n8:=g.n8;have n1:=g.n1;have na:=eY f;have za:=gE false f;have kd:=λ(l:Nat)(hl:l<f.n.length)(y:Int)(h1:0-en M l f.n.length<=y)(h2:y<=en M f.n.length l)=>bk6 g zo no tb kl hl y ⟨h1,h2⟩;have ls:cY [.lst false ((List.range f.n.length).map (iF M f.n.length))]=.ok (.int f.n.length):=by rw[nZ,C3,K6]
 have rg:eZ [.int (f.n.length:Int)]=.ok (cK 0 f.n.length):=by rw[pV,eO ⟨W9,W9⟩];congr
 have no':cP (.lst false os)=true:=by simp only[cP,no,P7,H0]
 have zo':frz (.lst false os)=.lst false os:=by simp only[frz,zo]
 have lp:∃Ls o5 o6 o7 o8 o9,dI (aI 5) (aP (aY [] (aU (aE aO (aB 2) (aB 5))) Ai5)
  (fR (fP eZ Ak0) (aI 8) zI)) (cK 0 f.n.length)
  [some (bT false f),some (.lst false os),some (.lst false ((List.range f.n.length).map (iF M f.n.length))),some (.int c),some (.lst true []),none,none,none,none,none]=
  .nx [some (bT false f),some (.lst false os),some (.lst false ((List.range f.n.length).map (iF M f.n.length))),some (.int c),some (.lst true (iP true Ls)),o5,o6,o7,o8,o9]/\f.n.length<=Ls.length/\Ls.length<=3*f.n.length/\
  ∀ys∈Ls,∃l y,l<f.n.length/\0-en M l f.n.length<=y/\y<=en M f.n.length l/\ys=wK M f.n.length l y:=by
  generalize hL:dI _ _ _ _=o;obtain⟨ρ',rfl,Ls,o5,o6,o7,o8,o9,rfl,h0,h1,h2⟩:=fL (λj U=>∃(Ls:am)(o5 o6 o7 o8 o9:bc),U=[some (bT false f),some (.lst false os),some (.lst false ((List.range f.n.length).map (iF M f.n.length))),some (.int c),some (.lst true (iP true Ls)),o5,o6,o7,o8,o9]/\j<=Ls.length/\Ls.length<=3*j/\
   ∀ys∈Ls,∃l y,l<f.n.length/\0-en M l f.n.length<=y/\y<=en M f.n.length l/\ys=wK M f.n.length l y) hL ⟨[],none,none,none,none,none,rfl,X4,X4,X4⟩ (by
   rintro j t U et ⟨Ls,o5,o6,o7,o8,o9,rfl,h0,h1,h2⟩;have hj:j<f.n.length:=by have:=(D3.mp et).1;rwa[cI]at this
   obtain rfl:t=.int (j:Int):=by unfold cK at et;rw[C8,G7 hj]at et;exact(G0 et).symm.trans (N1 T.int (M7 _))
   have sx:=by9 M hj;have lej:=le j hj;have kdj:=kd j hj;obtain⟨m,hm,m1,m3⟩:∃m:Nat,(if en M f.n.length j-(0-en M j f.n.length)+1<3 then en M f.n.length j-(0-en M j f.n.length)+1 else 3)=(m:Int)/\1<=m/\m<=3:=by refine⟨(if en M f.n.length j-(0-en M j f.n.length)+1<3 then en M f.n.length j-(0-en M j f.n.length)+1 else 3).toNat,?_,?_,?_⟩<;>split<;>omega
   have rm:eZ [.int (m:Int)]=.ok (cK 0 m):=by rw[pV,eO ⟨W9,W9⟩];congr
   obtain⟨Ns,p8,p9,hI,e3,e4⟩:=ek1 (ar:=bT false f) (os:=.lst false os) (sp:=.lst false ((List.range f.n.length).map (iF M f.n.length))) (c:=c) lej na za no' zo' kdj Ls W9 m m3 o8 o9;have z3:∀ys∈Ls++Ns,∃l y,l<f.n.length/\0-en M l f.n.length<=y/\y<=en M f.n.length l/\ys=wK M f.n.length l y:=λys h=>by
    rcases A9.mp h with h|h
    . exact h2 ys h
    . obtain⟨y,a,b,e⟩:=e4 ys h;exact⟨j,y,hj,a,b,e⟩
   have z1:j+1<=(Ls++Ns).length:=by rw[E7];omega
   have z2:(Ls++Ns).length<=3*(j+1):=by rw[E7];omega
   clear hL et h0 h1 h2 e3 e4 kd kdj le lej kl tb g m1 m3 hj n8 n1 rg ls;generalize 0-en M j f.n.length=lo at*;generalize en M f.n.length j=hi at*;walk_at "e";exact⟨_,_,_,_,_,_,rfl,z1,z2,z3⟩)
  rw[cI]at h0 h1;exact⟨Ls,o5,o6,o7,o8,o9,rfl,h0,h1,h2⟩
 obtain⟨Ls,o5,o6,o7,o8,o9,lp,h0,h1,h2⟩:=lp;refine⟨Ls,?_,W9,W9,h2⟩;unfold qP rC;have cL:=bn4 Ls;have li:(cK 0 f.n.length).length<=sizeLine:=by rw[cI];have:=F8;omega
 clear kd le kl tb g h0 h1 h2 n8 n1;generalize iP true Ls=LL at*;generalize(List.range f.n.length).map (iF M f.n.length)=SP at*;walk_at "e"
def dw7(o:Bool){Ls:am}{k:Nat}(h:k<Ls.length):atI (iP o Ls) (k:Int)=some (.lst o ((Ls.getD k []).map .int)):=by unfold L2.atI;rw[az5,xR h];show(iP o Ls)[k]?=_;unfold iP;rw[C8,A6 h,A8,A6 h];rfl
def cc9{Ls:am}{k:Nat}(h:k<Ls.length):Ls.getD k []∈Ls:=by rw[A8,A6 h];exact K3 h
def bl2{f:Fm}(g:Gd f){ss:List Sd}(h:∀s∈ss,SdOk f s)(hl:ss.length<=1000){Ls:am}(l1:1<=Ls.length)(l2:Ls.length<=24)(hd:∀ys∈Ls,Dk f.n.length (cN f ss) ys):
 pO [bT false f,.lst false (ss.map (eR false f)),.lst false (iP false Ls),.int f.n.length,.lst false (cN f ss)]=.ok (.bl true):=by
 have n8:=g.n8;have na:=eY f;have za:=gE false f;have zo:=oQ false f ss;have no:=jD f ss;have aS:=uC h;have aT:=oI f ss;have zS:=kJ aT;have nS:=gO aT;have kt:=λys (q:Dk f.n.length (cN f ss) ys)=>ac8 aS n8 q;have kh:=λys (q:Dk f.n.length (cN f ss) ys)=>es0 g h hl q;have nL:=dw0 Ls;have ll:cY [.lst false (iP false Ls)]=.ok (.int Ls.length):=by rw[nZ,az5]
 have rg:eZ [.int (Ls.length:Int)]=.ok (cK 0 Ls.length):=by rw[pV,eO ⟨W9,W9⟩];congr
 have rn:eZ [.int (f.n.length:Int)]=.ok (cK 0 f.n.length):=by rw[pV,eO ⟨W9,W9⟩];congr
 unfold pO oY;have li:(cK 0 Ls.length).length<=sizeLine:=by rw[cI];have:=F8;omega
 have ln:(cK 0 f.n.length).length<=sizeLine:=by rw[cI];have:=F8;omega
 walk_at "e";generalize hL:dI _ _ _ _=o;obtain⟨ρ',rfl,o5,o6,o7,o8,rfl⟩:=fL (λ_ U=>∃o5 o6 o7 o8:Option T,U=[some (bT false f),some (.lst false (ss.map (eR false f))),some (.lst false (iP false Ls)),some (.int f.n.length),some (.lst false (cN f ss)),o5,o6,o7,o8,none]) hL ⟨none,none,none,none,rfl⟩ (by
  rintro j t U et ⟨o5,o6,o7,o8,rfl⟩;have hj:j<Ls.length:=by have:=(D3.mp et).1;rwa[cI]at this
  obtain rfl:t=.int (j:Int):=by unfold cK at et;rw[C8,G7 hj]at et;exact(G0 et).symm.trans (N1 T.int (M7 _))
  have l0:(0:Int)<(Ls.length:Int):=W9
  obtain⟨k,ek⟩:=Int.eq_ofNat_of_zero_le (G9 (7*(j:Int)+3) (Int.ne_of_gt l0));have hk:k<Ls.length:=by have:=J7 (7*(j:Int)+3) l0;omega
  have ek:(7*(j:Int)+3)%(Ls.length:Int)=(k:Int):=ek;have a1:=dw7 false hj;have a2:=dw7 false hk;have dj:=hd _ (cc9 hj);have dk:=hd _ (cc9 hk);generalize Ls.getD j []=Yj at*;generalize Ls.getD k []=Yk at*;have ky:=kt _ dj;have hy:=kh _ dj;have kl:=kt _ (dx0 aS dj dk);have hl':=kh _ (dx0 aS dj dk);have kg:=kt _ (cv4 aS dj dk);have hg:=kh _ (cv4 aS dj dk);have yl:=dj.1;have yk:=dk.1;have zj:=gK Yj;have zk:=gK Yk;have nj:=jC Yj;have nk:=jC Yk;have c1:∀x0 x1 x3 x4 x7 x8:Option T,cC (aI 9) bY (bU kM Ag4) [x0,x1,some (.lst false (iP false Ls)),x3,x4,some (.int (j:Int)),some (.lst false (Yk.map .int)),x7,x8,none] (cK 0 f.n.length)=.ok ((gM f.n.length λi=>aq0 (pot Yj i) (pot Yk i)).map .int):=λx0 x1 x3 x4 x7 x8=>by unfold gM;rw[J4];refine cX (g:=λi:Nat=>T.int (0+(i:Int))) (f:=λi=>T.int (aq0 (pot Yj i) (pot Yk i))) λi hi=>?_;have hi:i<f.n.length:=F9.mp hi;have p1:=pL (Y:=Yj) (i:=i) W9;have p2:=pL (Y:=Yk) (i:=i) W9;rw[bn7 W9,bn7 W9];simp only[M7,aq0];clear hL et ky hy kl hl' kg hg kt kh hd dj dk aS aT;generalize gy Yj i=A at*;generalize gy Yk i=B at*;walk_at "e"
  have c2:∀x0 x1 x3 x4 x7 x8:Option T,cC (aI 9) bY (bU tI Ag4) [x0,x1,some (.lst false (iP false Ls)),x3,x4,some (.int (j:Int)),some (.lst false (Yk.map .int)),x7,x8,none] (cK 0 f.n.length)=.ok ((gM f.n.length λi=>vP (pot Yj i) (pot Yk i)).map .int):=λx0 x1 x3 x4 x7 x8=>by unfold gM;rw[J4];refine cX (g:=λi:Nat=>T.int (0+(i:Int))) (f:=λi=>T.int (vP (pot Yj i) (pot Yk i))) λi hi=>?_;have hi:i<f.n.length:=F9.mp hi;have p1:=pL (Y:=Yj) (i:=i) W9;have p2:=pL (Y:=Yk) (i:=i) W9;rw[bn7 W9,bn7 W9];simp only[M7,vP];clear hL et ky hy kl hl' kg hg kt kh hd dj dk aS aT c1;generalize gy Yj i=A at*;generalize gy Yk i=B at*;walk_at "e"
  have z1:=gK (gM f.n.length λi=>aq0 (pot Yj i) (pot Yk i));have z2:=gK (gM f.n.length λi=>vP (pot Yj i) (pot Yk i));clear hL et kt kh hd dj dk aS aT yl yk l1 l2 h g hl n8;generalize(gM f.n.length λi=>aq0 (pot Yj i) (pot Yk i)).map T.int=YA at*;generalize(gM f.n.length λi=>vP (pot Yj i) (pot Yk i)).map T.int=YB at*;generalize Yj.map T.int=YJ at*;generalize Yk.map T.int=YK at*;walk_at "e";exact⟨_,_,_,_,rfl⟩)
 walk_at "e"
theorem wA(M:am)(n:Nat):dD ((List.range n).map (iF M n))=true/\bB ((List.range n).map (iF M n))=true/\frzs ((List.range n).map (iF M n))=(List.range n).map (iF M n):=by
 generalize List.range n=Z;induction Z with
 |nil=>exact⟨rfl,rfl,rfl⟩
 |cons x Z ih=>exact⟨by simp only[C7,iF,dD,cT,ih.1,H0],by simp only[C7,iF,bB,cP,ih.2.1,H0],by simp only[C7,iF,frzs,frz,ih.2.2]⟩
section
variable{f:Fm}{os:aw}{M:am}
def cg7(g:Gd f)(zo:frzs os=os)(no:bB os=true)(tb:Tb f.n.length M)(kl:fZ [bT false f,.lst false os]=.ok (tM true M)):
 wU [bT false f,.lst false os]=.ok (.lst true ((gM f.n.length λi=>0-en M i f.n.length).map .int)):=by
 unfold wU wV;have n8:=g.n8;have za:=gE false f;have na:=eY f;have ky:=xI g zo no tb kl;obtain⟨cs,ns,zs⟩:=wA M f.n.length;have hc:∀x0 x1:Option T,cC (eX Af6) bY (aU (aB 2)) [x0,x1,none,none] ((List.range f.n.length).map (iF M f.n.length))=.ok ((gM f.n.length λi=>0-en M i f.n.length).map .int):=λx0 x1=>by unfold gM;rw[J4];refine lC (f:=λi=>T.int (0-en M i f.n.length)) λi _=>?_;simp only[iF];clear ky cs ns zs kl tb g;generalize 0-en M i f.n.length=A;generalize en M f.n.length i=B;walk_at "e"
 have cy:=gB (gM f.n.length λi=>0-en M i f.n.length);have li:((List.range f.n.length).map (iF M f.n.length)).length<=100000:=by rw[C3,K6];omega
 have li2:((List.range f.n.length).map (iF M f.n.length)).length<=sizeLine:=by have:=F8;omega
 clear kl tb g;generalize(List.range f.n.length).map (iF M f.n.length)=SP at*;generalize(gM f.n.length λi=>0-en M i f.n.length).map T.int=YY at*;walk_at "e"
def dm2(g:Gd f)(zo:frzs os=os)(no:bB os=true)(tb:Tb f.n.length M)(kl:fZ [bT false f,.lst false os]=.ok (tM true M)):
 ax2 [bT false f,.lst false os]=.ok (.lst true ((gM f.n.length λi=>en M f.n.length i).map .int)):=by
 unfold ax2 aw2;have n8:=g.n8;have za:=gE false f;have na:=eY f;have ky:=xI g zo no tb kl;obtain⟨cs,ns,zs⟩:=wA M f.n.length;have hc:∀x0 x1:Option T,cC (eX Af6) bY (aU (aB 3)) [x0,x1,none,none] ((List.range f.n.length).map (iF M f.n.length))=.ok ((gM f.n.length λi=>en M f.n.length i).map .int):=λx0 x1=>by unfold gM;rw[J4];refine lC (f:=λi=>T.int (en M f.n.length i)) λi _=>?_;simp only[iF];clear ky cs ns zs kl tb g;generalize 0-en M i f.n.length=A;generalize en M f.n.length i=B;walk_at "e"
 have cy:=gB (gM f.n.length λi=>en M f.n.length i);have li:((List.range f.n.length).map (iF M f.n.length)).length<=100000:=by rw[C3,K6];omega
 have li2:((List.range f.n.length).map (iF M f.n.length)).length<=sizeLine:=by have:=F8;omega
 clear kl tb g;generalize(List.range f.n.length).map (iF M f.n.length)=SP at*;generalize(gM f.n.length λi=>en M f.n.length i).map T.int=YY at*;walk_at "e"
def dj0{n:Nat}(n8:n<=8){lo hi:bu}{Ls:am}(l2:Ls.length<=24)(h:∀ys∈Ls,ys.length=n/\∀i,i<n->lo i<=gy ys i/\gy ys i<=hi i):
 qU [.lst false ((gM n lo).map .int),.lst false (iP false Ls),.lst false ((gM n hi).map .int)]=.ok (.bl true):=by
 unfold qU qV;have nL:=dw0 Ls;have ll:(iP false Ls).length<=100000:=by rw[az5];omega
 have ll2:(iP false Ls).length<=sizeLine:=by have:=F8;omega
 walk_at "e";generalize hL:dI _ _ _ _=o;obtain⟨ρ',rfl,o3,o4,rfl⟩:=fL (λ_ U=>∃o3 o4:Option T,U=[some (.lst false ((gM n lo).map .int)),some (.lst false (iP false Ls)),some (.lst false ((gM n hi).map .int)),o3,o4]) hL ⟨none,none,rfl⟩ (by
  rintro j t U et ⟨o3,o4,rfl⟩;obtain⟨ys,hy,rfl⟩:=M3.mp (D4 et);obtain⟨yl,hb⟩:=h ys hy;have ln:cY [.lst false (ys.map T.int)]=.ok (.int n):=by rw[nZ,C3,yl]
  have rg:eZ [.int (n:Int)]=.ok (cK 0 n):=by rw[pV,eO ⟨W9,W9⟩];congr
  have li:(cK 0 n).length<=sizeLine:=by rw[cI];have:=F8;omega
  have lp:∃p4,dI (aI 4) Aj1 (cK 0 n) [some (.lst false ((gM n lo).map .int)),some (.lst false (iP false Ls)),some (.lst false ((gM n hi).map .int)),some (.lst false (ys.map .int)),o4]=
   .nx [some (.lst false ((gM n lo).map .int)),some (.lst false (iP false Ls)),some (.lst false ((gM n hi).map .int)),some (.lst false (ys.map .int)),p4]:=by
   generalize hM:dI _ _ _ _=o;obtain⟨ρ',rfl,p4,rfl⟩:=fL (λ_ U=>∃p4:Option T,U=[some (.lst false ((gM n lo).map .int)),some (.lst false (iP false Ls)),some (.lst false ((gM n hi).map .int)),some (.lst false (ys.map .int)),p4]) hM ⟨o4,rfl⟩ (by
    rintro i t U et ⟨p4,rfl⟩;have hi':i<n:=by have:=(D3.mp et).1;rwa[cI]at this
    obtain rfl:t=.int (i:Int):=by unfold cK at et;rw[C8,G7 hi']at et;exact(G0 et).symm.trans (N1 T.int (M7 _))
    have a1:=pL (Y:=gM n lo) (i:=i) (by rw[xS];exact hi');have a2:=pL (Y:=ys) (i:=i) W9;have a3:=pL (Y:=gM n hi) (i:=i) (by rw[xS];exact hi');rw[eq8 hi']at a1 a3;have d1:decide (lo i<=gy ys i)=true:=F7 (hb i hi').1;have d2:decide (gy ys i<=hi i)=true:=F7 (hb i hi').2;clear hM hL et hb h hy;generalize lo i=A at*;generalize gy ys i=B at*;generalize hi i=C at*;walk_at "e";exact⟨_,rfl⟩)
   exact⟨p4,rfl⟩
  obtain⟨p4,lp⟩:=lp;clear hL et hb h hy;walk_at "e";exact⟨_,_,rfl⟩)
 walk_at "e"
end
section
variable{α:Type}{src dst:α->Nat}{cst:α->Int}{ts:List α}{n:Nat}{D:bu}{R:List (Option α)}
theorem bv1(hD:∀t∈ts,D (dst t)<=D (src t)+cst t):∀(k a:Nat),(∀m,m<k->∃t,R[it (nx dst R) m a]?=some (some t)/\t∈ts/\src t=it (nx dst R) m a)->D (it (nx dst R) k a)<=D a+cs dst cst R k a
 |0,a,_=>by simp[cs,it]
 |k+1,a,h=>by
  obtain⟨t,et,q1,q2⟩:=h 0 W9;have et:R[a]?=some (some t):=et;have q2:src t=a:=q2;have en:nx dst R a=dst t:=by simp only[nx,et]
  have i1:=bv1 hD k (nx dst R a) (λm hm=>h (m+1) W9);have ec:cs dst cst R (k+1) a=cst t+cs dst cst R k (nx dst R a):=by simp only[cs,et]
  have ei:it (nx dst R) (k+1) a=it (nx dst R) k (nx dst R a):=rfl;have:=hD t q1;rw[ec,ei];rw[en]at*;rw[q2]at this;omega
def Ring.not{a0 P k:Nat}(r:Ring src dst cst ts n R a0 P k)(hD:∀t∈ts,D (dst t)<=D (src t)+cst t):False:=by have:=bv1 hD k P (λm _=>r.df m);rw[r.back]at this;have:=r.neg;omega
end
def ec6(o:Bool)(f:Fm):frz (gZ o f)=gZ false f:=by simp only[gZ,frz,frzs,zY,sI,uP]
def da4(f:Fm):cT (gZ true f)=true:=by simp only[gZ,cT,dD,ar0,ab0,am9,H0]
def bc3(g:α->β)(xs:List α)(lo hi:a9):fJ (xs.map g) lo hi=(fJ xs lo hi).map g:=by unfold fJ;rw[C3,U6,List.map_drop]
def aq1(xs:List α)(lo hi:a9):(fJ xs lo hi).length<=xs.length:=by unfold fJ;rw[S6,W0];omega
def cy3(h:x∈fJ xs lo hi):x∈xs:=by unfold fJ at h;exact List.mem_of_mem_drop (O2 h)
theorem dr0(o o':Bool)(xs:aw):fT (.lst o xs) (.lst o' [])=.ok (.bl (xs.length==0)):=by
 cases xs with
 |nil=>rfl
 |cons x xs=>
  have e:tN eN (.lst o (x::xs)) (.lst o' [])=some false:=by unfold eN;rw[tN,D7 X4]
  unfold fT eqB;rw[E3 ⟨rfl,rfl⟩,e];rfl
section
variable{f:Fm}{ss:List Sd}{M M':am}
def el2(g:Gd f)(hl:ss.length<=1000){a:Int}(c:Int)(ea:ss≠[]->c%(ss.length:Int)=a){A B:List Sd}(hA:fJ ss none (some a)=A)(hB:fJ ss (some (a+1)) none=B)(tb':Tb f.n.length M')
 (kl':fZ [bT false f,.lst false ((A++B).map (eR false f))]=.ok (tM true M'))(le:∀i,i<f.n.length->0-en M' i f.n.length<=0-en M i f.n.length/\en M f.n.length i<=en M' f.n.length i):
 qK [bT false f,.lst false (ss.map (eR false f)),.lst false ((List.range f.n.length).map (iF M f.n.length)),.int c]=.ok (.bl true):=by
 have n8:=g.n8;have na:=eY f;have za:=gE false f;have zo:=oQ false f (A++B);have no:=jD f (A++B);have ky:=xI g zo no tb' kl';have en:=dr0 false true (ss.map (eR false f));rw[C3]at en;unfold qK vQ;by_cases e:ss=[]
 . subst e;have e2:fT (.lst false []) (.lst true [])=.ok (.bl true):=dr0 false true [];clear ky kl' tb' le g en ea hA hB;simp only[L3];walk_at "e"
 . have l0:0<ss.length:=U2.mpr e;have e0:(ss.length==0)=false:=by simp;omega
   rw[e0]at en;have ea:=ea e;have lp:(0:Int)<(ss.length:Int):=W9
   have cA:fJ (ss.map (eR false f)) none (some a)=A.map (eR false f):=by rw[bc3,hA]
   have cB:fJ (ss.map (eR false f)) (some (a+1)) none=B.map (eR false f):=by rw[bc3,hB]
   have lA:A.length<=ss.length:=by rw[<-hA];exact aq1 _ _ _
   have lB:B.length<=ss.length:=by rw[<-hB];exact aq1 _ _ _
   have nss:=jD f ss;have nA:=jD f A;have nB:=jD f B;rw[J1]at zo no ky;have ll:cY [.lst false (ss.map (eR false f))]=.ok (.int ss.length):=by rw[nZ,C3]
   have ls:cY [.lst false ((List.range f.n.length).map (iF M f.n.length))]=.ok (.int f.n.length):=by rw[nZ,C3,K6]
   have rg:eZ [.int (f.n.length:Int)]=.ok (cK 0 f.n.length):=by rw[pV,eO ⟨W9,W9⟩];congr
   have li:(cK 0 f.n.length).length<=sizeLine:=by rw[cI];have:=F8;omega
   have lAB:(A.map (eR false f)).length+(B.map (eR false f)).length<=sizeLine:=by rw[C3,C3];have:=F8;omega
   obtain⟨cs,ns,zs⟩:=wA M' f.n.length;obtain⟨cs0,ns0,zs0⟩:=wA M f.n.length;have b0:=@jN T;have b1:=@iO T;have hc:∀x0 x1 x3 x4:Option T,cC (aI 6) bY Ag6
    [x0,x1,some (.lst false ((List.range f.n.length).map (iF M f.n.length))),x3,x4,some (.lst true ((List.range f.n.length).map (iF M' f.n.length))),none] (cK 0 f.n.length)=.ok ((List.range f.n.length).map λ_=>T.bl true):=λx0 x1 x3 x4=>by
    refine cX (g:=λi:Nat=>T.int (0+(i:Int))) λi hi=>?_;have hi:i<f.n.length:=F9.mp hi;have s1:=by9 M hi;have s2:=by9 M' hi;have d1:decide (0-Nk33.en M' i f.n.length<=0-Nk33.en M i f.n.length)=true:=F7 (le i hi).1;have d2:decide (Nk33.en M f.n.length i<=Nk33.en M' f.n.length i)=true:=F7 (le i hi).2;simp only[M7];clear ky kl' tb' le g ea en cs ns zs cs0 ns0 zs0 cA cB nss nA nB zo no;generalize(List.range f.n.length).map (iF M f.n.length)=SP at*;generalize(List.range f.n.length).map (iF M' f.n.length)=SP' at*;generalize 0-Nk33.en M' i f.n.length=A1 at*;generalize 0-Nk33.en M i f.n.length=A2 at*;generalize Nk33.en M f.n.length i=A3 at*;generalize Nk33.en M' f.n.length i=A4 at*;walk_at "e"
   have al:=nV true (List.range f.n.length);clear kl' tb' le g n8 e lA lB l0 hA hB hl e0;generalize((List.range f.n.length).map λ_=>T.bl true)=BB at*;generalize(List.range f.n.length).map (iF M f.n.length)=SP at*;generalize(List.range f.n.length).map (iF M' f.n.length)=SP' at*;generalize A.map (eR false f)=AA at*;generalize B.map (eR false f)=BB' at*;walk_at "e"
end
section
variable{f:Fm}{ss:List Sd}{D:bu}
def en1{n:Nat}{s:Sd}(h:dh8 n D s)(k:Int):∀t∈st s k,D (bJ n t)<=D (bW n t)+bP t:=λt q=>by
 unfold st at q;rcases A9.mp q with q|q
 . split at q
   . next x hx=>rw[C5.mp q];exact h.2 x hx
   . cases q
 . rw[C5.mp q];exact h.1
def ee2(h:dq7 f D){j:Nat}(hj:j<f.n.length):∀t∈sp f (j:Int),D (bJ f.n.length t)<=D (bW f.n.length t)+bP t:=λt q=>by
 obtain⟨b1,b2⟩:=h j hj;simp only[sp,C4,J3,O6]at q;rcases q with rfl|rfl
 . simp only[bJ,bW,bP,pN,Int.toNat_natCast];exact b1
 . simp only[bJ,bW,bP,pN,Int.toNat_natCast];exact b2
def d4:T->T
 |.tup [_,_,_,d]=>d
 |_=>.non
def n4(t:T):Option Int:=match d4 t with
 |.int i=>some i
 |_=>none
def eo9{s:Sd}{k:Int}(h:t∈st s k):n4 t=some k:=by
 unfold st at h;rcases A9.mp h with q|q
 . split at q
   . rw[C5.mp q];rfl
   . cases q
 . rw[C5.mp q];rfl
def da0(h:t∈cN f ss):(∃j:Nat,j<f.n.length/\t∈sp f (j:Int))\/∃(k:Nat)(s:Sd),ss[k]?=some s/\t∈st s (k:Int)/\n4 t=some (k:Int):=by
 rcases A9.mp h with h|h
 . obtain⟨k,hk,q⟩:=L7.mp h;unfold ah3 at q;split at q
   . next s es=>exact .inr ⟨k,s,es,q,eo9 q⟩
   . cases q
 . obtain⟨k,hk,q⟩:=L7.mp h;exact .inl ⟨k,F9.mp hk,q⟩
def fl1{j:Int}(h:t∈sp f j):n4 t=none:=by simp only[sp,C4,J3,O6]at h;rcases h with rfl|rfl<;>rfl
theorem ce5{n:Nat}:∀rs:List T,(∀t∈rs,StepN n t)->(rs.filter λt=>(n4 t).isSome).map d4=(rs.filterMap n4).map .int
 |[],_=>rfl
 |t::rs,h=>by
  have ih:=ce5 rs λu hu=>h u (B5 _ hu);obtain⟨a,b,c,d,rfl,_,_,hd⟩:=h t B7;rcases hd with rfl|⟨i,rfl⟩
  . rw[List.filter_cons_of_neg (by simp[n4,d4]),List.filterMap_cons_none (f:=n4) rfl];exact ih
  . rw[List.filter_cons_of_pos (by simp[n4,d4]),List.filterMap_cons_some (f:=n4) (b:=i) rfl,C7,C7,ih];rfl
def wH(ss:List Sd)(ms:ah):List Sd:=ms.filterMap λk=>ss[k.toNat]?
theorem cf1(g:Sd->T):∀ms:List Int,(∀k∈ms,k.toNat<ss.length)->(wH ss ms).map g=ms.map λk=>match ss[k.toNat]? with|some s=>g s|none=>.non
 |[],_=>rfl
 |k::ms,h=>by have ih:=cf1 g ms λj hj=>h j (B5 _ hj);have hk:=h k B7;unfold wH at ih⊢;rw[List.filterMap_cons_some (f:=λk:Int=>ss[k.toNat]?) (a:=k) (b:=ss[k.toNat]) (A6 hk),C7,C7,ih,A6 hk]
def ds6{ms:ah}{s:Sd}(h:s∈wH ss ms):s∈ss:=by obtain⟨k,_,e⟩:=List.mem_filterMap.mp h;exact D4 e
def dx8{ms:ah}{k:Nat}{s:Sd}(hk:(k:Int)∈ms)(e:ss[k]?=some s):s∈wH ss ms:=List.mem_filterMap.mpr ⟨_,hk,by rw[E5];exact e⟩
def dj5(ms:ah):(wH ss ms).length<=ms.length:=List.length_filterMap_le _ _
def dg9{rs:aw}{ms:ah}(hr:∀t∈rs,t∈cN f ss)(hm:∀t∈rs,∀i,n4 t=some i->i∈ms)(hn:¬∀t∈rs,D (bJ f.n.length t)<=D (bW f.n.length t)+bP t):¬yL f (wH ss ms) D:=λdt=>by
 obtain⟨_,h1,h2⟩:=(ca1 f _ D).mp dt;refine hn λt ht=>?_;rcases da0 (hr t ht)with⟨j,hj,q⟩|⟨k,s,es,q,e⟩
 . exact ee2 h2 hj t q
 . exact en1 (h1 s (dx8 (hm t ht _ e) es)) k t q
def as7(g:Gd f)(h:∀s∈ss,SdOk f s)(hl:ss.length<=1000):
 (∃D M ys,yL f ss D/\sE f.n.length (cN f ss) M/\Bd (bW f.n.length) (bJ f.n.length) bP (cN f ss) f.n.length M (f.n.length+1)/\fZ [bT false f,.lst false (ss.map (eR false f))]=.ok (tM true M)/\mT [bT false f,.lst false (ss.map (eR false f))]=.ok (.tup [.str "dating",.lst true ys])/\dD ys=true)\/
 (∃rs,mT [bT false f,.lst false (ss.map (eR false f))]=.ok (.tup [.str "ring",.lst true rs])/\rs.length<=9/\(∀t∈rs,t∈cN f ss)/\nK [.lst false rs,.lst false (cN f ss)]=.ok (.bl true)/\∀D:Nat->Int,¬∀t∈rs,D (bJ f.n.length t)<=D (bW f.n.length t)+bP t):=by
 have aS:=uC h;have ks:=bs0 g h hl;have za:=gE false f;have na:=eY f;have zo:=oQ false f ss;have no:=jD f ss;have aT:=oI f ss;have zS:=kJ aT;have cS:=oM aT;have nS:=gO aT;have iv:=cf9 aS;have n8:=g.n8;rcases bf9 g aS with⟨hx,e⟩|⟨a0,P,k,hx,r,e⟩
 . have dt:yL f ss (gy (dG f (cN f ss) (f.n.length+1)).Y):=ey5 iv hx (fb4 f) ey2;have e1:(("dating":Str)==("ring":Str))=false:=X5
   have cy:=gB ((dG f (cN f ss) (f.n.length+1)).Y.take f.n.length);obtain⟨M,kc,tw,bd⟩:=cx5 g h e cy e1 dt;have cM:=uL M;refine .inl ⟨_,M,((dG f (cN f ss) (f.n.length+1)).Y.take f.n.length).map .int,dt,tw,bd,?_,?_,cy⟩
   . unfold fZ qM;clear iv dt aS aT h g tw bd e cy;generalize cN f ss=S at*;walk_at "e"
   . unfold mT vR;clear iv hx dt aS aT h g tw bd kc cM;generalize((dG f (cN f ss) (f.n.length+1)).Y.take f.n.length)=ys at*;generalize cN f ss=S at*;walk_at "e"
 . have fact:∀m,dU f.n.length (dG f (cN f ss) (f.n.length+1)).R P m∈cN f ss/\(dG f (cN f ss) (f.n.length+1)).R[it (nx (bJ f.n.length) (dG f (cN f ss) (f.n.length+1)).R) m P]?=some (some (dU f.n.length (dG f (cN f ss) (f.n.length+1)).R P m))/\bW f.n.length (dU f.n.length (dG f (cN f ss) (f.n.length+1)).R P m)=it (nx (bJ f.n.length) (dG f (cN f ss) (f.n.length+1)).R) m P:=λm=>by obtain⟨u,eu,ut,us⟩:=r.df m;have q:dU f.n.length (dG f (cN f ss) (f.n.length+1)).R P m=u:=as5 eu;rw[q];exact⟨ut,eu,us⟩
   have inn:∀t∈(List.range k).map (dU f.n.length (dG f (cN f ss) (f.n.length+1)).R P),t∈cN f ss:=λt ht=>by obtain⟨m,_,rfl⟩:=M3.mp ht;exact(fact m).1
   have cr:=oM λt ht=>(aS t (inn t ht)).st;refine .inr ⟨_,?_,by have:=r.kn;rw[C3,K6];omega,inn,cb7 aS n8 r,λD hD=>?_⟩
   . unfold mT vR;clear iv hx aS aT h g inn r fact;generalize(List.range k).map (dU f.n.length (dG f (cN f ss) (f.n.length+1)).R P)=xs at*;generalize cN f ss=S at*;walk_at "e"
   . have:=bv1 hD k P (λm hm=>⟨_,(fact m).2.1,M8 (F9.mpr hm),(fact m).2.2⟩);rw[r.back]at this;have:=r.neg;omega
end
section
variable{f:Fm}{ss:List Sd}{D:bu}{M:am}
def fx1(aS:∀t∈cN f ss,StepN f.n.length t)(dt:yL f ss D)(tw:sE f.n.length (cN f ss) M)(bd:Bd (bW f.n.length) (bJ f.n.length) bP (cN f ss) f.n.length M (f.n.length+1)):yL f ss λi=>0-en M i f.n.length:=by
 have hb:=λt ht=>yP (aS t ht);refine⟨?_,λt ht=>?_⟩
 . show 0-en M f.n.length f.n.length=0;rw[(ae8 hb dt.2 tw bd (C9 _)).1];rfl
 . have:=bd _ _ _ (hb t ht).1 (C9 _) (.join (by have:=(hb t ht).2;omega) (.step t ht) (tw.wk _ _ (hb t ht).2 (C9 _)));show 0-en M (bJ f.n.length t) f.n.length<=0-en M (bW f.n.length t) f.n.length+bP t;omega
def db8(aS:∀t∈cN f ss,StepN f.n.length t)(dt:yL f ss D)(tw:sE f.n.length (cN f ss) M)(bd:Bd (bW f.n.length) (bJ f.n.length) bP (cN f ss) f.n.length M (f.n.length+1)):yL f ss λi=>en M f.n.length i:=by have hb:=λt ht=>yP (aS t ht);obtain⟨a,b,_⟩:=ae8 hb dt.2 tw bd (C9 _);exact⟨a,b⟩
def bb0(dt:yL f ss D)(tw:sE f.n.length (cN f ss) M){i:Nat}(hi:i<=f.n.length):0-en M i f.n.length<=D i/\D i<=en M f.n.length i:=by have h0:=dt.1;have a:=(tw.wk i f.n.length hi (C9 _)).pot dt.2;have b:=(tw.wk f.n.length i (C9 _) hi).pot dt.2;constructor<;>omega
def ek3(aS:∀t∈cN f ss,StepN f.n.length t)(dt:yL f ss D)(tw:sE f.n.length (cN f ss) M)(bd:Bd (bW f.n.length) (bJ f.n.length) bP (cN f ss) f.n.length M (f.n.length+1)){l:Nat}{y:Int}(hl:l<f.n.length)(h1:0-en M l f.n.length<=y)(h2:y<=en M f.n.length l):yL f ss (bs M f.n.length l y):=by have hb:=λt ht=>yP (aS t ht);obtain⟨a,_,c⟩:=fy0 hb tw bd (λi hi=>(ae8 hb dt.2 tw bd hi).1) (Nat.le_of_lt hl) h1 h2;exact⟨a,c⟩
end
def main(ns:ah)(h63:ns.length<=63)(hb:∀n∈ns,Builtin.Int.intBits n<=1048576):bp7 [.lst false (ns.map .int)]=.ok (.bl true):=by
 unfold bp7 bq7;obtain⟨f,hf,g⟩:=el0 ns;have ec:jV [.lst false (ns.map .int),.int 1]=.ok (.int (ns.getD 1 0)):=cv8 false ns 1;obtain⟨hid,hh,hl,hhb⟩:=dp4 (ns.getD 1 0/32) g;have ct:=bc3 T.int ns (some 2) (some 18);have ctl:=aq1 ns (some 2) (some 18);obtain⟨ss,hs,sl,sok⟩:=cf8 g (fJ ns (some 2) (some 18)) W9 (ns.getD 1 0%4==1) hid hl hhb;have ka:=ba6 g;have kh:=eu7 sok W9;have k1:=cx2 g sok W9;have n1:=g.n1;have n8:=g.n8;have aS:=uC sok;have fm:=ec6 true f;have cf:=da4 f;have ar:=gE true f;have ca:=cj0 f;have zs:=ai8 (f:=f) true sok;have zs0:=ai8 (f:=f) false sok;have cs:=ac9 sok;have co:=cd6 f ss;have zo:=oQ true f ss;have zo0:=oQ false f ss;have ns1:=aj2 sok;have no:=jD f ss;have nn:=jC ns;have zh:=gK hid;have c1:=oM (oI f ss);have z1:=kJ (oI f ss);have fx2:aO (gZ true f) (.int 2)=.ok (.lst true (f.n.map .str)):=rfl;have fx2':aO (gZ false f) (.int 2)=.ok (.lst false (f.n.map .str)):=rfl;have lnames:cY [.lst true (f.n.map T.str)]=.ok (.int f.n.length):=by rw[nZ];simp only[C3]
 have lnames':cY [.lst false (f.n.map T.str)]=.ok (.int f.n.length):=by rw[nZ];simp only[C3]
 have b0:=@jN T;have b1:=@iO T;have hp2:ah0 (.int 10) (.int 9)=.ok (.int 1000000000):=by rw[as4,eO (show ak2 10 9 from⟨X5,X5,X5⟩)];rfl
 have ll2:ss.length<=100000:=W9
 have ll3:ss.length<=sizeLine:=by have:=F8;omega
 generalize hc:ns.getD 1 0/4%1000000000=c;rcases as7 g sok W9 with⟨D,M,ys,dt,tw,bd,kl,kset,cy⟩|⟨rs,kset,rl,rin,krg,rnot⟩
 . have e1:(("dating":Str)==("ring":Str))=false:=X5
   have ky:=xI g zo0 no tw.tb kl;obtain⟨cM,nM,zM⟩:=wA M f.n.length;obtain⟨Ls,kD,L1,L2',hLs⟩:=bc6 g zo0 no tw.tb kl (λl hl=>by have:=bb0 dt tw (Nat.le_of_lt hl);omega) c;have hDk:∀zs∈Ls,Dk f.n.length (cN f ss) zs/\∀i,i<f.n.length->0-en M i f.n.length<=gy zs i/\gy zs i<=en M f.n.length i:=λzs hz=>by obtain⟨l,y,hl,h1,h2,rfl⟩:=hLs zs hz;have d:=ek3 aS dt tw bd hl h1 h2;exact⟨ag4 aS d.1 d.2,λi hi=>by rw[es3 hi];exact bb0 d tw (Nat.le_of_lt hi)⟩
   have kt:=bl2 g sok W9 L1 L2' λzs hz=>(hDk zs hz).1;have kE:=cg7 g zo0 no tw.tb kl;have kG:=dm2 g zo0 no tw.tb kl;have lo:=fx1 aS dt tw bd;have hi:=db8 aS dt tw bd;have kE1:=ac8 aS n8 (ag4 (D:=λi=>0-en M i f.n.length) aS lo.1 lo.2);have kG1:=ac8 aS n8 (ag4 (D:=λi=>en M f.n.length i) aS hi.1 hi.2);have kB:=dj0 (lo:=λi=>0-en M i f.n.length) (hi:=λi=>en M f.n.length i) n8 L2' λzs hz=>⟨(hDk zs hz).1.1,(hDk zs hz).2⟩;obtain⟨a,ha⟩:∃a,c%(ss.length:Int)=a:=⟨_,rfl⟩;have inAB:∀s∈fJ ss none (some a)++fJ ss (some (a+1)) none,s∈ss:=λs h=>(A9.mp h).elim (λq=>cy3 q) (λq=>cy3 q);have lU:(fJ ss none (some a)++fJ ss (some (a+1)) none).length<=1000:=by have:=aq1 ss none (some a);have:=aq1 ss (some (a+1)) none;rw[E7];omega
   have less:∀E:Nat->Int,yL f ss E->yL f (fJ ss none (some a)++fJ ss (some (a+1)) none) E:=λE q=>by rw[ca1]at q⊢;exact⟨q.1,λs z=>q.2.1 s (inAB s z),q.2.2⟩
   have kW:qK [bT false f,.lst false (ss.map (eR false f)),.lst false ((List.range f.n.length).map (iF M f.n.length)),.int c]=.ok (.bl true):=by
    rcases as7 g (λs z=>sok s (inAB s z)) lU with⟨D',M',_,_,tw',_,kl',_⟩|⟨rs,_,_,rin,_,rnot⟩
    . refine el2 g W9 c (λ_=>ha) rfl rfl tw'.tb kl' λi hi=>?_;have p:=bb0 (less _ lo) tw' (Nat.le_of_lt hi);have q:=bb0 (less _ (db8 aS dt tw bd)) tw' (Nat.le_of_lt hi);exact⟨p.1,q.2⟩
    . exact E8 (λt ht=>(less D dt).2 t (rin t ht)) (rnot D)
   have cL:=bn4 Ls;have zL:=dt9 true Ls;have cE:=gB (gM f.n.length λi=>0-en M i f.n.length);have cG:=gB (gM f.n.length λi=>en M f.n.length i);have zE:=gK (gM f.n.length λi=>0-en M i f.n.length);have zG:=gK (gM f.n.length λi=>en M f.n.length i);clear hLs hDk dt tw bd kl less inAB lU lo hi sok hb hhb sl ctl hl aS ha L1 L2' n8 n1;generalize cN f ss=S1 at*;generalize(gM f.n.length λi=>0-en M i f.n.length).map T.int=YE at*;generalize(gM f.n.length λi=>en M f.n.length i).map T.int=YG at*;generalize(List.range f.n.length).map (iF M f.n.length)=SP at*;generalize iP true Ls=LT at*;generalize iP false Ls=LF at*;walk_at "e"
 . have e1:(("ring":Str)==("ring":Str))=true:=X5
   have hR:∀t∈rs,StepN f.n.length t:=λt ht=>aS t (rin t ht);have cr:=oM λt ht=>(hR t ht).st;have zr:=kJ λt ht=>(hR t ht).st;have nr:=gO λt ht=>(hR t ht).st;have pk:=ce5 rs hR;have hcm:∀x0 x1 x2 x3 x4 x5 x6 x7 x8 x9 x10 x11 x12 x13 x14 x15 x17:Option T,cC (aI 16) (bH (aE iA Ah8 Al6)) (aU Ah8) [x0,x1,x2,x3,x4,x5,x6,x7,x8,x9,x10,x11,x12,x13,x14,x15,none,x17] rs=.ok ((rs.filterMap n4).map .int):=λx0 x1 x2 x3 x4 x5 x6 x7 x8 x9 x10 x11 x12 x13 x14 x15 x17=>by
    rw[<-pk];have q:=aq2 (k:=16) (c:=(bH (aE iA Ah8 Al6))) (d:=(aU Ah8)) (U:=[x0,x1,x2,x3,x4,x5,x6,x7,x8,x9,x10,x11,x12,x13,x14,x15,none,x17]) (g:=id) (f:=d4) (p:=λt=>(n4 t).isSome) (l:=rs) (λt ht=>by
     obtain⟨a,b,c,d,rfl,_,_,hd⟩:=hR t ht;have b3:=@wI T;clear hR rnot rin krg kset pk aS;simp only[id];rcases hd with rfl|⟨i,rfl⟩
     . refine⟨?_,λz=>?_⟩
       . show _=Res.ok false;walk_at "e"
       . cases z
     . refine⟨?_,λ_=>?_⟩
       . show _=Res.ok true;walk_at "e"
       . show _=Res.ok (T.int i);walk_at "e")
    rwa[List.map_id]at q
   have lN:(rs.filterMap n4).length<64:=by have:=List.length_filterMap_le n4 rs;omega
   have hm:∀t∈rs,∀i,n4 t=some i->i∈sN (oA (rs.filterMap n4)):=λt ht i e=>sortedSet_mem.mpr (List.mem_filterMap.mpr ⟨t,ht,e⟩);have hin:∀k∈sN (oA (rs.filterMap n4)),0<=k/\k.toNat<ss.length:=λk hk=>by
    obtain⟨t,ht,e⟩:=List.mem_filterMap.mp (sortedSet_mem.mp hk);rcases da0 (rin t ht)with⟨j,_,q⟩|⟨j,s,es,_,e2⟩
    . rw[fl1 q]at e;cases e
    . rw[e2]at e;cases e;exact⟨W9,by rw[E5];exact(D3.mp es).1⟩
   have lK:(sN (oA (rs.filterMap n4))).length<64:=by have:=(xB (oA (rs.filterMap n4))).length_eq;have:=ab8 (rs.filterMap n4);omega
   have kso:=ct2 true (rs.filterMap n4);rw[E3 lN]at kso;generalize sN (oA (rs.filterMap n4))=ms at*;have hsub:=cf1 (ss:=ss) (eR false f) ms λk hk=>(hin k hk).2;have hcs:∀x0 x1 x2 x3 x4 x6 x7 x8 x9 x10 x11 x12 x13 x14 x15 x16:Option T,cC (aI 17) bY (aU (aE aO (aB 5) (aB 17))) [x0,x1,x2,x3,x4,some (.lst true (ss.map (eR false f))),x6,x7,x8,x9,x10,x11,x12,x13,x14,x15,x16,none] (ms.map .int)=.ok ((wH ss ms).map (eR false f)):=λx0 x1 x2 x3 x4 x6 x7 x8 x9 x10 x11 x12 x13 x14 x15 x16=>by
    rw[hsub];refine cX λk hk=>?_;obtain⟨k0,k2⟩:=hin k hk;obtain⟨j,rfl⟩:=Int.eq_ofNat_of_zero_le k0;rw[E5]at k2⊢;have ia:atI (ss.map (eR false f)) (j:Int)=some (eR false f ss[j]):=by unfold L2.atI;rw[C3,xR k2];show(ss.map (eR false f))[j]?=_;rw[C8,A6 k2];rfl
    have nO:=bc9 f ss[j];rw[A6 k2];show _=Res.ok (eR false f ss[j]);clear hin hm hR rnot rin krg kset pk aS hcm;generalize eR false f ss[j]=O at*;walk_at "e"
   have l2:(wH ss ms).length<=1000:=by have:=dj5 (ss:=ss) ms;omega
   obtain⟨rs2,ks2,r2in⟩:∃rs2,mT [bT false f,.lst false ((wH ss ms).map (eR false f))]=.ok (.tup [.str "ring",.lst true rs2])/\dD rs2=true:=by
    rcases as7 g (λs z=>sok s (ds6 z)) l2 with⟨D',_,_,dt',_⟩|⟨rs2,q,_,q2,_,_⟩
    . exact E8 dt' (dg9 rin hm (rnot D'))
    . exact⟨rs2,q,oM λt ht=>oI f _ t (q2 t ht)⟩
   have zu:=oQ false f (wH ss ms);have nu:=jD f (wH ss ms);have nms:=jC ms;have lms2:ms.length<=sizeLine:=by have:=F8;omega
   have lr:rs.length<=100000:=W9
   have lr2:rs.length<=sizeLine:=by have:=F8;omega
   clear hR rnot rin pk aS hm hin lK hsub l2 sok hb hhb sl ctl hl rl n8 n1;generalize cN f ss=S1 at*;generalize(wH ss ms).map (eR false f)=US at*;generalize(rs.filterMap n4).map T.int=NN at*;walk_at "e"
end Nk33
end
namespace PySem.W.Fast
def tw4814198246817661845:=Nat
def tw10820302096120653481:=Nat
def tw9636193939764598990:=Nat
def tw15649825019446021950:=Nat
def tw6967411631460773302:=Nat
def tw8194450896889110170:=Nat
def tw5531761851933236034:=Nat
def tw15754631811142835352:=Nat
def tw14416625335890262979:=Nat
def tw14108956078255996624:=Nat
def tw9982500590131207996:=Nat
def tw13403680511644270032:=Nat
def tw6094351326185993961:=Nat
def tw12176369061372261534:=Nat
def tw6970151035677890265:=Nat
def tw5208173758145732228:=Nat
def tw9467933021445485720:=Nat
def tw14784662927411173671:=Nat
def tw10492822779586763067:=Nat
def tw12991547698644390876:=Nat
def tw7820029756993866005:=Nat
def tw11300465893122280249:=Nat
def tw4410534698474270932:=Nat
def tw5374046128819942061:=Nat
def tw5009715720256625250:=Nat
def tw2383907039075482185:=Nat
def tw12565324978593071144:=Nat
def tw15825127966831681153:=Nat
def tw5862285617121901573:=Nat
def tw18158471046009958351:=Nat
def tw11919402170377499013:=Nat
def tw14880430792855060959:=Nat
def tw7216187483528997874:=Nat
def tw9779533452098122704:=Nat
def tw7200669466226996086:=Nat
def tw13819287189709946524:=Nat
def tw15226945870506293230:=Nat
def tw14387670031663471789:=Nat
def tw9864527667854152101:=Nat
def tw4299662898856943787:=Nat
def tw2933512077211102462:=Nat
def tw10655587745689924190:=Nat
def tw9915059213353601191:=Nat
def tw10845571692056240089:=Nat
def tw12993744794294984932:=Nat
def tw2619601764862619270:=Nat
def tw12819734893578378067:=Nat
def tw18381386604272487259:=Nat
def tw12058127060212831373:=Nat
def tw14543041491037310982:=Nat
def tw6081566937120131575:=Nat
def tw217014381321884407:=Nat
def tw13572020301996571986:=Nat
def tw13653616293170408461:=Nat
def tw807460806710965949:=Nat
def tw17161002312486789825:=Nat
def tw12412167685605143689:=Nat
def tw14988582460400138792:=Nat
def tw17620948702823663405:=Nat
def tw3848110007220916317:=Nat
def tw5471031761411470380:=Nat
def tw644013509904311011:=Nat
def tw571583881675513022:=Nat
def tw15743962316559037847:=Nat
def tw2846300847395485980:=Nat
def tw2218259963026690822:=Nat
def tw2340998833662973274:=Nat
def tw16328786645863214232:=Nat
def tw2007261575858512946:=Nat
def tw10583930575155757651:=Nat
def tw16765831980846377486:=Nat
def tw10964304352764449597:=Nat
def tw14727027829157172447:=Nat
def tw16445099494214538501:=Nat
def tw184304339894380354:=Nat
def tw16905668412842760890:=Nat
def tw4761829749011270101:=Nat
def tw9070528075717496556:=Nat
def tw5880538704765319246:=Nat
def tw13217397348716805420:=Nat
def tw16444836420414009111:=Nat
def tw438542630793444045:=Nat
def tw1149975575506900402:=Nat
def tw13908415706049140736:=Nat
def tw4840309870130700115:=Nat
def tw18028308525353558891:=Nat
def tw11811051559136078803:=Nat
def tw13111441977847859970:=Nat
def tw14951528477791443118:=Nat
def tw13473957067432303521:=Nat
def tw8708941821086031710:=Nat
def tw8525188672521589412:=Nat
def tw6792737379402777154:=Nat
def tw2209946035507224113:=Nat
def tw16174837400292854026:=Nat
def tw11668869291950619361:=Nat
def tw15387769773533284205:=Nat
def tw15234473702999596898:=Nat
def tw1275491797610127730:=Nat
def tw2077385303050142605:=Nat
def tw318162971361205449:=Nat
def tw4446133477365281748:=Nat
def tw9818424269718931466:=Nat
def tw3728690733455985063:=Nat
def tw9449387545566504352:=Nat
def tw10355132557946477146:=Nat
def tw117746879170452943:=Nat
def tw16197844170218535109:=Nat
def tw14489209527083179267:=Nat
def tw2479281437687243616:=Nat
def tw16070052074749521810:=Nat
def tw8407323500081188403:=Nat
def tw9755735834510121088:=Nat
def tw515826248186084181:=Nat
def tw5897699270464175929:=Nat
def tw9861720487515629927:=Nat
def tw5537270349023955699:=Nat
def tw15671993454304307603:=Nat
def tw11859341772009646508:=Nat
def tw15743079689372683189:=Nat
def tw8801034588921316535:=Nat
def tw3213077857956849869:=Nat
def tw8352210157041590217:=Nat
def tw6047728558238576067:=Nat
def tw9845959269364909194:=Nat
def tw15981800589438009364:=Nat
def tw534045340931396681:=Nat
def tw5507454149124407498:=Nat
def tw2356805162916894905:=Nat
def tw15042038173659256563:=Nat
def tw6278460496625324956:=Nat
def tw9587628029465885546:=Nat
def tw13814657820909548997:=Nat
def tw18129760100908537167:=Nat
def tw9956792202743530600:=Nat
def tw4079147054481663050:=Nat
def tw16549097124199146807:=Nat
def tw11064870914024919209:=Nat
def tw1934359876875586896:=Nat
def tw8623588534495245003:=Nat
def tw6821307834395010042:=Nat
def tw1583293835762333519:=Nat
def tw992247279637220932:=Nat
def tw918493588236292551:=Nat
def tw1337173865185753555:=Nat
def tw9881524260783110214:=Nat
def tw13819971807439123856:=Nat
def tw13440423171657823329:=Nat
def tw14543576012392575164:=Nat
def tw13665500488052401077:=Nat
def tw11359646006410711867:=Nat
def tw14008985381064968039:=Nat
def tw15837796859715521996:=Nat
def tw7349129108314873187:=Nat
def tw10298459252263372986:=Nat
def tw3862894926523813183:=Nat
def tw5661703093311782366:=Nat
def tw11528483326494372390:=Nat
def tw13888122796803660470:=Nat
def tw9598066688501819690:=Nat
def tw3966681966397300948:=Nat
def tw16148158492721742912:=Nat
def tw2229937254084821613:=Nat
def tw56477778782331889:=Nat
def tw246172733730636345:=Nat
def tw5287318652978369500:=Nat
def tw6675960549984248355:=Nat
def tw6768756786135473945:=Nat
def tw12775306331050029145:=Nat
def tw1656544833210769538:=Nat
def tw7497834312027695156:=Nat
def tw15703891846788496279:=Nat
def tw15451909412917645335:=Nat
def tw13101645164672301905:=Nat
def tw13712026287846517276:=Nat
def tw8129291615636392677:=Nat
def tw929913382786344101:=Nat
def tw15551256270815624057:=Nat
def tw5359140607105071361:=Nat
def tw16682173493882679474:=Nat
def tw10439681322771133787:=Nat
def tw7688062083305405429:=Nat
def tw8477509799765668415:=Nat
def tw4876565801583126861:=Nat
def tw6404463622132351226:=Nat
def tw12170012795317788748:=Nat
def tw14418340429789617013:=Nat
def tw7535078285697906259:=Nat
def tw18056689801176140638:=Nat
def tw7661693560343243350:=Nat
def tw11746364168278729962:=Nat
def tw9444392199548269937:=Nat
def tw9839004388614581812:=Nat
def tw216530555479078528:=Nat
def tw1580845289941115349:=Nat
def tw14125845781225873939:=Nat
def tw10058324402780771345:=Nat
def tw7914131578842626261:=Nat
def tw12718832399389506013:=Nat
def tw7853884083464324318:=Nat
def tw8582391286893610405:=Nat
def tw8035098183278527288:=Nat
def tw11723662396533973142:=Nat
def tw903147489241557879:=Nat
def tw16123524153265762367:=Nat
def tw10692179989111602379:=Nat
def tw13635859074104609054:=Nat
def tw16982775274052333171:=Nat
def tw5249837071492289063:=Nat
def tw8947768148607436392:=Nat
def tw4979504620151678675:=Nat
def tw16153895228530256859:=Nat
def tw947060426788015884:=Nat
def tw15620625279267713927:=Nat
def tw10194351842953096138:=Nat
def tw9838351396628736424:=Nat
def tw13963181069557621921:=Nat
def tw9764912514792632918:=Nat
def tw830675457162019254:=Nat
def tw1965974558476309569:=Nat
def tw12124207805613386364:=Nat
def tw4594350522920590454:=Nat
def tw11285908306990642300:=Nat
def tw13780716387160947161:=Nat
def tw13183639546765555831:=Nat
def tw18088557659099017867:=Nat
def tw6754494999906035780:=Nat
def tw16945132929415123410:=Nat
def tw9181548291213961707:=Nat
def tw8372549540242535119:=Nat
def tw15651926296784721675:=Nat
def tw8636199334015541294:=Nat
def tw5185273883025378597:=Nat
def tw14716231558258412818:=Nat
def tw12577400644383431719:=Nat
def tw13674060985689831988:=Nat
def tw329835709188184469:=Nat
def tw14804047963516788981:=Nat
def tw9214441416062478177:=Nat
def tw420275626053721270:=Nat
def tw804994368955437395:=Nat
def tw4491165105399829085:=Nat
def tw2768871798865201515:=Nat
def tw2091035412476627493:=Nat
def tw15610309746997658346:=Nat
def tw14488989969288967964:=Nat
def tw13784371245631760966:=Nat
def tw12810911271059557658:=Nat
def tw11936236289534048073:=Nat
def tw11432439968276743243:=Nat
def tw7756722233301690767:=Nat
def tw2757150348020075737:=Nat
def tw1375799877489334241:=Nat
def tw5724849822591032650:=Nat
def tw3432877014838248911:=Nat
def tw10297914550733329889:=Nat
def tw6991398792350033421:=Nat
def tw13158759549506384149:=Nat
def tw11318120393012276095:=Nat
def tw2967142468770977950:=Nat
def tw1353905878296216010:=Nat
def tw5059809678037358894:=Nat
def tw17729953667126718626:=Nat
def tw3733936588214825162:=Nat
def tw17193829023007074469:=Nat
def tw16361729187976097916:=Nat
def tw15293743268943719340:=Nat
def tw2711900221523554362:=Nat
def tw18010322721308467195:=Nat
def tw2674326427784590939:=Nat
def tw6830453049406360060:=Nat
def tw8115651697482166555:=Nat
def tw17951398673689037951:=Nat
def tw16961361978620694012:=Nat
def tw16606025872666306914:=Nat
def tw14269780266527494525:=Nat
def tw13427817239483814889:=Nat
def tw13294556781959610028:=Nat
def tw10976660932718505150:=Nat
def tw17377969807892602371:=Nat
def tw2870267858390725861:=Nat
def tw17437742967011387114:=Nat
def tw14484984509286492483:=Nat
def tw5780526614101568867:=Nat
def tw721797685471069289:=Nat
def tw13291485991269063452:=Nat
def tw17573579390401954815:=Nat
def tw13972450395017498307:=Nat
def tw11787799989641755367:=Nat
def tw15677306016018874702:=Nat
def tw3737643712869693304:=Nat
def tw16858021396991714864:=Nat
def tw9345658526116178422:=Nat
def tw2043354035827522670:=Nat
def tw4628169679874474311:=Nat
def tw677762902604509818:=Nat
def tw13992665624568133060:=Nat
def tw9915548674521596686:=Nat
def tw4165533483687165356:=Nat
def tw14489086570417329167:=Nat
def tw17994717242302237237:=Nat
def tw15475671850686871132:=Nat
def tw8863266201301210299:=Nat
def tw8752676022536174677:=Nat
def tw8615360778677016956:=Nat
def tw9165559736713125273:=Nat
def tw9773395593461535530:=Nat
def tw3391419232985222675:=Nat
def tw10058390868469544257:=Nat
def tw685332454488044481:=Nat
def tw10647278046906053402:=Nat
def tw4974226192213831829:=Nat
def tw8998411465021657086:=Nat
def tw6741146921616402493:=Nat
def tw15847917748935456705:=Nat
def tw2668949584552398848:=Nat
def tw17589695727948534785:=Nat
def tw1607065647125808996:=Nat
def tw13766393446151827886:=Nat
def tw12753395992691814614:=Nat
def tw11955510028536631169:=Nat
def tw13370955513524813892:=Nat
def tw4300463782612742833:=Nat
def tw12317656059413040764:=Nat
def tw9545771475083976387:=Nat
def tw8189245932189694852:=Nat
def tw9232790034733542373:=Nat
def tw9044555053120030381:=Nat
def tw7935300336411673687:=Nat
def tw16863316909500787709:=Nat
def tw14437351172010723626:=Nat
def tw2772673774090313968:=Nat
def tw12313988171171100315:=Nat
def tw1153324990407426811:=Nat
def tw9423119568433836780:=Nat
def tw8667331079569945471:=Nat
def tw8655338996032879609:=Nat
def tw8183372384346189688:=Nat
def tw7140550757614438680:=Nat
def tw7126658979806530092:=Nat
def tw6915351045793374803:=Nat
def tw5135864880298006866:=Nat
def tw3543095653090115414:=Nat
def tw2804778674357738521:=Nat
def tw2259606300773649182:=Nat
def tw17191774435851633695:=Nat
def tw16271223009931407863:=Nat
def tw13817862451763222485:=Nat
def tw11907597398445933074:=Nat
def tw11764955428079206714:=Nat
def tw11310678327952928892:=Nat
def tw11187337782717078913:=Nat
def tw10974280361115286684:=Nat
def tw10784183359764595832:=Nat
def tw10490076117458841462:=Nat
def tw10345418348332131591:=Nat
def tw10149018162218308447:=Nat
def tw10090224271212582481:=Nat
def tw578954591664096166:=Nat
def tw9870077323008837688:=Nat
def tw9713885152039332482:=Nat
def tw9620260437795691144:=Nat
def tw9422576581964027561:=Nat
def tw9324436320535443364:=Nat
def tw8516967536309848163:=Nat
def tw822460171857626040:=Nat
def tw809692315215087662:=Nat
def tw7398085496811496232:=Nat
def tw7278852276662774987:=Nat
def tw724443249334114336:=Nat
def tw6602191493333295140:=Nat
def tw5904803361736382578:=Nat
def tw5394666437163916136:=Nat
def tw5383503400092422961:=Nat
def tw5367370959044002853:=Nat
def tw4789246091331166770:=Nat
def tw4482920069651908621:=Nat
def tw4077985049683679468:=Nat
def tw378665619897621027:=Nat
def tw3155097920043809954:=Nat
def tw3051291504604218341:=Nat
def tw2832277368156799122:=Nat
def tw249384581026480484:=Nat
def tw2325501082746618606:=Nat
def tw2055850847216139946:=Nat
def tw1909240526936342072:=Nat
def tw18170296498836693349:=Nat
def tw17618731234678268504:=Nat
def tw17480443709236493375:=Nat
def tw17477787858918726635:=Nat
def tw17329548978299991191:=Nat
def tw1704132398524437762:=Nat
def tw1687964485384227533:=Nat
def tw1595403071476273888:=Nat
def tw15861016947016853284:=Nat
def tw15568119604280059064:=Nat
def tw1508210031630536886:=Nat
def tw14640348940293960287:=Nat
def tw14324012022666490502:=Nat
def tw14102404204475134468:=Nat
def tw14046789519596038696:=Nat
def tw13883370229173282436:=Nat
def tw13577696052550790608:=Nat
def tw13114264138691037483:=Nat
def tw13034804185547037616:=Nat
def tw12961401048241278495:=Nat
def tw12726138129342853080:=Nat
def tw12159772620748155989:=Nat
def tw10885447553910490332:=Nat
def tw4766265725305653894:=Nat
def tw16705286317677105808:=Nat
def tw1533730944896366386:=Nat
def tw8715624700270519061:=Nat
def tw9703857065779886843:=Nat
def tw3659444306169575022:=Nat
def tw1424366958504115167:=Nat
def tw8770865704572614146:=Nat
def tw11033530767054152412:=Nat
def tw4829394854416204960:=Nat
def tw14960094118261377432:=Nat
def tw17801119346649397299:=Nat
def tw993646756298835940:=Nat
def tw6976647509139621370:=Nat
def tw1728318254274042490:=Nat
def tw12256744979472644147:=Nat
def tw13408693262863096564:=Nat
def tw8888680304462949616:=Nat
def tw5352667461051266437:=Nat
def tw3622288712433410512:=Nat
def tw2816178514617578261:=Nat
def tw2652166004464083745:=Nat
def tw2034650936461862732:=Nat
def tw16167092194568824404:=Nat
def tw16108141877250310858:=Nat
def tw1466520078465519924:=Nat
def tw12600980479270194391:=Nat
def tw6966165107488287690:=Nat
def tw17002491162302163944:=Nat
def tw5519969230554454605:=Nat
def tw431422393147269128:=Nat
def tw9540656153607111518:=Nat
def tw8443934193434108064:=Nat
def tw5027829161087447993:=Nat
def tw3033170497403076630:=Nat
def tw1930837007726579628:=Nat
def tw16144549424102247012:=Nat
def tw11580132859016399702:=Nat
def tw11049870814005083048:=Nat
def tw14801021761046913878:=Nat
def tw10698074412564991874:=Nat
def tw14934865911276471384:=Nat
def tw15694047769392214593:=Nat
def tw1127042372256908363:=Nat
def tw3006825413159515856:=Nat
def tw10985030378786375998:=Nat
def tw1353583146010832542:=Nat
def tw9087541237752117841:=Nat
def tw7620123907856230464:=Nat
def tw6498569099223527798:=Nat
def tw6465488277726818764:=Nat
def tw5220163317588041138:=Nat
def tw3423675386899680915:=Nat
def tw3107833230075248161:=Nat
def tw16846230017814952221:=Nat
def tw12743768749737829607:=Nat
def tw12412796464786141394:=Nat
def tw12173580329170275355:=Nat
def tw10864231042894626154:=Nat
def tw4929773301162505662:=Nat
def tw16096048375263366017:=Nat
def tw8601418278764109062:=Nat
def tw8472009661432717533:=Nat
def tw8193436264343867073:=Nat
def tw6722507672245792740:=Nat
def tw5685763130454817122:=Nat
def tw5337187944770817528:=Nat
def tw4954543016085577134:=Nat
def tw4881139728437173506:=Nat
def tw2857953486771572509:=Nat
def tw2432465185533174912:=Nat
def tw17739177695763016363:=Nat
def tw17332676458337718238:=Nat
def tw15249270637942401707:=Nat
def tw14401533510751108391:=Nat
def tw12982354569874969557:=Nat
def tw10939161367958299552:=Nat
def tw3509330329673542481:=Nat
def tw9437101247707349:=Nat
def tw7947236066571994164:=Nat
def tw7175687864288564232:=Nat
def tw6636131342843117092:=Nat
def tw14438605969920850830:=Nat
def tw12745893859779749349:=Nat
def tw11451813519810613832:=Nat
def tw498249040478016603:=Nat
def tw9710885996132763512:=Nat
def tw2679976337016527155:=Nat
def tw14675680384390993629:=Nat
def tw10261392081178308416:=Nat
def tw3565674324007778835:=Nat
def tw9426338110360163300:=Nat
def tw7927488293136123650:=Nat
def tw7652846168601322276:=Nat
def tw6605017972857437966:=Nat
def tw6546722790171481995:=Nat
def tw6197244838331253107:=Nat
def tw3404473265321477747:=Nat
def tw2457395526829762618:=Nat
def tw18101452173279753170:=Nat
def tw16669215275139603925:=Nat
def tw16120561799074438333:=Nat
def tw1598435985519709631:=Nat
def tw13954712445365539391:=Nat
def tw1347068411462476430:=Nat
def tw11822334748171685785:=Nat
def tw10450190305133496165:=Nat
def tw10265520062973595536:=Nat
def tw9860228586658326172:=Nat
def tw7809628007088975998:=Nat
def tw7078104471318662380:=Nat
def tw6764326921991138729:=Nat
def tw6108381753399481961:=Nat
def tw569592002027536357:=Nat
def tw5497370059271507806:=Nat
def tw4826095525098188956:=Nat
def tw3873866372859766510:=Nat
def tw3600448339083353781:=Nat
def tw2525227220139315622:=Nat
def tw2280336479334570769:=Nat
def tw17962092243789149779:=Nat
def tw17512403281829772132:=Nat
def tw16534144450454026428:=Nat
def tw14227245226640776375:=Nat
def tw13839963527823250125:=Nat
def tw13532323613343286373:=Nat
def tw13048995479480523984:=Nat
def tw12706451760877739902:=Nat
def tw12327244812033616314:=Nat
def tw1196136976266642945:=Nat
def tw114085440102264660:=Nat
def tw11355485680637121668:=Nat
def tw10225956295712743475:=Nat
def tw8692892369190420685:=Nat
def tw8549677571939896591:=Nat
def tw7953181441313318233:=Nat
def tw6891718975982151452:=Nat
def tw6064432783487727596:=Nat
def tw4519165643623379017:=Nat
def tw3792101546297813964:=Nat
def tw3555250104028459270:=Nat
def tw2398376030108732174:=Nat
def tw16794925384758617931:=Nat
def tw1665525969225695258:=Nat
def tw15446428201289682016:=Nat
def tw9978406376387844178:=Nat
def tw9480353213012604062:=Nat
def tw933962465313480703:=Nat
def tw9288620055320089021:=Nat
def tw9184009241728416035:=Nat
def tw8906066049328906825:=Nat
def tw8620144768317170424:=Nat
def tw8287640752792490487:=Nat
def tw815408568966643665:=Nat
def tw8084410938888262719:=Nat
def tw7691836867266580435:=Nat
def tw7592733129848421342:=Nat
def tw7526737874056869254:=Nat
def tw735341956551725186:=Nat
def tw7330963367092191982:=Nat
def tw7301885133526711907:=Nat
def tw7230329311040283174:=Nat
def tw7164557774528371680:=Nat
def tw7108128313190503895:=Nat
def tw6997344678653461502:=Nat
def tw6941071319319197517:=Nat
def tw6745012141232997508:=Nat
def tw6633223540620091482:=Nat
def tw6547720570696865607:=Nat
def tw6473741648522042955:=Nat
def tw6390018956527784484:=Nat
def tw6354497995444136445:=Nat
def tw6343906729440661880:=Nat
def tw6321324766900942147:=Nat
def tw6278246054229162778:=Nat
def tw6224655401918222764:=Nat
def tw613987117860505728:=Nat
def tw6129566383972093440:=Nat
def tw6127105495061759233:=Nat
def tw6064159645132516824:=Nat
def tw6036356677844641310:=Nat
def tw5997655193761866688:=Nat
def tw5863026030386241475:=Nat
def tw5835945103907327166:=Nat
def tw5753584599641780150:=Nat
def tw5657853275812549291:=Nat
def tw5633267730206490964:=Nat
def tw5226291704033009418:=Nat
def tw521740378111249229:=Nat
def tw4986978927553517409:=Nat
def tw4803466719712992955:=Nat
def tw475387774578794527:=Nat
def tw4704013097065236074:=Nat
def tw4450946819762938040:=Nat
def tw4375069209603105641:=Nat
def tw4363294014816523782:=Nat
def tw426858472107687963:=Nat
def tw4210639666820829574:=Nat
def tw3774358262143417671:=Nat
def tw3495601823604021232:=Nat
def tw3388526725224794476:=Nat
def tw3385779674957555900:=Nat
def tw3016435837793023472:=Nat
def tw2998108791553113655:=Nat
def tw2905582237384927289:=Nat
def tw2745241532313224645:=Nat
def tw2659669566261644293:=Nat
def tw2610974702757445031:=Nat
def tw2466939812390524038:=Nat
def tw2287392375405406705:=Nat
def tw2215463450613442569:=Nat
def tw2192304424439774889:=Nat
def tw2088741697907818158:=Nat
def tw18335973349575908464:=Nat
def tw18223350971254775226:=Nat
def tw18158647890804286408:=Nat
def tw18098422228367078534:=Nat
def tw17951924779687973038:=Nat
def tw17565033544224408144:=Nat
def tw17450557858013441298:=Nat
def tw17393318201908594976:=Nat
def tw17305991681162005712:=Nat
def tw1708165381159337200:=Nat
def tw1705751408683763901:=Nat
def tw17031335451379095450:=Nat
def tw16925432508937346922:=Nat
def tw16864229114478490398:=Nat
def tw16808778270062968498:=Nat
def tw16756425160391430075:=Nat
def tw16723034597488139934:=Nat
def tw16664867419205211905:=Nat
def tw16600444525130170173:=Nat
def tw16595822891967763633:=Nat
def tw16509079074101138377:=Nat
def tw16454957268718442739:=Nat
def tw16388963204252819948:=Nat
def tw16345731987967764408:=Nat
def tw16316005268171495535:=Nat
def tw162134370892306219:=Nat
def tw1613319105327047016:=Nat
def tw15912902254548387679:=Nat
def tw15856183912868708893:=Nat
def tw15831565263562970926:=Nat
def tw15827079927048403111:=Nat
def tw15821144193221062280:=Nat
def tw15741677703106224260:=Nat
def tw15301440017658941082:=Nat
def tw15260977117940438282:=Nat
def tw152004211095721365:=Nat
def tw15151669698571825903:=Nat
def tw1502305007060953632:=Nat
def tw14799048615130032586:=Nat
def tw14736147375789833048:=Nat
def tw14590045511828634323:=Nat
def tw14200682851679316283:=Nat
def tw14184614581437634:=Nat
def tw14020127036682173887:=Nat
def tw13994949279625676941:=Nat
def tw1360880179740478758:=Nat
def tw13510977679650852451:=Nat
def tw13405479646534290374:=Nat
def tw1337481644989484716:=Nat
def tw13180781776262300173:=Nat
def tw13064743128059501886:=Nat
def tw12936354461991798502:=Nat
def tw12526732081593687249:=Nat
def tw1237309341512279545:=Nat
def tw12311057855723246320:=Nat
def tw1219901893304740527:=Nat
def tw1204020310512066266:=Nat
def tw119695445432568206:=Nat
def tw11960370776250181720:=Nat
def tw1192663943627176235:=Nat
def tw1156163995454029707:=Nat
def tw11523753339774427075:=Nat
def tw1138101130802446784:=Nat
def tw1115819747215244455:=Nat
def tw11004957037523219971:=Nat
def tw10975754593779661094:=Nat
def tw1092072137448547515:=Nat
def tw10893902127233820491:=Nat
def tw10846977780212406463:=Nat
def tw1083182182154781922:=Nat
def tw10738564780647922282:=Nat
def tw10724014999665456914:=Nat
def tw10657217860093962340:=Nat
def tw10523708105160063033:=Nat
def tw10352851803782573293:=Nat
def tw10145612752584664219:=Nat
def tw10080713681943400895:=Nat
def tw10054553062005519411:=Nat
end PySem.W.Fast
open PySem PySem.W PyProof.Rows
set_option maxRecDepth 100000 in
set_option maxHeartbeats 0 in
theorem PySem.Challenge.cw_inkyears_k33_whole_datings_together_holds : PySem.Challenge.rw_inkyears_k33_whole_datings_together.Holds := by
 w_on;o_law;k_head;(case hw=>w_witness2)
 k_fill
 refine L2.dw3 (l:=PySem.Challenge.rw_inkyears_k33_whole_datings_together) (k:=10) (x:="_law_script") rfl rfl ⟨rfl,by decide,by decide⟩ (λw h Y=>PySem.W.kIn_of Y) ?F
 case F=>
  intro w mg fa h KX G hmg
  refine' Nk33.ec7 (cn:=λx=>[(("Archive":Str),?c_Archive),(("Ink":Str),?c_Ink),(("Reign":Str),?c_Reign),(("Under":Str),?c_Under),(("Between":Str),?c_Between),(("After":Str),?c_After),(("Same":Str),?c_Same),(("Within":Str),?c_Within),(("Apart":Str),?c_Apart)].lookup x) (Am0:=?c_Archive) (Am2:=?c_Ink) (Am3:=?c_Reign) (Am5:=?c_Under) (Am1:=?c_Between) (Al8:=?c_After) (Am4:=?c_Same) (Am6:=?c_Within) (Al9:=?c_Apart) KX G hmg ?a0 ?l0 ?c0 ?k0 ⟨?T0,?T1,?T2,?T3,?T4,?T5,?T6,?T7,?T8,?T9,?T10,?T11,?T12,?T13,?T14,?T15,?T16,?T17,?T18,?T19,?T20,?T21,?T22,?T23,?T24,?T25,?T26,?T27,?T28,?T29,?T30,?T31,?T32,?T33,?T34,?T35,?T36,?T37,?T38,?T39,?T40,?T41,?T42,?T43,?T44,?T45,?T46,?T47,?T48,?T49,?T50,?T51,?T52,?T53,?T54,?T55,?T56,?T57,?T58,?T59,?T60,?T61,?T62,?T63,?T64,?T65,?T66,?T67,?T68,?T69,?T70,?T71,?T72,?T73,?T74,?T75,?T76,?T77,?T78,?T79,?T80,?T81,?T82,?T83,?T84,?T85,?T86,?T87,?T88,?t0,?t1,?t2,?t3,?t4,?t5,?t6,?t7,?t8,?t9,?t10,?t11,?t12,?t13,?t14,?t15,?t16,?t17,?t18,?t19,?t20,?t21,?t22,?t23,?t24,?t25,?t26,?t27,?t28,?t29,?t30,?t31,?t32,?t33,?t34,?t35,?t36,?t37,?t38,?t39,?t40,?t41,?t42,?t43,?t44,?t45,?t46,?t47,?t48,?t49,?t50,?t51,?t52,?t53,?t54,?t55,?t56,?t57,?t58,?t59,?t60,?t61,?t62,?t63,?t64,?t65,?t66,?t67,?t68,?t69,?t70,?t71,?t72,?t73,?t74,?t75,?t76,?t77,?t78,?t79,?t80,?t81,?t82,?t83,?t84,?t85,?t86,?t87,?t88,?t89,?t90,?t91,?t92,?t93,?t94,?t95,?t96,?t97,?t98,?t99,?t100,?t101,?t102⟩ Nk33.main
  (case a0=>k_is);(case l0=>k_is);(case c0=>k_is);(case k0=>k_is)
  all_goals try(refine' L2.ei6 KX G ?a ?l ?c ?k;(case a=>k_is);(case l=>k_is);(case c=>k_is);(case k=>k_is))
  all_goals try(refine' L2.ek0 KX G ?g ?mk ?a ?b ?kc ?l ?c ?k;(case g=>k_is);(case mk=>k_is);(case a=>k_is);(case b=>k_is);(case kc=>k_is);(case l=>k_is);(case c=>k_is);(case k=>k_is))
  all_goals try(refine' L2.dr9 ?a ?b ?l ?c ?k;(case a=>k_is);(case b=>k_is);(case l=>k_is);(case c=>k_is);(case k=>k_is))
  all_goals try exact PySem.W.mg_none_of KX G (by k_is)
  all_goals try(refine' L2.eb6 KX G ?a ?r;(case a=>k_is);(case r=>exact⟨_,rfl⟩))
  case t94=>(refine' L2.bq2 KX G ?g ?l ?r ?nd ?sm;(case g=>k_is);(case l=>k_is);(case r=>exact .cons (.cons (.cons (.cons (.cons (.cons (.cons (.cons (.nil)))))))));(case nd=>decide+kernel);(case sm=>rfl))
  case T30=>(refine' L2.bq2 KX G ?g ?l ?r ?nd ?sm;(case g=>k_is);(case l=>k_is);(case r=>exact .cons (.cons (.cons (.cons (.cons (.nil))))));(case nd=>decide+kernel);(case sm=>rfl))
  case T31=>exact .cons (TL.mP (by k_is) (.int (.int .nil)) (by decide)) (.cons (TL.mP (by k_is) (.int (.int .nil)) (by decide)) (.cons (TL.mP (by k_is) (.int (.int .nil)) (by decide)) (.cons (TL.mP (by k_is) (.int (.int .nil)) (by decide)) (.cons (TL.mP (by k_is) (.int (.int .nil)) (by decide)) (.nil)))))
  case T32=>(refine' L2.bq2 KX G ?g ?l ?r ?nd ?sm;(case g=>k_is);(case l=>k_is);(case r=>exact .cons (.cons (.cons (.cons (.cons (.cons (.cons (.cons (.nil)))))))));(case nd=>decide+kernel);(case sm=>rfl))
  case T33=>exact .cons (TL.mP (by k_is) (.str (.str (.str (.str .nil)))) (by decide)) (.cons (TL.mP (by k_is) (.str (.str (.str .nil))) (by decide)) (.cons (TL.mP (by k_is) (.str (.str .nil)) (by decide)) (.cons (TL.mP (by k_is) (.str (.str (.str .nil))) (by decide)) (.cons (TL.mP (by k_is) (.str (.str .nil)) (by decide)) (.cons (TL.mP (by k_is) (.str (.str .nil)) (by decide)) (.cons (TL.mP (by k_is) (.str (.str (.str .nil))) (by decide)) (.cons (TL.mP (by k_is) (.str (.str (.str (.str .nil)))) (by decide)) (.nil))))))))
  all_goals try exact L2.ea9 KX G (by k_is) rfl
  case T34=>rfl
  case T36=>rfl
  case T38=>rfl
  case T40=>rfl
  case T42=>rfl
  case T44=>rfl
  case T46=>rfl
  case T48=>rfl
  case T50=>rfl
  all_goals try(refine' L2.eh7 ?a ?b ?c ?d;(case a=>k_is);(case b=>k_is);(case c=>k_is);(case d=>k_is))
  all_goals try exact L2.fc0 (by k_is)
