import PyProof.Rows.All
import Wide.All
import OpenK.AllK
import Wide.FinOn
import Lean
import PyProof.EqAt
import PyProof.EqKinds
import PyProof.TupleCall
import PyProof.NeKinds
import PyProof.Rows.CountFlat
import PyProof.Rows.SumAny
import PyProof.Rows.Range3
import KE.KEqDict
import KE.KRevIter
import PyProof.DictIter
import PyProof.DictWalks
import PyProof.IsiH_list
import KE.KDictOf
import PyProof.Rows.SetFrom
import PyProof.Conv_int_bool
import PyProof.Rows.StrNews
import PyProof.CallStr
import PyProof.Rows.StrMeet
import PyProof.FitsReplace
import PyProof.MeetsStr3
import PyProof.Rows.StrSplitAre
import PyProof.StrLawsIn
import PyProof.ReprLen
import PyProof.StrLawsChain
import KE.IntTextLaws
import PyProof.Rows.StrClose5
import KE.KSortTup
import PyProof.Rows.SortKey
import PyProof.DictUpdate
import KE.KDictSum
import PyProof.WalksEnum
import PyProof.EnumMake
import PyProof.ZipIter
import PyProof.Rows.EnumRows
import PyProof.Rows.ZipForRows
import PyProof.Rows.FactsT2
import PyProof.Rows.SortStr
import PyProof.TupleIter
import KE.KLam
import PyProof.ToksMono
import PySem.Challenge.RW_fleetpath_k81_ways_held
set_option hygiene false in
local macro_rules | `(tactic| ac_rfl)=>`(tactic| first|assumption|exact Inv.tk (by assumption)|exact Nat.le_trans (Inv.tk (by assumption)) (Nat.le_add_right _ _)|exact Nat.le_succ_of_le (Nat.le_trans (Inv.tk (by assumption)) (Nat.le_add_right _ _)))
set_option compiler.extract_closed false
set_option bootstrap.genMatcherCode false
set_option genInjectivity false
set_option genSizeOf false
set_option genSizeOfSpec false
set_option Elab.async false
set_option linter.all false
set_option maxRecDepth 100000
noncomputable section
def f8:=@PySem.wpAny_bind
def u8:=@Option.map_eq_some_iff
def v4:=@PySem.wpAny_pure
def D0:=@List.length_map
def D2:=@PySem.Heap.get?_push_of_some
def D3:=@Nat.le_refl
def D4:=@List.length_cons
def D5:=@List.mem_cons_of_mem
def D6:=@decide_eq_true
def D7:=@decide_eq_false
def D8:=@List.mem_cons_self
def D9:=@PySem.Heap.lt_size
def E5:=@List.getElem?_eq_getElem
def E6:=@List.map_cons
def E7:=@Nat.lt_of_lt_of_le
def E8:=@List.length_append
def E9:=@PySem.AutoSeq1.wpAny_loadPart'
def F0:=@List.size_toArray
def F1:=@Nat.ne_of_lt
def F2:=@Nat.le_trans
def F3:=@List.getElem?_eq_some_iff
def F4:=@List.getElem?_map
def F5:=@Option.bind_eq_some_iff
def F6:=@Bool.false_ne_true
def F7:=@List.mem_singleton
def F8:=@PySem.Heap.get?_push_size
def F9:=@Nat.le_of_ble_eq_true
def G0:=@List.mem_cons
def G4:=@Option.some.inj
def G5:=@List.map_map
def G6:=@List.getElem?_set_ne
def G7:=@List.mem_map
def G8:=@List.mem_append
def G9:=@List.mem_append_left
def I0:=@beq_iff_eq
def L4:=@List.getElem?_set_self
def L5:=@List.lookup_cons
def L6:=@List.getElem?_cons_succ
def L7:=@List.mem_append_right
def L8:=@PySem.wpAny_holding
def L9:=@PySem.Heap.get?_update_other
def M3:=@List.length_set
def M4:=@congrArg
def M5:=@List.append_nil
def M6:=@List.map_append
def M7:=@Nat.zero_le
def M8:=@Bool.false_xor
def M9:=@PySem.wpAny_field
def N4:=@PySem.MeetsSeq3.plain_eq_loop
def N5:=@PySem.wpAny_with_toks
def N6:=@PySem.Calls.spliced_cons
def N7:=@Sum.inr.inj
def N8:=@Bool.and_eq_true
def N9:=@List.getElem?_append_left
def O0:=@beq_eq_false_iff_ne
def O1:=@Option.isSome_map
def O2:=@PySem.Paired.length
def O3:=@Nat.lt_irrefl
def O4:=@Option.isSome_iff_exists
def O5:=@PySem.Heap.get?_update_self
def O6:=@Classical.choose_spec
def O7:=@List.nodup_cons
def O8:=@Int.le_refl
def O9:=@PySem.wpAny_Call_Name_kw
def P0:=@List.take_succ_eq_append_getElem
def P1:=@decide_eq_decide
def P2:=@List.getElem?_append_right
def P4:=@Nat.ne_of_gt
def P5:=@PySem.tupleKind_room_in1
def P6:=@Nat.lt_of_le_of_lt
def P7:=@List.any_cons
def P8:=@PySem.wpAny_newObj_type
def P9:=@PyProof.Rows.callWith_type1
def R4:=@List.find?_cons
def R7:=@List.replicate_succ
def R8:=@List.map_congr_left
def R9:=@PySem.wpAny_nextOf_list_item
def S0:=@PySem.wpAny_mono
def S4:=@List.length_drop
def S5:=@PySem.F.slot_dict_get
def S6:=@PySem.wpAny_setField_rec
def S7:=@Nat.le_succ
def S8:=@List.mem_of_getElem?
def S9:=@PySem.Around.under_plainId
def T1:=@PySem.W.mg_none_of
def T2:=@beq_self_eq_true
def T3:=@PySem.wpAny_seqItems
def T4:=@PySem.Calls.callWith_builtin
def T5:=@PySem.W.callWith_K
def T6:=@PySem.wpAny_passesOwn
def T7:=@List.length_replicate
def T9:=@PySem.builtinLookup_eq_fast
def a0a:=@List.all_cons
def a0b:=@Bool.true_and
def a0c:=@PySem.plainId_quiet
def a0d:=@PySem.Calls.spliced_nil
def a0e:=@List.flatten_cons
def a0f:=@List.append_assoc
def a0g:=@List.length_range
def a0h:=@decide_eq_true_eq
def a0i:=@PySem.Calls.evalArgs_plain
def a0j:=@PySem.sizeLine_eq
def a0k:=@PySem.Heap.size_push
def a0l:=@Nat.lt_succ_self
def a0m:=@PySem.wpAny_typeOf
def a0n:=@List.filter_cons
def a0o:=@List.all_eq_true
def a0p:=@PySem.wpAny_isInstance
def a0q:=@List.take_length
def a0r:=@PySem.mem_of_lookup
def a0s:=@List.getElem?_replicate
def a0t:=@PySem.F.plainAttrs_list
def a0u:=@PySem.MeetsSeq3.entry_eq_loop
def a0v:=@PySem.W.mg_of
def a0w:=@List.foldl_cons
def a0x:=@List.nil_append
def a0y:=@List.length_nil
def a0z:=@PySem.codeAny_builtin
def a0A:=@PySem.F.entry_dict_get
def a0B:=@List.take_of_length_le
def a0C:=@List.mem_range
def a0D:=@PySem.codeAny_mono
def a0E:=@PySem.call_meetsIn
def a0F:=@Bool.and_false
def a0G:=@PySem.wpAny_nextOf_list_end
def a0H:=@List.getElem?_toArray
def a0I:=@List.dropLast_concat_getLast
def a0J:=@Nat.le_add_right
def a0K:=@PySem.wpAny_call
def a0L:=@List.length_take
def a0M:=@Nat.succ_le_succ
def a0N:=@List.getElem_mem
def a0O:=@Array.getElem?_eq_some_iff
def a0P:=@PySem.wpAny_attempt
def a0Q:=@Bool.true_xor
def a0R:=@List.getD_eq_getElem?_getD
def a0S:=@List.length_reverse
def a0T:=@List.mem_filter
def a0U:=@PySem.wpAny_specialOf
def a0V:=@PySem.typeLookup_type
def a0W:=@Nat.lt_trans
def a0X:=@Int.emod_lt_of_pos
def a0Y:=@PySem.wpAny_loadPart
def a0Z:=@PySem.F.plainAttrs_dict
def a00:=@Int.eq_ofNat_of_zero_le
def a01:=@List.getLast?_cons_cons
def a02:=@PySem.wpAny_truthy_bool
def a03:=@List.nodup_append
def a04:=@PySem.W.cellsFrom_some
def a05:=@PySem.wpAny_standAt
def a06:=@PySem.wpAny_onRaise
def a07:=@PySem.wpAny_call_entry
def a08:=@List.getElem?_reverse
def a09:=@PySem.plainObj_wpAny_Assign_Attribute
def a1a:=@PyProof.Rows.slot_tuple_getitem
def a1b:=@PySem.wpAny_execs_nil
def a1c:=@List.of_mem_zip
def a1d:=@PySem.codeAny_call_builtin
def a1e:=@List.getElem?_append
def a1f:=@PySem.wpAny_updateSeq
def a1g:=@Nat.not_lt_zero
def a1h:=@PySem.wpAny_updateSeq_pair
def a1i:=@PySem.F.slot_zip_next
def a1j:=@Int.emod_nonneg
def a1k:=@List.filterMap_cons
def a1l:=@PySem.W.plainGet_of
def a1m:=@Array.length_toList
def a1n:=@List.mem_map_of_mem
def a1o:=@List.nodup_nil
def a1p:=@PySem.wpAny_letGo
def a1q:=@PySem.Calls.Constant_str
def a1r:=@PySem.wpAny_richCompare_same_room
def a1s:=@PySem.Calls.Name_function_global
def a1t:=@PySem.wpAny_newFunctionEnv_cells
def a1u:=@List.sum_cons
def a1v:=@List.nodup_iff_pairwise_ne
def a1w:=@Nat.le_succ_of_le
def a1x:=@PySem.Within.cons
def a1y:=@PySem.codeAny_with_toks
def a1z:=@PySem.wpAny_Call_method
def a1A:=@Nat.le_of_succ_le
def a1B:=@Nat.lt_succ_of_lt
def a1C:=@Int.toNat_natCast
def a1D:=@of_decide_eq_true
def a1E:=@List.reverse_cons
def a1F:=@PySem.call_meets
def a1G:=@List.drop_eq_getElem_cons
def a1H:=@List.getElem?_eq_none_iff
def a1I:=@PySem.F.plain_extend_loop
def a1J:=@PySem.wpAny_rule
def a1K:=@List.mem_or_eq_of_mem_set
def a1L:=@Nat.le_of_lt
def a1M:=@PySem.wpAny_execs_cons
def a1N:=@PySem.wpAny_lookBehind
def a1O:=@PySem.pastItsLine_dict
def a1P:=@Nat.le_of_eq
def a1Q:=@PySem.W.looks_findIn
def a1R:=@PySem.wpAny_comprehension_free
def a1S:=@PySem.SeqAt.RcAt.lists_lengths
def a1T:=@PySem.F.slot_list_append
def a1U:=@PySem.F.type_list_append
def a1V:=@PySem.F.args_list_init_2
def a1W:=@Nat.sub_self
def a1X:=@PySem.F.slot_list_insert
def a1Y:=@List.eq_of_mem_replicate
def a1Z:=@List.mem_of_mem_eraseIdx
def a10:=@List.map_set
def a11:=@PySem.F.args_dict_get_2
def a12:=@PySem.F.args_dict_get_3
def a13:=@PySem.F.typeCall_list_1
def a14:=@PySem.F.entry_list_init
def a15:=@List.eraseIdx_cons_succ
def a16:=@PySem.SeqAt.EqAt.same
def a17:=@PySem.pushCells_keeps
def a18:=@PyProof.Rows.subscriptTail_builtinR
def a19:=@PySem.wpAny_Call_method_late
def a2a:=@PySem.W.looks_mroIn
def a2b:=@Array.getElem?_eq_none
def a2c:=@PyProof.Rows.boot_list
def a2d:=@PySem.AutoSeq1.sub_list_list
def a2e:=@PySem.wpAny_of_eq
def a2f:=@PySem.codeAny_call_function
def a2g:=@Array.getElem?_toList
def a2h:=@List.length_filter_le
def a2i:=@PySem.F.slot_dict_pop
def a2j:=@PySem.F.type_dict_get
def a2k:=@PySem.wpAny_setField
def a2l:=@PySem.getitemInPython_of_ne
def a2m:=@PySem.isSubtype_type
def a2n:=@PySem.callType_codes
def a2o:=@List.getElem?_eq_none
def a2p:=@Bool.and_eq_false_iff
def a2q:=@PySem.wpAny_loadName_local
def a2r:=@PySem.wpAny_load
def a2s:=@Array.mem_toList_iff
def a2t:=@Bool.and_eq_true_iff
def a2u:=@PySem.wpAny_letTemporaryGo
def a2v:=@PySem.codeAny_extend_loopS
def a2w:=@PySem.F.slot_list_eq
def a2x:=@PySem.F.slot_list_ne
def a2y:=@List.reverse_reverse
def a2z:=@List.getLast?_concat
def a2A:=@List.getElem?_of_mem
def a2B:=@List.length_eraseIdx
def a2C:=@Bool.and_true
def a2D:=@List.map_take
def a2E:=@List.map_drop
def a2F:=@PySem.Moved.eq_with
def a2G:=@PySem.wpAny_loadName_cell
def a2H:=@PySem.Heap.get?_update_ne
def a2I:=@PySem.F.called_list
def a2J:=@List.take_succ_cons
def a2K:=@List.drop_succ_cons
def a2L:=@PySem.SeqAt.EqAt.int_str
def a2M:=@PySem.SeqAt.EqAt.str_int
def a2N:=@PySem.wpAny_Constant_int
def a2O:=@List.mem_filterMap
def a2P:=@Array.find?_toList
def a2Q:=@PySem.wpAny_nsSet1
def a2R:=@PySem.W.codeRec_of
def a2S:=@PySem.seqIndex_neg
def a2T:=@List.map_nil
def a2U:=@PySem.wpAny_getItem_heap
def a2V:=@List.find?_eq_none
def a2W:=@PySem.Code.quiet_builtin
def a2X:=@PySem.wpAny_mkText
def a2Y:=@List.getElem_range
def a2Z:=@Nat.zero_add
def a20:=@Int.zero_add
def a21:=@List.getElem?_drop
def a22:=@PySem.seqIndex_of
def a23:=@PySem.W.looks_clsIn
def a24:=@PySem.wpAny_throw
section
open PySem PySem.Spec PyProof.Rows PySem.W
abbrev D_:=(List (Addr×Obj))
abbrev Ea:=List Str
abbrev Eb:=List Nat
abbrev Ec:=(Value->Shared->Prop)
abbrev Ed:=(Str->Option Value)
abbrev Ee:=(Addr->Prop)
abbrev Ef:=Shared
abbrev Eg:=List Expr
abbrev Eh:=Expr
abbrev Ej:=PySem.W.Frag
abbrev Ek:=List Bool
abbrev El:=List Value
abbrev Em:=(Nat->Addr)
abbrev Eo:=Program
abbrev Es:=World
abbrev Et:=List (Option Nat)
abbrev Eu:=FuncData
abbrev Ey:=Around
abbrev Ez:=Array (Option Value)
abbrev EA:=Array Value
abbrev EB:=List Int
abbrev EC:=List Stmt
abbrev ED:=(List (Str×Addr))
abbrev EE:=Frag
abbrev EG:=(List (Str×NameKind))
abbrev EH:=Option Addr
abbrev EJ:=Option Int
abbrev EO:=W.Frag
abbrev ER:=Stmt
abbrev ES:=List Addr
abbrev EU:=(List (Str×Value))
abbrev EW:=(Str->Option NameKind)
abbrev EX:=Option Expr
abbrev EZ:=Option (List Str)
abbrev Fb:=(Value->Option Bool)
abbrev Fc:=(Nat->Value)
abbrev Fd:=(Nat->Bool)
end
abbrev Fe:List Nat:=[0,0,0,0,0,0]
abbrev Ff:List Nat:=[0,0,0,0,0,0,0]
namespace L2
open PySem PySem.Spec PyProof.Rows
abbrev Key:=Sum Int Str
abbrev EL:=(List (Key×Value))
abbrev ET:=List Key
abbrev EV:=(List (List Key×Int))
def aP:Key->Value->Bool
 |.inl k,v=>Value.isInt k v
 |.inr x,v=>Value.isStrOf x v
def Dq(w:Es):Key->Int
 |.inl k=>hashInt k
 |.inr x=>hashStr w x
def yJ:∀{k:Key}{v:Value},aP k v=true->(∃i t,k=Sum.inl i/\v=Value.int i t)\/(∃x t,k=Sum.inr x/\v=Value.str x t)
 |.inl i,v,h=>by obtain⟨t,e⟩:=Value.isInt_shape (k:=i) (v:=v) h;exact .inl ⟨i,t,rfl,e⟩
 |.inr x,v,h=>by obtain⟨t,e⟩:=Value.isStrOf_shape (x:=x) (v:=v) h;exact .inr ⟨x,t,rfl,e⟩
def fg(i:Int)(t:Tok):aP (.inl i) (.int i t)=true:=by simp[aP,Value.isInt]
def fh(x:Str)(t:Tok):aP (.inr x) (.str x t)=true:=by simp[aP,Value.isStrOf]
def uy(a b:Int):decide ((Sum.inl a:Key)=Sum.inl b)=(a==b):=by
 by_cases e:a=b
 .subst e;simp
 .have h:¬(Sum.inl a:Key)=Sum.inl b:=λq=>e (Sum.inl.inj q);rw[D7 h];exact(O0.mpr e).symm
def uz(a b:Str):decide ((Sum.inr a:Key)=Sum.inr b)=decide (a=b):=by
 by_cases e:a=b
 .subst e;simp
 .have h:¬(Sum.inr a:Key)=Sum.inr b:=λq=>e (N7 q);rw[D7 h,D7 e]
def uA(a:Int)(b:Str):decide ((Sum.inl a:Key)=Sum.inr b)=false:=D7 (λq=>nomatch q)
def uB(a:Str)(b:Int):decide ((Sum.inr a:Key)=Sum.inl b)=false:=D7 (λq=>nomatch q)
def yf(prog:Eo)(w:Es):PySem.KeyKind prog w Key where
 is:=aP
 hash:=Dq w
 inj:=λv a b ha hb=>by
  rcases yJ ha with⟨i,t,rfl,rfl⟩|⟨x,t,rfl,rfl⟩
  .rcases yJ hb with⟨j,u,rfl,e⟩|⟨y,u,rfl,e⟩
   .injection e with e1 _;rw[e1]
   .exact nomatch e
  .rcases yJ hb with⟨j,u,rfl,e⟩|⟨y,u,rfl,e⟩
   .exact nomatch e
   .injection e with e1 _;rw[e1]
 byValue:=λk v h=>by rcases yJ h with⟨i,t,rfl,rfl⟩|⟨x,t,rfl,rfl⟩<;>rfl
 pyHash:=λhv h=>by
  rcases yJ hv with⟨i,t,rfl,rfl⟩|⟨x,t,rfl,rfl⟩
  .exact wpAny_pyHash_int h
  .exact wpAny_pyHash_str h
 eqBool:=λhu hv h=>by
  rcases yJ hu with⟨i,t,rfl,rfl⟩|⟨x,t,rfl,rfl⟩
  .rcases yJ hv with⟨j,u,rfl,rfl⟩|⟨y,u,rfl,rfl⟩
   .rw[uy]at h;exact wpAny_eqBool_int h
   .rw[uA]at h;exact a2L i t y u _ _ _ _ h
  .rcases yJ hv with⟨j,u,rfl,rfl⟩|⟨y,u,rfl,rfl⟩
   .rw[uB]at h;exact a2M x t j u _ _ _ _ h
   .rw[uz]at h;exact wpAny_eqBool_str h
 «strs»:=λk x t v h=>by
  rcases yJ h with⟨i,u,rfl,e⟩|⟨y,u,rfl,e⟩
  .exact nomatch e
  .injection e with e1 _
   subst e1;cases v<;>rfl
def dF(prog:Eo)(w:Es)(k:Key)(v:Value):(yf prog w).is k v=aP k v:=rfl
def aQ(prog:Eo)(w:Es)(i:Int)(t:Tok):(yf prog w).is (.inl i) (.int i t)=true:=fg i t
def aR(prog:Eo)(w:Es)(x:Str)(t:Tok):(yf prog w).is (.inr x) (.str x t)=true:=fh x t
inductive V where
 |non|bl (b:Bool)|int (i:Int)|str (x:Str)|byt (b:Array UInt8)|flt (b:UInt64)|ref (a:Addr)|ty (n:String)
 deriving DecidableEq
abbrev Ei:=(List (Key×V))
abbrev En:=List V
abbrev EF:=(List (Str×V))
abbrev EY:=(List (List Key×V))
def RelV:V->Value->Prop
 |.non,u=>u=Value.none
 |.bl b,u=>u=Value.bool b
 |.int i,u=>∃t,u=Value.int i t
 |.str x,u=>∃t,u=Value.str x t
 |.byt b,u=>∃t,u=Value.bytes b t
 |.flt b,u=>∃t,u=Value.float b t
 |.ref a,u=>u=Value.ref a
 |.ty n,u=>u=Value.type n
abbrev Vals:List V->List Value->Prop:=Paired RelV
def Vals.length(r:Vals xs us):xs.length=us.length:=O2 r
def Vals.get:∀{b:En}{a:El}{i:Nat}{x:V},Vals b a->b[i]?=some x->∃u,a[i]?=some u/\RelV x u
 |_,_,_,_,.nil,e=>by simp at e
 |_,_,0,_,.cons r _,e=>by simp at e;subst e;exact⟨_,rfl,r⟩
 |_,_,i+1,x,.cons _ t,e=>by obtain⟨u,c,d⟩:=Vals.get (i:=i) (x:=x) t (by simpa using e);exact⟨u,by simpa using c,d⟩
def Vals.set{x:V}{u:Value}(r:RelV x u):∀{a:En}{b:El}(i:Nat),Vals a b->Vals (a.set i x) (b.set i u)
 |_,_,_,.nil=>.nil
 |_,_,0,.cons _ t=>.cons r t
 |_,_,i+1,.cons q t=>.cons q (Vals.set r i t)
def Vals.append:∀{d b:En}{c a:El},Vals d c->Vals b a->Vals (d++b) (c++a)
 |_,_,_,_,.nil,s=>s
 |_,_,_,_,.cons r t,s=>.cons r (Vals.append t s)
def Vals.take:∀{a:En}{b:El}(n:Nat),Vals a b->Vals (a.take n) (b.take n)
 |_,_,0,_=>.nil
 |_,_,_+1,.nil=>.nil
 |_,_,n+1,.cons r t=>.cons r (Vals.take n t)
def Vals.drop:∀{a:En}{b:El}(n:Nat),Vals a b->Vals (a.drop n) (b.drop n)
 |_,_,0,r=>r
 |_,_,_+1,.nil=>.nil
 |_,_,n+1,.cons _ t=>Vals.drop n t
def JF:Option V->Option Value->Prop
 |some v,some u=>RelV v u
 |none,none=>True
 |_,_=>False
def KV{a:Type}:List (a×V)->List (a×Value)->Prop:=Paired λ(p:a×V) (q:a×Value)=>p.1=q.1/\RelV p.2 q.2
def kV:Key->V
 |.inl i=>.int i
 |.inr x=>.str x
inductive HO where
 |lst (xs:En)
 |tup (xs:En)
 |dK (kvs:Ei)|dT (kvs:EY)
 |set (S:Int->Bool) (n:Nat)
 |ins (C dx:Addr) (fs:EF)
 |own (x:Addr)
 |xd (fs:EF)
 |met (f x:Addr)
 |rng (lo hi:Int)
 |frz (o:Obj) (u:HO)
 |tbl (ps:EA)
 |ext (φ:Heap->Prop)
abbrev Hp:=Addr->Option HO
def upd(H:Hp)(a:Addr)(o:HO):Hp:=λb=>if b=a then some o else H b
def zi:upd H a o a=some o:=by unfold upd;rw[if_pos rfl]
def zm(h:b≠a):upd H a o b=H b:=by unfold upd;rw[if_neg h]
def KG:upd (upd H a o) a u=upd H a u:=by
 funext b;unfold upd;split<;>rfl
def Bu{H:Hp}{a b:Addr}{o u:HO}(h:H a=some o)(h':H b=some u)(d:o≠u):a≠b:=by intro e;subst e;rw[h]at h';exact d (G4 h')
def zR{H:Hp}{a b:Addr}{o:HO}(h:H a=some o)(h':H b=none):a≠b:=by intro e;subst e;rw[h]at h';cases h'
section
variable (P:Eo) (w:Es)
def y3(H:Hp)(h:Heap)(a:Addr):HO->Prop
 |.lst d=>d.length<=sizeLine/\∃(b:El)(n:Nat),Vals d b/\h.get? a=some { cls:=.type "list",data:=.seq b.toArray n }
 |.tup d=>d.length<=sizeLine/\∃b:List Value,Vals d b/\IsTup h a b.toArray
 |.dK c=>c.length<=sizeLine/\(a==sysModules)=false/\∃j,KV c j/\h.DictOf (yf P w) a j
 |.dT c=>c.length<=sizeLine/\(a==sysModules)=false/\∃d:List (List Key×Addr×Value),
   Paired (λ(p:List Key×V) (q:List Key×Addr×Value)=>p.1=q.1/\H q.2.1=some (.tup (p.1.map kV))/\RelV p.2 q.2.2) c d/\
   ∃o m y,h.get? a=some o/\o.ExactDict/\o.data=.dict m y/\m.toList=d.map (entryOfKey (tupleKind (yf P w)))/\(d.map (·.1)).Nodup
 |.set S n=>h.SetOf (intKind P w) a S n
 |.ins C g fs=>H g=some (.own a)/\fs.length<=1000/\g≠a/\h.get? a=some (PySem.W.instObj C g)/\
   ∃e,h.Ns1 g e/\(∀f,JF (fs.lookup f) (e f))/\PySem.Within e (fs.map (·.1))
 |.own _=>∃o,h.get? a=some o
 |.xd fs=>∃e,h.Ns1 a e/\∀f,JF (fs.lookup f) (e f)
 |.rng A z=>∃t u v,h.get? a=some { cls:=.type "range",data:=.fields #[.int A t,.int z u,.int 1 v] }
 |.frz o u=>h.get? a=some o/\y3 H h a u
 |.tbl s=>h.get? a=some { cls:=.none,data:=.fields s }
 |.met f x=>h.get? a=some (PySem.W.methodObj (.ref f) (.ref x))
 |.ext i=>i h/\(∃o,h.get? a=some o)/\∀r l:Heap,i r->(∀o,r.get? a=some o->l.get? a=some o)->i l
def HOk(H:Hp)(h:Heap):Prop:=∀a o,H a=some o->y3 P w H h a o
end
section
variable {P:Eo}{w:Es}{H H':Hp}{h h':Heap}{a:Addr}{o:HO}
def y3.lt(x:y3 P w H h a o):a<h.objs.size:=by
 cases o with
 |lst c=>obtain⟨_,_,_,_,e⟩:=x;exact D9 e
 |tup c=>obtain⟨_,_,_,p⟩:=x;exact p.lt
 |dK b=>obtain⟨_,_,_,_,o,_,_,e,_⟩:=x;exact D9 e
 |dT b=>obtain⟨_,_,_,_,o,_,_,e,_⟩:=x;exact D9 e
 |set S n=>obtain⟨o,_,_,_,e,_⟩:=x;exact D9 e
 |ins C g fs=>obtain⟨_,_,_,e,_⟩:=x;exact D9 e
 |own y=>obtain⟨_,e⟩:=x;exact D9 e
 |xd fs=>obtain⟨_,⟨_,_,_,e,_⟩,_⟩:=x;exact D9 e
 |rng i l=>obtain⟨_,_,_,e⟩:=x;exact D9 e
 |frz ob u=>obtain⟨e,_⟩:=x;exact D9 e
 |tbl d=>exact D9 (show h.get? a=some _ from x)
 |met f y=>exact D9 (show h.get? a=some _ from x)
 |ext j=>obtain⟨_,⟨_,e⟩,_⟩:=x;exact D9 e
def Paired.Bv{g e:Type}{F G:g->e->Prop}:∀{d:List g}{c:List e},Paired F d c->(∀a b,F a b->G a b)->Paired G d c
 |_,_,.nil,_=>.nil
 |_,_,.cons r t,f=>.cons (f _ _ r) (Paired.Bv t f)
def y3.lM(x:y3 P w H h a o)(k:∀b u,(b=a\/H b=some (.own a))->h.get? b=some u->h'.get? b=some u)
  (F:∀b,H b=some (.own a)->H' b=some (.own a)) (J:∀b l,H b=some (.tup l)->H' b=some (.tup l)):y3 P w H' h' a o:=by
 induction o with
 |lst l=>obtain⟨z,j,n,r,e⟩:=x;exact⟨z,j,n,r,k _ _ (.inl rfl) e⟩
 |tup l=>obtain⟨z,j,r,ob,e,c⟩:=x;exact⟨z,j,r,ob,k _ _ (.inl rfl) e,c⟩
 |dK s=>obtain⟨z,y,D,r,ob,i,g,e,c⟩:=x;exact⟨z,y,D,r,ob,i,g,k _ _ (.inl rfl) e,c⟩
 |dT s=>obtain⟨z,y,l,r,ob,i,g,e,c⟩:=x;exact⟨z,y,l,Paired.Bv r λp q z=>⟨z.1,J _ _ z.2.1,z.2.2⟩,ob,i,g,k _ _ (.inl rfl) e,c⟩
 |set S n=>obtain⟨ob,i,g,t,e,c⟩:=x;exact⟨ob,i,g,t,k _ _ (.inl rfl) e,c⟩
 |ins C K fs=>obtain⟨d,z,G,e,m,⟨od,i,g,E,c⟩,r⟩:=x;exact⟨F _ d,z,G,k _ _ (.inl rfl) e,m,⟨od,i,g,k _ _ (.inr d) E,c⟩,r⟩
 |own y=>obtain⟨ob,e⟩:=x;exact⟨ob,k _ _ (.inl rfl) e⟩
 |xd fs=>obtain⟨m,⟨od,i,g,e,c⟩,r⟩:=x;exact⟨m,⟨od,i,g,k _ _ (.inl rfl) e,c⟩,r⟩
 |rng N M=>obtain⟨t,u,v,e⟩:=x;exact⟨t,u,v,k _ _ (.inl rfl) e⟩
 |frz ob u I=>obtain⟨e,q⟩:=x;exact⟨k _ _ (.inl rfl) e,I q⟩
 |tbl A=>have e:h.get? a=some { cls:=.none,data:=.fields A }:=x;show h'.get? a=some { cls:=.none,data:=.fields A };exact k a _ (.inl rfl) e
 |met f y=>have e:h.get? a=some (PySem.W.methodObj (.ref f) (.ref y)):=x;show h'.get? a=some (PySem.W.methodObj (.ref f) (.ref y));exact k a _ (.inl rfl) e
 |ext L=>obtain⟨p,⟨o,e⟩,B⟩:=x;exact⟨B _ _ p λo q=>k _ _ (.inl rfl) q,⟨o,k _ _ (.inl rfl) e⟩,B⟩
def HOk.lt(x:HOk P w H h)(e:H a=some o):a<h.objs.size:=(x a o e).lt
def HOk.fresh(x:HOk P w H h)(e:h.objs.size<=a):H a=none:=by
 cases q:H a with
 |none=>rfl
 |some u=>exact absurd (E7 (x.lt q) e) (O3 _)
def HOk.kept(x:HOk P w H h)(k:∀b u,h.get? b=some u->h'.get? b=some u):HOk P w H h':=λa o e=>
 (x a o e).lM (λb u _ q=>k b u q) (λ_ q=>q) λ_ _ q=>q
def HOk.laid(x:HOk P w H h)(k:∀b u,h.get? b=some u->h'.get? b=some u)(hp:h.objs.size<=a)(new:y3 P w (upd H a o) h' a o):HOk P w (upd H a o) h':=λb u e=>by
 have d:=x.fresh hp;by_cases hb:b=a
 .subst hb;rw[zi]at e;cases e;exact new
 .rw[zm hb]at e;exact(x b u e).lM (λc v _ q=>k c v q) (λc q=>by rw[zm (zR q d)];exact q) λc f q=>by rw[zm (zR q d)];exact q
end
def Rd(H:Hp)(a:Addr)(u:HO):Prop:=H a=some u\/∃o,H a=some (.frz o u)
def Rd.ok(r:Rd H a u)(x:HOk P w H h):y3 P w H h a u:=by
 rcases r with r|⟨o,r⟩
 .exact x a u r
 .obtain⟨_,q⟩:=x a _ r;exact q
def Mut:Option HO->Prop
 |some (.lst _)=>True
 |some (.dK _)=>True
 |some (.dT _)=>True
 |some (.set _ _)=>True
 |some (.ins _ _ _)=>True
 |some (.ext _)=>True
 |_=>False
def HOk.write(ok:HOk P w H h)(g:Mut (H x))(he:e=x\/H e=some (.own x))(k:∀b u,b≠e->h.get? b=some u->h'.get? b=some u)(l:∃u,h'.get? e=some u)
  (new:y3 P w (upd H x o') h' x o'):HOk P w (upd H x o') h':=λb u q=>by
 have d:∀c y,H c=some (.own y)->c≠x:=λc y r z=>by subst z;rw[r]at g;exact g
 have f:∀c j,H c=some (.tup j)->c≠x:=λc j r z=>by subst z;rw[r]at g;exact g
 by_cases hb:b=x
 .subst hb;rw[zi]at q;cases q;exact new
 .rw[zm hb]at q;by_cases a:b=e
  .have m:H b=some (.own x):=by
    rcases he with z|z
    .exact absurd (a.trans z) hb
    .rw[a];exact z
   rw[q]at m;cases m;obtain⟨v,n⟩:=l;exact⟨v,by rw[a];exact n⟩
  .refine(ok b u q).lM (λc v i r=>k c v ?_ r) (λc r=>by rw[zm (d c b r)];exact r) λc j r=>by rw[zm (f c j r)];exact r
   rcases i with rfl|i
   .exact a
   .rintro rfl
    rcases he with z|z
    .exact d c b i z
    .rw[i]at z;cases z;exact hb rfl
structure Un(fs ex:ES)(H H':Hp)(h h':Heap):Prop where
 keep:∀b o,h.get? b=some o->H b=none->b∉fs->b∉ex->h'.get? b=some o
 slot:∀b o,h.get? b=some o->H b=none->b∈fs->b∉ex->∃sl,h'.get? b=some { o with slots:=sl }
 free:∀b o,h.get? b=some o->H b=none->b∉ex->H' b=none
 there:∀b o,h.get? b=some o->b∉ex->∃o',h'.get? b=some o'
 oC:∀b xs,H b=some (.tup xs)->H' b=some (.tup xs)
 lG:∀b o u,H b=some (.frz o u)->H' b=some (.frz o u)
 oE:∀b ps,H b=some (.tbl ps)->∃more,H' b=some (.tbl (ps++more))
section
variable {fs ex:ES}{H H1:Hp}{h h1 h':Heap}{a x e:Addr}{o:HO}
def Un.any(u:Un fs ex H H1 h h1)(q:h.get? b=some ob)(n:H b=none)(c:b∉ex):∃d,h1.get? b=some { ob with slots:=d }:=by
 by_cases hb:b∈fs
 .exact u.slot b ob q n hb c
 .exact⟨ob.slots,u.keep b ob q n hb c⟩
def Un.kept(k:∀b u,h.get? b=some u->h'.get? b=some u):Un fs ex H H h h':=
 ⟨λb ob q _ _ _=>k b ob q,λb ob q _ _ _=>⟨ob.slots,k b ob q⟩,λ_ _ _ n _=>n,λb ob q _=>⟨ob,k b ob q⟩,λ_ _ q=>q,λ_ _ _ q=>q,λ_ c q=>⟨#[],by rw[q];simp⟩⟩
def Un.refl:Un fs ex H H h h:=Un.kept λ_ _ q=>q
def Un.laid(k:∀b u,h.get? b=some u->h'.get? b=some u)(hp:h.objs.size<=a)(c:H a=none):Un fs ex H (upd H a o) h h' where
 keep:=λb u q _ _ _=>k b u q
 slot:=λb u q _ _ _=>⟨u.slots,k b u q⟩
 free:=λb u q n _=>by rw[zm (F1 (E7 (D9 q) hp))];exact n
 there:=λb u q _=>⟨u,k b u q⟩
 oC:=λb d q=>by rw[zm (zR q c)];exact q
 lG:=λb u d q=>by rw[zm (zR q c)];exact q
 oE:=λb f q=>⟨#[],by rw[zm (zR q c),q];simp⟩
def Un.write(d:Mut (H x))(he:e=x\/H e=some (.own x))(k:∀b u,b≠e->h.get? b=some u->h'.get? b=some u)(g:∃u,h'.get? e=some u):Un fs ex H (upd H x o) h h':=by
 have i:∀b,H b=none->b≠x:=λb n z=>by subst z;rw[n]at d;exact d
 have hb:∀b,H b=none->b≠e:=λb n z=>by
  subst z;rcases he with r|r
  .exact i b n r
  .rw[n]at r;cases r
 have f:∀b u,H b=some u->¬Mut (some u)->b≠x:=λb u q j z=>by subst z;rw[q]at d;exact j d
 refine⟨λb u q n _ _=>k b u (hb b n) q,λb u q n _ _=>⟨u.slots,k b u (hb b n) q⟩,λb u q n _=>by rw[zm (i b n)];exact n,λb u q _=>?_,
  λb l q=>by rw[zm (f b _ q λz=>z)];exact q,λb u l q=>by rw[zm (f b _ q λz=>z)];exact q,λb m q=>⟨#[],by rw[zm (f b _ q λz=>z),q];simp⟩⟩
 by_cases c:b=e
 .subst c;exact g
 .exact⟨u,k b u c q⟩
end
def trk(h:Heap)(H:Hp):List Addr:=(List.range h.objs.size).filter λa=>(H a).isSome
def l0(h:Heap)(H:Hp):Heap:=PySem.W.hideAll h (trk h H)
def fi(h:Heap)(H:Hp):(l0 h H).objs.size=h.objs.size:=PySem.W.hideAll_size _ _
def l5(e:h.get? b=some o)(n:H b=none):(l0 h H).get? b=some o:=
 PySem.W.hideAll_get _ e λa=>by have q:(H b).isSome=true:=(a0T.mp a).2;rw[n]at q;simp at q
def p5(e:(l0 h H).get? b=some o):h.get? b=some o/\H b=none:=by
 have a:h.get? b=some o:=PySem.W.of_hideAll (trk h H) e;refine⟨a,?_⟩;cases q:H b with
 |none=>rfl
 |some x=>have c:b∈trk h H:=a0T.mpr ⟨a0C.mpr (D9 a),by simp[q]⟩;have z:(l0 h H).get? b=none:=PySem.W.hideAll_none (trk h H) c;rw[z]at e;cases e
structure Mod(K:Ej)(mg:Ed)(base:Heap):Prop where
 kin:K.In base
 glob:base.Ns mainGlobals mg
 blt:∃mb,base.Ns builtinsNs mb/\∀x:Str,x≠"__name__"->mb x=bootBuiltins x
 nolimit:base.NoLimit
structure Cx where
 prog:Program
 w:World
 K:PySem.W.Frag
 mg:Str->Option Value
 base:Heap
 A:Around
 N:List Str
 s₀:Shared
 H₀:Hp
 env:Env
 outer:List Env
 stack:List Env
 ex:List Addr
 fn:Str->Bool
 calm:Bool
 pn:List (Addr×Obj)
 xe:Value->Shared->Prop
 m:Nat:=0
abbrev Fg(X:Cx):=model X.prog X.w
def frs(l:List Env):List Addr:=l.filterMap (·.frame)
abbrev Cx.fs(X:Cx):List Addr:=frs X.outer
def Vis(a:Scope)(x:Str):Prop:=a.names.lookup x=some .local\/a.names.lookup x=some .cell\/a.names.lookup x=some .free
def Loc(a:Scope)(x:Str):Prop:=a.names.lookup x=some .local\/a.names.lookup x=some .cell
def Look(env:Env)(h:Heap)(m:Ed)(x:Str)(u:Value):Prop:=
 (env.kindOf x=some .local/\m x=some u)\/((env.kindOf x=some .cell\/env.kindOf x=some .free)/\∃c,env.cells.lookup x=some c/\h.IsCell c (some u))
structure Cx.Ok(X:Cx):Prop where
 mod:Mod X.K X.mg X.base
 kind:X.env.scope.kind=.function
 glob:X.env.globals=mainGlobals
 blt:X.env.builtins=builtinsNs
 above:X.s₀.heap.objs.size<=X.env.locals
 inj:∀x y c,X.env.cells.lookup x=some c->X.env.cells.lookup y=some c->x=y
 has:∀x,(X.env.kindOf x=some .cell\/X.env.kindOf x=some .free)->∃c,X.env.cells.lookup x=some c
 cab:∀x c,X.fn x=true->X.env.cells.lookup x=some c->X.s₀.heap.objs.size<=c
 hd:X.calm=true->X.A.handled=none
 frames:X.A.frames=some X.stack
 stk:X.stack=X.outer\/(X.stack=X.env::X.outer/\X.env.frame=some X.env.locals)
 exf:∀b∈X.ex,b≠X.env.locals/\∀x c,X.env.cells.lookup x=some c->c≠b
 bs:∀b o,X.base.get? b=some o->X.s₀.heap.get? b=some o/\X.H₀ b=none
 bsz:X.base.objs.size<=X.s₀.heap.objs.size
 uf:∀b o,X.base.get? b=some o->b∉X.ex
 ug:∀b∈X.ex,b∉X.fs
 aS:X.s₀.heap.FunFrames X.base X.outer
 frf:∀b∈X.fs,X.H₀ b=none
structure Inv(X:Cx)(pins:D_)(σ:List (Option V))(H:Hp)(s:Ef):Prop where
 ok:X.Ok
 os:s.os=X.s₀.os
 bare:AllBare s.gens
 base:Un X.fs X.ex X.H₀ H X.s₀.heap s.heap
 loc:∃m,s.heap.Ns X.env.locals m/\∀(i:Nat)(x:Str)(v:V),X.N[i]?=some x->σ[i]?=some (some v)->Vis X.env.scope x->∃u,RelV v u/\Look X.env s.heap m x u
 cell:∀x c,X.env.cells.lookup x=some c->∃v,s.heap.IsCell c v
 free:H X.env.locals=none
 QZ:∀x c,X.env.cells.lookup x=some c->H c=none
 pin:∀p∈X.pn++pins,s.heap.get? p.1=some p.2/\H p.1=none/\p.1≠X.env.locals/\p.1∉X.fs/\∀v,p.2.data≠.cell v
 hok:HOk X.prog X.w H s.heap
 len:σ.length=X.N.length
 tk:X.m<=s.toks
section
variable {X:Cx}{pins:D_}{σ:List (Option V)}{H H':Hp}{s:Ef}{h':Heap}
def Cx.Ok.Dr(ok:X.Ok)(e:X.base.get? b=some o):b∉X.fs:=λhb=>by have:=(ok.aS.mem hb).1;rw[e]at this;cases this
def Inv.bs(I:Inv X pins σ H s):∀b o,X.base.get? b=some o->s.heap.get? b=some o/\H b=none:=λb o e=>
 ⟨I.base.keep b o (I.ok.bs b o e).1 (I.ok.bs b o e).2 (I.ok.Dr e) (I.ok.uf b o e),I.base.free b o (I.ok.bs b o e).1 (I.ok.bs b o e).2 (I.ok.uf b o e)⟩
def Inv.bk(I:Inv X pins σ H s):∀b o,X.base.get? b=some o->s.heap.get? b=some o:=λb o e=>(I.bs b o e).1
def Inv.mod(I:Inv X pins σ H s):Mod X.K X.mg X.base:=I.ok.mod
def Inv.kIn(I:Inv X pins σ H s):X.K.In s.heap:=I.ok.mod.kin.keeps I.bk
def Inv.lt(I:Inv X pins σ H s):X.env.locals<s.heap.objs.size:=let⟨_,hn,_⟩:=I.loc;hn.lt
def Inv.sz(I:Inv X pins σ H s):X.s₀.heap.objs.size<=s.heap.objs.size:=F2 I.ok.above (a1L I.lt)
def Inv.Ds(I:Inv X pins σ H s)(h:s.heap.objs.size<=a):a∉X.fs:=λhb=>by obtain⟨_,o,b,_⟩:=I.ok.aS.mem hb;exact absurd (E7 (D9 b) (F2 I.sz h)) (O3 _)
def Inv.cne(I:Inv X pins σ H s):∀x c,X.env.cells.lookup x=some c->c≠X.env.locals:=λx c e z=>by obtain⟨v,o,d,f⟩:=I.cell x c e;obtain⟨m,⟨i,g,h,a,b,_⟩,_⟩:=I.loc;rw[z,a]at d;cases d;rw[b]at f;cases f
def Inv.aS(I:Inv X pins σ H s):s.heap.FunFrames X.base X.outer:=by
 have all:∀(l:List Env),(∀b∈frs l,b∈X.fs)->X.s₀.heap.FunFrames X.base l->s.heap.FunFrames X.base l:=by
  intro l
  induction l with
  |nil=>intro _ _;trivial
  |cons d r n=>intro c g;obtain⟨i,⟨L,o,hf,m,f,h⟩,j⟩:=g;have a:L∈X.fs:=c L (by unfold frs;rw[a1k,hf];exact D8);obtain⟨p,e⟩:=I.base.slot L o f (I.ok.frf L a) a λz=>I.ok.ug L z a;exact⟨i,⟨L,_,hf,m,e,h⟩,n (λb hb=>c b (by unfold frs;rw[a1k,hf];exact D5 _ hb)) j⟩
 exact all X.outer (λ_ hb=>hb) I.ok.aS
def Inv.stack(I:Inv X pins σ H s):s.heap.FunFrames X.base X.stack:=by
 rcases I.ok.stk with e|⟨e,hf⟩
 .rw[e];exact I.aS
 .rw[e];obtain⟨m,a,_⟩:=I.loc;refine .cons (by rw[I.ok.kind];decide) hf a ?_ I.aS;exact Heap.get?_none_of_le (F2 I.ok.bsz I.ok.above)
def Inv.WO(I:Inv X pins σ H s):∀b∈frs X.stack,b∈X.env.locals::X.fs:=λb hb=>by
 rcases I.ok.stk with e|⟨e,hf⟩
 .rw[e]at hb;exact D5 _ hb
 .rw[e]at hb;unfold frs at hb;rw[a1k,hf]at hb;exact hb
def Inv.Xi(I:Inv X pins σ H s):∀b∈frs X.stack,H b=none:=λb hb=>by
 rcases G0.mp (I.WO b hb)with e|hb
 .rw[e];exact I.free
 .obtain⟨_,o,a,_⟩:=I.ok.aS.mem hb;exact I.base.free b o a (I.ok.frf b hb) λz=>I.ok.ug b z hb
def Inv.step{g':Array GenState}{t':Nat}{d':Drawn}{ch:ES}(I:Inv X pins σ H s)
  (j:∀b∈ch,(b∈X.ex\/X.s₀.heap.objs.size<=b)/\b≠X.env.locals/\(∀x c,X.env.cells.lookup x=some c->c≠b)/\∀p∈X.pn++pins,p.1≠b)
  (keep:∀b o,b≠X.env.locals->b∉X.fs->b∉ch->s.heap.get? b=some o->H b=none->h'.get? b=some o)
  (A:∀b o,b≠X.env.locals->b∈X.fs->b∉ch->s.heap.get? b=some o->H b=none->∃L,h'.get? b=some { o with slots:=L }) (f:∀b o,b∉ch->s.heap.get? b=some o->H b=none->H' b=none)
  (C:∀b o,b∉ch->s.heap.get? b=some o->∃G,h'.get? b=some G)
  (Y:∀b B,H b=some (.tup B)->H' b=some (.tup B)) (T:∀b o u,H b=some (.frz o u)->H' b=some (.frz o u)) (oE:∀b K,H b=some (.tbl K)->∃J,H' b=some (.tbl (K++J)))
  (ns:∀m,s.heap.Ns X.env.locals m->h'.Ns X.env.locals m) (M:HOk X.prog X.w H' h') (Z:AllBare g') (ht:X.m<=t':=by ac_rfl):
  Inv X pins σ H' { s with heap:=h',gens:=g',drawn:=d',toks:=t' }:=by
 have E:∀b o,X.s₀.heap.get? b=some o->b≠X.env.locals:=λb o e=>F1 (E7 (D9 e) I.ok.above);have y:∀b o,X.s₀.heap.get? b=some o->b∉X.ex->b∉ch:=λb o e a hb=>by
  rcases(j b hb).1 with z|z
  .exact a z
  .exact absurd (E7 (D9 e) z) (O3 _)
 have h:∀x c,X.env.cells.lookup x=some c->∀v,s.heap.IsCell c v->h'.IsCell c v:=λx c e v ⟨o,D,N⟩=>by
  have g:c∉ch:=λz=>(j c z).2.2.1 x c e rfl;by_cases P:c∈X.fs
  .obtain⟨L,q⟩:=A c o (I.cne x c e) P g D (I.QZ x c e);exact⟨_,q,N⟩
  .exact⟨o,keep c o (I.cne x c e) P g D (I.QZ x c e),N⟩
 refine⟨I.ok,I.os,Z,⟨λb o e n hb a=>?_,λb o e n hb a=>?_,λb o e n a=>?_,λb o e a=>?_,λb B e=>Y b B (I.base.oC b B e),λb o B e=>T b o B (I.base.lG b o B e),λb K e=>?_⟩,?_,λx c e=>?_,?_,λx c e=>?_,λp hp=>?_,M,I.len,ht⟩
 .exact keep b o (E b o e) hb (y b o e a) (I.base.keep b o e n hb a) (I.base.free b o e n a)
 .obtain⟨L,w⟩:=I.base.slot b o e n hb a;obtain⟨O,F⟩:=A b _ (E b o e) hb (y b o e a) w (I.base.free b o e n a);exact⟨O,F⟩
 .obtain⟨G,w⟩:=I.base.there b o e a;exact f b G (y b o e a) w (I.base.free b o e n a)
 .obtain⟨G,w⟩:=I.base.there b o e a;exact C b G (y b o e a) w
 .obtain⟨S,w⟩:=I.base.oE b K e;obtain⟨m2,F⟩:=oE b _ w;exact⟨S++m2,by rw[F,Array.append_assoc]⟩
 .obtain⟨m,hn,W⟩:=I.loc;refine⟨m,ns m hn,λi x v w F U=>?_⟩;obtain⟨u,r,l⟩:=W i x v w F U;refine⟨u,r,?_⟩;rcases l with l|⟨k,c,e,z⟩
  .exact .inl l
  .exact .inr ⟨k,c,e,h x c e _ z⟩
 .obtain⟨v,z⟩:=I.cell x c e;exact⟨v,h x c e v z⟩
 .obtain⟨m,⟨o,_,_,D,_⟩,_⟩:=I.loc;exact f _ o (λz=>(j _ z).2.1 rfl) D I.free
 .obtain⟨v,o,D,N⟩:=I.cell x c e;exact f c o (λz=>(j c z).2.2.1 x c e rfl) D (I.QZ x c e)
 .obtain⟨e,n,Q,R,d⟩:=I.pin p hp;have g:p.1∉ch:=λz=>(j p.1 z).2.2.2 p hp rfl;exact⟨keep p.1 p.2 Q R g e n,f p.1 p.2 g e n,Q,R,d⟩
def Inv.un(I:Inv X pins σ H s)(u:Un X.fs [] H H' s.heap h')(c:HOk X.prog X.w H' h')(w:X.m<=t':=by ac_rfl):Inv X pins σ H' { s with heap:=h',toks:=t' }:=by
 obtain⟨m,⟨o,v,q,g,r⟩,_⟩:=id I.loc;obtain⟨p,h⟩:=u.any g I.free (by simp);exact I.step (g':=s.gens) (d':=s.drawn) (ch:=[]) (λ_ z=>nomatch z) (λb o _ hb _ e n=>u.keep b o e n hb (by simp)) (λb o _ hb _ e n=>u.slot b o e n hb (by simp)) (λb o _ e n=>u.free b o e n (by simp)) (λb o _ e=>u.there b o e (by simp)) u.oC u.lG u.oE (λx i=>by
  obtain⟨l,d,f,a,j⟩:=i;rw[g]at a;cases a;exact⟨_,d,f,h,j⟩) c I.bare
def Inv.call(I:Inv X pins σ H s)(u:Un (frs X.stack) ch H H' s.heap h')(h:HOk X.prog X.w H' h')(q:AllBare g')
  (f:∀b∈ch,(b∈X.ex\/X.s₀.heap.objs.size<=b)/\b≠X.env.locals/\(∀x c,X.env.cells.lookup x=some c->c≠b)/\∀p∈X.pn++pins,p.1≠b) (D:X.m<=t':=by ac_rfl):
  Inv X pins σ H' { s with heap:=h',gens:=g',drawn:=d',toks:=t' }:=by
 obtain⟨m,⟨o,C,B,l,r⟩,_⟩:=id I.loc;obtain⟨A,g⟩:=u.any l I.free λz=>(f _ z).2.1 rfl;exact I.step (ch:=ch) f (λb o g hb a e n=>u.keep b o e n (λz=>(G0.mp (I.WO b z)).elim g hb) a) (λb o _ _ a e n=>u.any e n a) (λb o a e n=>u.free b o e n a) (λb o a e=>u.there b o e a) u.oC u.lG u.oE (λE v=>by
  obtain⟨y,i,j,d,w⟩:=v;rw[l]at d;cases d;exact⟨_,i,j,g,w⟩) h q
def Inv.turned(I:Inv X pins σ H s)(k:∀b o,b≠it->s.heap.get? b=some o->h'.get? b=some o)(j:H it=none)(f:it≠X.env.locals)
  (l:it∈X.ex\/X.s₀.heap.objs.size<=it) (h:∀x c,X.env.cells.lookup x=some c->c≠it) (A:∀p∈X.pn++pins,p.1≠it) (C:X.m<=t':=by ac_rfl):Inv X pins σ H { s with heap:=h',toks:=t' }:=by
 have d:∀b u,H b=some u->b≠it:=λb u e z=>by rw[z,j]at e;cases e
 refine I.step (g':=s.gens) (d':=s.drawn) (ch:=[it]) (λb hb=>?_) (λb o _ _ a e _=>k b o (λz=>a (by simp[z])) e) (λb o _ _ a e _=>⟨o.slots,k b o (λz=>a (by simp[z])) e⟩) (λ_ _ _ _ n=>n)
  (λb o a e=>⟨o,k b o (λz=>a (by simp[z])) e⟩) (λ_ _ e=>e) (λ_ _ _ e=>e) (λb B e=>⟨#[],by rw[e];simp⟩) (λm y=>?_) (λb u e=>?_) I.bare
 .have e:b=it:=by simpa using hb
  subst e;exact⟨l,f,h,A⟩
 .obtain⟨o,w,i,g,r⟩:=y;exact⟨o,w,i,k _ o (Ne.symm f) g,r⟩
 .refine(I.hok b u e).lM (λc v a q=>k c v ?_ q) (λ_ q=>q) λ_ _ q=>q;rcases a with z|z
  .rw[z];exact d b u e
  .exact d c _ z
def Inv.tok(I:Inv X pins σ H s)(t:Nat)(a:X.m<=t:=by ac_rfl):Inv X pins σ H { s with toks:=t }:=I.un (h':=s.heap) (t':=t) Un.refl I.hok
def Inv.kept(I:Inv X pins σ H s)(k:∀b u,s.heap.get? b=some u->h'.get? b=some u)(a:X.m<=t':=by ac_rfl):Inv X pins σ H { s with heap:=h',toks:=t' }:=I.un (Un.kept k) (I.hok.kept k)
def Inv.laid(I:Inv X pins σ H s)(k:∀b u,s.heap.get? b=some u->h'.get? b=some u)(hp:s.heap.objs.size<=a)(new:y3 X.prog X.w (upd H a o) h' a o)(c:X.m<=t':=by ac_rfl):
  Inv X pins σ (upd H a o) { s with heap:=h',toks:=t' }:=I.un (Un.laid k hp (I.hok.fresh hp)) (I.hok.laid k hp new)
def Inv.write(I:Inv X pins σ H s)(c:Mut (H x))(he:e=x\/H e=some (.own x))(k:∀b u,b≠e->s.heap.get? b=some u->h'.get? b=some u)(a:∃u,h'.get? e=some u)
  (new:y3 X.prog X.w (upd H x o) h' x o) (d:X.m<=t':=by ac_rfl):Inv X pins σ (upd H x o) { s with heap:=h',toks:=t' }:=I.un (Un.write c he k a) (I.hok.write c he k a new)
def Inv.aT(I:Inv X pins σ H s)(h:∀p∈pins',s.heap.get? p.1=some p.2/\H p.1=none/\p.1≠X.env.locals/\p.1∉X.fs/\∀v,p.2.data≠.cell v):Inv X pins' σ H s:=
 ⟨I.ok,I.os,I.bare,I.base,I.loc,I.cell,I.free,I.QZ,λp hp=>(G8.mp hp).elim (λz=>I.pin p (G9 _ z)) (h p),I.hok,I.len,I.tk⟩
def b_{N:Ea}(c:N.Nodup){i j:Nat}{x:Str}(a:N[i]?=some x)(b:N[j]?=some x):i=j:=by obtain⟨f,d⟩:=F3.mp a;obtain⟨g,e⟩:=F3.mp b;exact(List.getElem_inj c).mp (d.trans e.symm)
def Ul(I:Inv X pins σ H s)(hN:X.N.Nodup)(O:X.N[i]?=some x)(B:Loc X.env.scope x)(r:RelV v u)
  (h:∀s',Inv X pins (σ.set i (some v)) H s'->(∃a,Heap.SameBut a s.heap s'.heap/\(a=X.env.locals\/X.env.cells.lookup x=some a))->Q () s') (hf:X.fn x=true\/X.env.scope.names.lookup x=some .local:=by first|exact .inl rfl|exact .inr rfl|assumption):wpAny M A (storeName X.env x u) Q E s:=by
 obtain⟨m,hn,hl⟩:=id I.loc;have L:(X.env.scope.kind == .class||(X.env.scope.kind == .module&&X.env.locals != X.env.globals))=false:=by rw[I.ok.kind];rfl
 have G:i<σ.length:=by rw[I.len];exact(F3.mp O).1
 have cne:=I.cne;have g:∀{a:Addr}{h':Heap},(∃o,s.heap.get? a=some o/\H a=none)->Heap.SameBut a s.heap h'->HOk X.prog X.w H h':=λ{a h'} ha f b ob e=>by
  obtain⟨_,_,C⟩:=ha;refine(I.hok b ob e).lM (λc T w q=>(f.2 c ?_).trans q) (λ_ q=>q) λ_ _ q=>q
  rintro rfl
  rcases w with rfl|w
  .rw[C]at e;cases e
  .rw[C]at w;cases w
 rcases B with F|F
 .refine wpAny_storeName_local F hn (λh' hn' f=>?_) L;obtain⟨oL,_,_,Y,_⟩:=id hn;refine h _ ⟨I.ok,I.os,I.bare,⟨λb o e n hb B=>?_,λb o e n hb B=>?_,I.base.free,λb o e B=>?_,I.base.oC,I.base.lG,I.base.oE⟩,⟨_,hn',λj y v' l D e3=>?_⟩,λy c e=>?_,I.free,I.QZ,λp hp=>?_,g ⟨oL,Y,I.free⟩ f,by simpa using I.len,a1w I.tk⟩ ⟨_,f,.inl rfl⟩
  .exact(f.2 b (F1 (E7 (D9 e) I.ok.above))).trans (I.base.keep b o e n hb B)
  .obtain⟨sl,l⟩:=I.base.slot b o e n hb B;exact⟨sl,(f.2 b (F1 (E7 (D9 e) I.ok.above))).trans l⟩
  .obtain⟨Z,l⟩:=I.base.there b o e B;exact⟨Z,(f.2 b (F1 (E7 (D9 e) I.ok.above))).trans l⟩
  .by_cases K:j=i
   .subst K;rw[O]at l;cases l;rw[L4 G]at D;cases D;exact⟨u,r,.inl ⟨F,by simp⟩⟩
   .rw[G6 (Ne.symm K)]at D;obtain⟨u',r',q⟩:=hl j y v' l D e3;refine⟨u',r',?_⟩;rcases q with⟨k,e⟩|⟨k,c,e,z⟩
    .refine .inl ⟨k,?_⟩;have:y≠x:=λe=>K (b_ hN l (e▸O));simp[this,e]
    .exact .inr ⟨k,c,e,z.sameBut f (cne y c e)⟩
  .obtain⟨T,z⟩:=I.cell y c e;exact⟨T,z.sameBut f (cne y c e)⟩
  .obtain⟨e,n,W,nf,d⟩:=I.pin p hp;exact⟨(f.2 p.1 W).trans e,n,W,nf,d⟩
 .have J:X.fn x=true:=by
   rcases hf with z|z
   .exact z
   .rw[z]at F;cases F
  obtain⟨c,w⟩:=I.ok.has x (.inl F);obtain⟨T,z⟩:=I.cell x c w;refine wpAny_storeName_cell I.ok.kind F w z (λh' P f=>?_);obtain⟨oc,N,S⟩:=id z;refine h { s with heap:=h' } ⟨I.ok,I.os,I.bare,⟨λb o e n hb B=>?_,λb o e n hb B=>?_,I.base.free,λb o e B=>?_,I.base.oC,I.base.lG,I.base.oE⟩,⟨m,hn.sameBut f (Ne.symm (cne x c w)),λj y v' l D e3=>?_⟩,λy U e=>?_,I.free,I.QZ,λp hp=>?_,g ⟨oc,N,I.QZ x c w⟩ f,by simpa using I.len,I.tk⟩ ⟨c,f,.inr w⟩
  .exact(f.2 b (F1 (E7 (D9 e) (I.ok.cab x c J w)))).trans (I.base.keep b o e n hb B)
  .obtain⟨sl,l⟩:=I.base.slot b o e n hb B;exact⟨sl,(f.2 b (F1 (E7 (D9 e) (I.ok.cab x c J w)))).trans l⟩
  .obtain⟨Z,l⟩:=I.base.there b o e B;exact⟨Z,(f.2 b (F1 (E7 (D9 e) (I.ok.cab x c J w)))).trans l⟩
  .by_cases K:j=i
   .subst K;rw[O]at l;cases l;rw[L4 G]at D;cases D;exact⟨u,r,.inr ⟨.inl F,c,w,P⟩⟩
   .rw[G6 (Ne.symm K)]at D;obtain⟨u',r',q⟩:=hl j y v' l D e3;refine⟨u',r',?_⟩;rcases q with q|⟨k,U,e,z'⟩
    .exact .inl q
    .refine .inr ⟨k,U,e,z'.sameBut f ?_⟩
     rintro rfl
     exact K (b_ hN l (I.ok.inj _ _ _ e w▸O))
  .by_cases R:U=c
   .subst R;exact⟨_,P⟩
   .obtain⟨w2,z2⟩:=I.cell y U e;exact⟨w2,z2.sameBut f R⟩
  .obtain⟨e,n,W,nf,d⟩:=I.pin p hp;refine⟨(f.2 p.1 ?_).trans e,n,W,nf,d⟩;intro q;rw[q,N]at e;have q':oc=p.2:=G4 e;exact d T (by rw[<- q'];exact S)
def Kp(I:Inv X pins σ H s)(c:X.N.Nodup)(e:X.N[i]?=some x)(d:Loc X.env.scope x)(r:RelV v u)
  (h:∀a,Inv X pins (σ.set i (some v)) H a->Q () a) (hf:X.fn x=true\/X.env.scope.names.lookup x=some .local:=by first|exact .inl rfl|exact .inr rfl|assumption):wpAny M A (storeName X.env x u) Q E s:=
 Ul I c e d r (λa b _=>h a b) hf
def Inv.uC(I:Inv X pins σ H s)(i:s'.os=s.os)(u:Un (frs X.stack) ch H H' s.heap s'.heap)(a:HOk X.prog X.w H' s'.heap)(j:AllBare s'.gens)
  (d:∀b∈ch,(b∈X.ex\/X.s₀.heap.objs.size<=b)/\b≠X.env.locals/\(∀x c,X.env.cells.lookup x=some c->c≠b)/\∀p∈X.pn++pins,p.1≠b) (m:X.m<=s'.toks:=by ac_rfl):Inv X pins σ H' s':=by
 obtain⟨h',g,f,h,l⟩:=s';have e:l=s.os:=i;subst e;exact I.call (g':=g) (t':=h) (d':=f) u a j d m
end
abbrev XK:=Value->Option Addr->Hp->Prop
abbrev St:=List (Option V)
abbrev VK:=V->Hp->Prop
abbrev TE:=St->Hp->VK->Prop
abbrev TT:=St->Hp->(Bool->Hp->Prop)->Prop
abbrev TA:=St->Hp->(List V->Hp->Prop)->Prop
structure Ends where
 nx:St->Hp->Prop
 rt:VK
 bk:St->Hp->Prop:=λ_ _=>False
 ct:St->Hp->Prop:=λ_ _=>False
abbrev TS:=Ends->St->Hp->Prop
def EP(X:Cx)(a:D_)(c:St)(Q:VK)(u:Value)(d:Ef):Prop:=∃v b,Inv X a c b d/\RelV v u/\Q v b
def TP(X:Cx)(a:D_)(d:St)(Q:Bool->Hp->Prop)(b:Bool)(e:Ef):Prop:=∃c,Inv X a d c e/\Q b c
def AP(X:Cx)(a:D_)(d:St)(Q:List V->Hp->Prop)(us:El)(e:Ef):Prop:=∃b c,Inv X a d c e/\Vals b us/\Q b c
def SP(X:Cx)(b:D_)(D:Ends)(f:Flow)(d:Ef):Prop:=
 match f with
 |.next=>∃a c,Inv X b a c d/\D.nx a c
 |.brk=>∃a c,Inv X b a c d/\D.bk a c
 |.cont=>∃a c,Inv X b a c d/\D.ct a c
 |.ret u=>∃v a c,Inv X b a c d/\RelV v u/\D.rt v c
def PE(X:Cx)(e:Eh)(t:TE):Prop:=
 ∀(a:D_)(s:Ef)(b:St)(H:Hp)(Q:VK),Inv X a b H s->t b H Q->wpAny (Fg X) X.A (eval e X.env) (EP X a b Q) X.xe s
def PT(X:Cx)(e:Eh)(t:TT):Prop:=
 ∀(a:D_)(s:Ef)(b:St)(H:Hp)(Q:Bool->Hp->Prop),Inv X a b H s->t b H Q->wpAny (Fg X) X.A (isTrue e X.env (eval e X.env)) (TP X a b Q) X.xe s
def PW(X:Cx)(e:Eh)(t:TT):Prop:=
 ∀(b:Sem Value)(a:D_)(s:Ef)(c:St)(H:Hp)(Q:Bool->Hp->Prop),Inv X a c H s->t c H Q->wpAny (Fg X) X.A (isTrue e X.env b) (TP X a c Q) X.xe s
def PW.pt(h:PW X e t):PT X e t:=h _
def PA(X:Cx)(es:Eg)(t:TA):Prop:=
 ∀(c:Pos)(a:D_)(s:Ef)(b:St)(H:Hp)(Q:List V->Hp->Prop),Inv X a b H s->t b H Q->wpAny (Fg X) X.A (spliced (backTo c (starEach es X.env))) (AP X a b Q) X.xe s
def PS(X:Cx)(st:ER)(t:TS):Prop:=
 ∀(a:D_)(s:Ef)(b:St)(H:Hp)(D:Ends),Inv X a b H s->t D b H->wpAny (Fg X) X.A (exec st X.env) (SP X a D) X.xe s
def PSs(X:Cx)(st:EC)(t:TS):Prop:=
 ∀(a:D_)(s:Ef)(b:St)(H:Hp)(D:Ends),Inv X a b H s->t D b H->wpAny (Fg X) X.A (execs st X.env) (SP X a D) X.xe s
def thn{c:Type}{t:Sem c}{Q b:c->Shared->Prop}(h:wpAny M A t Q E s)(d:∀a s,Q a s->b a s):wpAny M A t b E s:=S0 h d λ_ _ x=>x
section
variable {X:Cx}
def aU(i:Nat):TE:=λa H Q=>∃v,a[i]?=some (some v)/\Q v H
def tC(v:V):TE:=λ_ H Q=>Q v H
def uD(o:X.N[i]?=some x)(p:Vis X.env.scope x)(j:(x==("__debug__":Str))=false:=by decide)(g:(x==("__classdict__":Str))=false:=by decide):PE X (.Name x pos) (aU i):=by
 intro f s q H Q I h;obtain⟨v,e,h⟩:=h;obtain⟨m,y,w⟩:=I.loc;obtain⟨u,r,l⟩:=w i x v o e p;have b:EP X f q Q u s:=⟨v,H,I,r,h⟩;rcases l with⟨d,z⟩|⟨d,c,n,a⟩
 .exact wpAny_Name (a2q I.ok.kind d y z b) j
 .rcases d with d|d
  .exact wpAny_Name (a2G I.ok.kind d n a b) j
  .exact wpAny_Name (wpAny_loadName_free I.ok.kind d n a b g) j
def uE{i j pos}:PE X (.Constant (.int i) j pos) (tC (.int i)):=λ_ _ _ H _ I h=>a2N ⟨.int i,H,I.tok _,⟨_,rfl⟩,h⟩
def ve{b j pos}:PE X (.Constant (.bool b) j pos) (tC (.bl b)):=λ_ _ _ H _ I h=>Constant_bool ⟨.bl b,H,I,rfl,h⟩
def vh{j pos}:PE X (.Constant .none j pos) (tC .non):=λ_ _ _ H _ I h=>Constant_none ⟨.non,H,I,rfl,h⟩
def Qv{x j pos}:PE X (.Constant (.str x) j pos) (tC (.str x)):=λ_ _ _ H _ I h=>a1q ⟨.str x,H,I.tok _,⟨_,rfl⟩,h⟩
def Gl(X:Cx)(x:Str):Prop:=X.env.kindOf x=some .globalImplicit
def Jb(I:Inv X pins σ H s)(a:Gl X x)(b:X.mg x=some u)(h:Q u s)
  (c:(x==("__debug__":Str))=false:=by decide):wpAny (Fg X) X.A (eval (.Name x pos) X.env) Q E s:=
 a1s I.ok.kind a (Calls.loadGlobal_global (by rw[I.ok.glob];exact I.mod.glob.keeps I.bk) b h) c
def KH(I:Inv X pins σ H s)(e:Gl X x)(c:X.mg x=none)(a:bootBuiltins x=some u)(h:Q u s)
  (g:x≠"__name__":=by decide) (f:(x==("__debug__":Str))=false:=by decide):wpAny (Fg X) X.A (eval (.Name x pos) X.env) Q E s:=by
 obtain⟨i,b,d⟩:=I.mod.blt;exact a1s I.ok.kind e (Calls.loadGlobal_builtin (by rw[I.ok.glob];exact I.mod.glob.keeps I.bk) c (by rw[I.ok.blt];exact b.keeps I.bk) ((d x g).trans a) h) f
def KI(b:Gl X x)(a:X.mg x=some u)(r:RelV v u)(c:(x==("__debug__":Str))=false:=by decide):PE X (.Name x pos) (tC v):=
 λ_ _ _ H _ I h=>Jb I b a ⟨v,H,I,r,h⟩ c
def p6(c:Gl X x)(b:X.mg x=none)(a:bootBuiltins x=some u)(r:RelV v u)(e:x≠"__name__":=by decide)(d:(x==("__debug__":Str))=false:=by decide):PE X (.Name x pos) (tC v):=
 λ_ _ _ H _ I h=>KH I c b a ⟨v,H,I,r,h⟩ e d
variable {a b:Eh}{ta tb:TE}{pos:Pos}
def Kq(b:Eh)(h:op≠.In)(e:op≠.NotIn):behindInMarks op b=false:=by
 have c:(op==CmpOp.In)=false:=by cases op<;>first|rfl|exact absurd rfl h
 have d:(op==CmpOp.NotIn)=false:=by cases op<;>first|rfl|exact absurd rfl e
 cases b<;>simp[behindInMarks,c,d]
def tB(t:TE):TT:=λd H Q=>t d H λx e=>∃c,x=.bl c/\Q c e
def uF(h:PE X e t)(he:∀c,isTrue e X.env c=(do let v<-c;standAt e.pos;holding [v] (truthy v)):=by intro _;rfl):PT X e (tB t):=by intro f s i H Q I j;refine isTrue_plain (thn (h f s i H _ I j) λv o ⟨x,n,l,g,m⟩=>?_) (he _);obtain⟨d,rfl,q⟩:=m;cases g;exact a02 ⟨n,l,q⟩
variable {tA tB':TT}{rest:Eg}
def Dt(t u:TT):TT:=λd H Q=>t d H λc e=>if c=true then u d e Q else Q false e
def tOr(t u:TT):TT:=λd H Q=>t d H λc e=>if c=true then Q true e else u d e Q
def Du(t:TT):TT:=λd H Q=>t d H λc e=>Q (!c) e
def pw_and1(g:PT X a tA):PW X (.BoolOp .And [a] pos) tA:=by
 intro j d s f H Q I h;refine isTrue_and (thn (g d s f H Q I h) λc i e=>?_);cases c with
 |true=>exact isTrue_and_nil e
 |false=>exact e
def pw_or1(g:PT X a tA):PW X (.BoolOp .Or [a] pos) tA:=by
 intro j d s f H Q I h;refine isTrue_or (thn (g d s f H Q I h) λc i e=>?_);cases c with
 |false=>exact isTrue_or_nil e
 |true=>exact e
def pw_and(j:PT X a tA)(hb:PW X (.BoolOp .And (b::rest) pos) tB'):PW X (.BoolOp .And (a::b::rest) pos) (Dt tA tB'):=by
 intro m d s e H Q I h;refine isTrue_and (thn (j d s e H _ I h) λc l ⟨i,f,g⟩=>?_);cases c with
 |true=>exact hb m d l e i Q f g
 |false=>exact⟨i,f,g⟩
def pw_or(j:PT X a tA)(hb:PW X (.BoolOp .Or (b::rest) pos) tB'):PW X (.BoolOp .Or (a::b::rest) pos) (tOr tA tB'):=by
 intro m d s e H Q I h;refine isTrue_or (thn (j d s e H _ I h) λc l ⟨i,f,g⟩=>?_);cases c with
 |true=>exact⟨i,f,g⟩
 |false=>exact hb m d l e i Q f g
def uG(f:PT X a tA):PT X (.UnaryOp .Not a pos) (Du tA):=by intro d s e H Q I h;exact isTrue_not (f d s e H (λc g=>Q (!c) g) I h)
def Bw(ta tb:TE):TE:=λd H Q=>ta d H λx e=>∃c,x=.bl c/\if c=true then tb d e Q else Q (.bl false) e
def uH{op}(h:PE X a t):PE X (.BoolOp op [a] pos) t:=λc s d H Q I e=>BoolOp_one (h c s d H Q I e)
def uI(l:PE X a ta)(hb:PE X (.BoolOp .And (b::rest) pos) tb):PE X (.BoolOp .And (a::b::rest) pos) (Bw ta tb):=by
 intro d s f H Q I h;refine BoolOp_and (thn (l d s f H _ I h) λv j ⟨x,i,g,m,e⟩=>?_);obtain⟨c,rfl,e⟩:=e;cases m;refine a02 ?_;cases c with
 |true=>exact hb d j f i Q g e
 |false=>exact⟨.bl false,i,g,rfl,e⟩
def tIf(t:TT)(ta tb:TE):TE:=λd H Q=>t d H λc e=>if c=true then ta d e Q else tb d e Q
def l6(m:PT X c tA)(n:PE X a ta)(hb:PE X b tb):PE X (.IfExp c a b pos) (tIf tA ta tb):=by
 intro e s f H Q I h;refine wpAny_IfExp (thn (m e s f H _ I h) λd j ⟨l,g,i⟩=>?_);cases d with
 |true=>exact n e j f l Q g i
 |false=>exact hb e j f l Q g i
end
def SqL(K:Ej)(H:Hp)(a:Addr)(xs:En):Prop:=
 Rd H a (.lst xs)\/
  ∃(o:Obj)(b:EA)(n:Nat),K.lookup a=some o/\o.cls=.type "list"/\o.dict=none/\o.data=.seq b n/\b.size<=sizeLine/\Vals xs b.toList
def SqT(K:Ej)(H:Hp)(a:Addr)(xs:En):Prop:=
 Rd H a (.tup xs)\/
  ∃(o:Obj)(b:EA)(n:Nat),K.lookup a=some o/\o.cls=.type "tuple"/\o.data=.seq b n/\b.size<=sizeLine/\Vals xs b.toList
def Dv:Value->Option V
 |.none=>some .non
 |.bool b=>some (.bl b)
 |.int i _=>some (.int i)
 |.str x _=>some (.str x)
 |.bytes b _=>some (.byt b)
 |.float b _=>some (.flt b)
 |.ref a=>some (.ref a)
 |.type n=>some (.ty n)
 |_=>none
def RelV.abs(r:RelV x u):Dv u=some x:=by
 cases x with
 |non=>cases r;rfl
 |bl _=>cases r;rfl
 |int _=>obtain⟨t,rfl⟩:=r;rfl
 |str _=>obtain⟨t,rfl⟩:=r;rfl
 |byt _=>obtain⟨t,rfl⟩:=r;rfl
 |flt _=>obtain⟨t,rfl⟩:=r;rfl
 |ref _=>cases r;rfl
 |ty _=>cases r;rfl
def RelV.inj(r:RelV x u)(q:RelV y u):x=y:=G4 (r.abs.symm.trans q.abs)
def Vals.inj:∀{c a:En}{b:El},Vals c b->Vals a b->c=a
 |_,_,_,.nil,.nil=>rfl
 |_,_,_,.cons r t,.cons d e=>by rw[r.inj d,Vals.inj t e]
def SqL.of{K:Ej}(h:H a=some (.lst xs)):SqL K H a xs:=.inl (.inl h)
def SqT.of{K:Ej}(h:H a=some (.tup xs)):SqT K H a xs:=.inl (.inl h)
def Inv.list(I:Inv X pins σ H s)(h:SqL X.K H a xs):∃b:List Value,Vals xs b/\PlainL s.heap a b.toArray/\xs.length<=sizeLine:=by
 rcases h with h|⟨o,b,n,g,d,f,c,hz,r⟩
 .obtain⟨z,b,n,r,e⟩:=h.ok I.hok;exact⟨b,r,⟨_,n,e,rfl,rfl,rfl⟩,z⟩
 .refine⟨b.toList,r,⟨o,n,I.kIn a o g,d,f,by simpa using c⟩,?_⟩;have e:=r.length;simp only[Array.length_toList]at e;omega
def Inv.tuple(I:Inv X pins σ H s)(h:SqT X.K H a xs):∃b:List Value,Vals xs b/\IsTup s.heap a b.toArray/\xs.length<=sizeLine:=by
 rcases h with h|⟨o,b,n,f,d,c,hz,r⟩
 .obtain⟨z,b,r,p⟩:=h.ok I.hok;exact⟨b,r,p,z⟩
 .refine⟨b.toList,r,⟨o,I.kIn a o f,d,n,by simpa using c⟩,?_⟩;have e:=r.length;simp only[Array.length_toList]at e;omega
def Inv.l7(I:Inv X pins σ H s)(h:SqL X.K H a xs)(h':SqL X.K H a ys):xs=ys:=by
 obtain⟨c,r,⟨o,n,e,_,_,d⟩,_⟩:=I.list h;obtain⟨b,i,⟨j,l,g,_,_,f⟩,_⟩:=I.list h';rw[e]at g;cases g;rw[d]at f;injection f with d1 _
 have:c=b:=by simpa using M4 Array.toList d1
 subst this;exact r.inj i
def Inv.Um(I:Inv X pins σ H s)(h:SqT X.K H a xs)(h':SqT X.K H a ys):xs=ys:=by
 obtain⟨c,r,⟨o,e,_,n,d⟩,_⟩:=I.tuple h;obtain⟨b,i,⟨j,g,_,l,f⟩,_⟩:=I.tuple h';rw[e]at g;cases g;rw[d]at f;injection f with d1 _
 have:c=b:=by simpa using M4 Array.toList d1
 subst this;exact r.inj i
abbrev Cx.Ui(X:Cx)(E:Ec):Cx:={ X with xe:=E }
abbrev Cx.nox(X:Cx):Cx:=X.Ui λ_ _=>False
def Cx.Ok.Ui{X:Cx}(ok:X.Ok)(E:Ec):(X.Ui E).Ok:=
 ⟨ok.mod,ok.kind,ok.glob,ok.blt,ok.above,ok.inj,ok.has,ok.cab,ok.hd,ok.frames,ok.stk,ok.exf,ok.bs,ok.bsz,ok.uf,ok.ug,ok.aS,ok.frf⟩
def Cx.Ok.Yw{X:Cx}{E:Ec}(ok:(X.Ui E).Ok):X.Ok:=
 ⟨ok.mod,ok.kind,ok.glob,ok.blt,ok.above,ok.inj,ok.has,ok.cab,ok.hd,ok.frames,ok.stk,ok.exf,ok.bs,ok.bsz,ok.uf,ok.ug,ok.aS,ok.frf⟩
def Inv.Ui(I:Inv X pins σ H s)(E:Ec):Inv (X.Ui E) pins σ H s:=⟨I.ok.Ui E,I.os,I.bare,I.base,I.loc,I.cell,I.free,I.QZ,I.pin,I.hok,I.len,I.tk⟩
def Inv.Yw(I:Inv (X.Ui E) pins σ H s):Inv X pins σ H s:=⟨I.ok.Yw,I.os,I.bare,I.base,I.loc,I.cell,I.free,I.QZ,I.pin,I.hok,I.len,I.tk⟩
def SP.Yw(h:SP (X.Ui E) pins D f s'):SP X pins D f s':=by
 cases f with
 |next=>obtain⟨a,b,I,q⟩:=h;exact⟨a,b,I.Yw,q⟩
 |brk=>obtain⟨a,b,I,q⟩:=h;exact⟨a,b,I.Yw,q⟩
 |cont=>obtain⟨a,b,I,q⟩:=h;exact⟨a,b,I.Yw,q⟩
 |ret u=>obtain⟨v,a,b,I,r,q⟩:=h;exact⟨v,a,b,I.Yw,r,q⟩
section
variable {X:Cx}{st:ER}{rest:EC}{t u:TS}{e:Eh}{te:TE}{pos:Pos}
def Bx:TS:=λD a H=>D.nx a H
def By(t u:TS):TS:=λD a H=>t { D with nx:=u D } a H
def fj:PSs X [] Bx:=λ_ _ a H _ I h=>a1b ⟨a,H,I,h⟩
def cb(i:PS X st t)(j:PSs X rest u):PSs X (st::rest) (By t u):=by
 intro a s c H D I h;refine a1M (thn (i a s c H { D with nx:=u D } I h) λf l q=>?_);cases f with
 |next=>obtain⟨b,d,g,q⟩:=q;exact j a l b d D g q
 |ret v=>exact q
 |brk=>exact q
 |cont=>exact q
def Y7(c:PS X st t):PSs X [st] t:=by
 intro a s b H D I h;refine a1M (thn (c a s b H D I h) λf d q=>?_);cases f with
 |next=>exact a1b q
 |ret v=>exact q
 |brk=>exact q
 |cont=>exact q
def Inv.quiet(I:Inv X pins σ H s):interactive X.env=false:=by simp[interactive,I.ok.kind]
def Bz(te:TE):TS:=λD a H=>te a H λ_ b=>D.nx a b
def Jc(he:PE X e te)(c:swapsWith e none pos.line X.env=pure false:=by rfl):PS X (.Expr e pos) (Bz te):=by intro a s b H D I h;exact wpAny_Expr_any (thn (he a s b H _ I h) λv j ⟨x,g,d,i,f⟩=>⟨b,g,d,f⟩) I.quiet c
def Dw(te:TE):TS:=λD a H=>te a H D.rt
def cf(he:PE X e te):PS X (.Return (some e) pos) (Dw te):=by intro a s b H D I h;exact wpAny_Return_some (thn (he a s b H _ I h) λv i ⟨x,g,c,f,d⟩=>⟨x,b,g,c,f,d⟩)
def Dx(c:TT)(t u:TS):TS:=λD a H=>c a H λb d=>if b=true then t D a d else u D a d
def uJ(n:PT X c tc)(o:PSs X a t)(hb:PSs X b u):PS X (.If c a b pos) (Dx tc t u):=by
 intro f s g H D I h;refine wpAny_If (thn (n f s g H _ I h) λd l ⟨m,i,j⟩=>?_);cases d with
 |true=>exact o f l g m D i j
 |false=>exact hb f l g m D i j
end
abbrev TG:=V->St->Hp->(St->Hp->Prop)->Prop
abbrev TGs:=List V->St->Hp->(St->Hp->Prop)->Prop
def PG(X:Cx)(a:Eh)(t:TG):Prop:=
 ∀(b:D_)(s:Ef)(d:St)(H:Hp)(v:V)(u:Value)(Q:St->Hp->Prop),Inv X b d H s->RelV v u->t v d H Q->
  wpAny (Fg X) X.A (assign a X.env u) (λ_ f=>∃c e,Inv X b c e f/\Q c e) X.xe s
def PGs(X:Cx)(g:Eg)(t:TGs):Prop:=
 ∀(a:D_)(s:Ef)(d:St)(H:Hp)(c:En)(f:El)(Q:St->Hp->Prop),Inv X a d H s->Vals c f->t c d H Q->
  wpAny (Fg X) X.A (assignInOrder ((assignEach g X.env).map (·.2)) f) (λ_ h=>∃b e,Inv X a b e h/\Q b e) X.xe s
abbrev CQ:=V->V->V->Hp->(Hp->Prop)->Prop
def CS(X:Cx)(t:CQ):Prop:=
 ∀(a:D_)(s:Ef)(c:St)(H:Hp)(o i v:V)(e b u:Value)(Q:Hp->Prop),Inv X a c H s->RelV o e->RelV i b->RelV v u->t o i v H Q->
  wpAny (Fg X) X.A (setItem e b u) (λ_ f=>∃d,Inv X a c d f/\Q d) X.xe s
abbrev TIp:=V->V->Hp->VK->Prop
def PIp(X:Cx)(op:Operator)(t:TIp):Prop:=
 ∀(a:D_)(s:Ef)(b:St)(H:Hp)(x y:V)(v u:Value)(Q:VK),Inv X a b H s->RelV x v->RelV y u->t x y H Q->
  wpAny (Fg X) X.A (inplaceOp op v u) (EP X a b Q) X.xe s
section
variable {X:Cx}{pos:Pos}
def aV(i:Nat):TG:=λv a H Q=>Q (a.set i (some v)) H
def p7(c:X.N.Nodup)(e:X.N[i]?=some x)(d:Loc X.env.scope x)(hf:X.fn x=true\/X.env.scope.names.lookup x=some .local:=by first|exact .inl rfl|exact .inr rfl|assumption):PG X (.Name x pos) (aV i):=by intro a s f H v u Q I r h;exact wpAny_assign_Name (Kp I c e d r (λg b=>⟨_,H,b,h⟩) hf)
def Dy:TGs:=λa b H Q=>a=[]/\Q b H
def BA(t:TG)(u:TGs):TGs:=λb c H Q=>∃v r,b=v::r/\t v c H λa d=>u r a d Q
def p8:PGs X [] Dy:=by intro a s b H c d Q I r h;obtain⟨e,h⟩:=h;subst e;cases r;exact assignInOrder_nil ⟨b,H,I,h⟩
def l8(l:PG X e t)(f:PGs X es u)
  (m:(assignEach (e::es) X.env).map (·.2)=assign e X.env::(assignEach es X.env).map (·.2):=by rfl):PGs X (e::es) (BA t u):=by
 intro a s c H p q Q I r h;obtain⟨v,w,g,h⟩:=h;subst g;cases r with
 |cons r i=>rw[m];refine assignInOrder_cons (thn (l a s c H _ _ _ I r h) λ_ n ⟨b,o,d,j⟩=>?_);exact f a n b o _ _ Q d i j
def Dz(K:Ej)(n:Nat)(t:TGs):TG:=λv c H Q=>∃a b,v=.ref a/\SqT K H a b/\b.length=n/\t b c H Q
def uK(x:X.calm=true)(h:PGs X es t)
  (y:(assignEach es X.env).length=n:=by rfl) (f:(assignEach es X.env).findIdx? (·.1)=none:=by rfl):PG X (.Tuple es k pos) (Dz X.K n t):=by
 intro c s g H v u Q I r d;obtain⟨a,z,p,w,m,d⟩:=d;subst p;cases r;obtain⟨j,i,B,hz⟩:=I.tuple w;refine assign_Tuple_tuple (I.ok.hd x) B (by simp[y,<- m,i.length]) f λq A=>?_;have l:Inv X c g H { s with heap:=q }:=I.kept (t':=s.toks) λb o e=>A b o (F1 (D9 e)) e;exact h c _ g H z _ Q l (by simpa using i) d
def DA(d b:TE)(t:CQ):TG:=λv a H Q=>d a H λo f=>b a f λi c=>t o i v c λe=>Q a e
def uL(l:PE X o to)(n:PE X i ti)(z:CS X t)
  (C:∀v,assign (.Subscript o i pos) X.env v=(do
   let b<-holding [v] (eval o X.env)
   let c<-holding [v,b] (eval i X.env)
   standAt pos
   holding [v,b,c] (setItem b c v)
   release [v,b,c] []):=by intro _;rfl):PG X (.Subscript o i pos) (DA to ti t):=by
 intro a s d H v u Q I r h;rw[C];refine f8 (L8 (thn (l a s d H _ I h) λb D ⟨x,E,m,p,w⟩=>?_));refine f8 (L8 (thn (n a D d E _ m w) λc s2 ⟨y,e,A,f,j⟩=>?_));refine f8 (a05 (f8 (L8 (thn (z a s2 d e x y v b c u _ A p f r j) λ_ F ⟨q,g,B⟩=>?_))));exact wpAny_release ⟨d,q,g,B⟩
def ui(b:TE)(g:TG):TS:=λD a H=>b a H λx c=>g x a c D.nx
def oG(he:PE X e te)(i:PG X tg g)(l:swapsWithSole [tg] e pos.line X.env=pure false:=by rfl)(c:swappedStores [tg] e X.env=pure none:=by rfl)
  (m:(assignEach [tg] X.env).map (·.2)=[assign tg X.env]:=by rfl):PS X (.Assign [tg] e pos) (ui te g):=by
 intro a s b H D I h;refine wpAny_Assign_stores (thn (he a s b H _ I h) λv n ⟨x,o,d,f,j⟩=>?_) l c;rw[m];exact thn (i a n b o x v _ d f j) λ_ s2 q=>q
def fk(b:X.N.Nodup)(f:X.N[i]?=some x)(m:Loc X.env.scope x)(he:PE X e te)(l:swapsWith e (some (.Name x pos')) pos.line X.env=pure false:=by rfl)(hf:X.fn x=true\/X.env.scope.names.lookup x=some .local:=by first|exact .inl rfl|exact .inr rfl|assumption):
  PS X (.Assign [.Name x pos'] e pos) (ui te (aV i)):=by
 intro a s c H D I h;refine wpAny_Assign_Name (thn (he a s c H _ I h) λv p ⟨y,o,d,g,j⟩=>?_) l;exact Kp d b f m g (λs2 n=>⟨_,o,n,j⟩) hf
def DB(i:Nat)(d:TE)(b:TIp):TS:=λD a H=>∃x,a[i]?=some (some x)/\d a H λy e=>b x y e λz c=>D.nx (a.set i (some z)) c
def uM(B:X.N.Nodup)(p:X.N[i]?=some x)(n:Loc X.env.scope x)(he:PE X e te)(G:PIp X op ti)(hf:X.fn x=true\/X.env.scope.names.lookup x=some .local:=by first|exact .inl rfl|exact .inr rfl|assumption):
  PS X (.AugAssign (.Name x pos') op e pos) (DB i te ti):=by
 intro a s o H D I h;obtain⟨v,L,h⟩:=h;obtain⟨m,O,K⟩:=I.loc;have j:Vis X.env.scope x:=by rcases n with k|k;exact .inl k;exact .inr (.inl k)
 obtain⟨u,r,l⟩:=K i x v p L j;refine wpAny_AugAssign_Name ?_;have q:wpAny (Fg X) X.A (eval e X.env) (λw f=>wpAny (Fg X) X.A (inplaceOp op u w) (λr g=>wpAny (Fg X) X.A (storeName X.env x r) (λ_=>SP X a D .next) X.xe g) X.xe f) X.xe s:=by refine thn (he a s o H _ I h) λw S ⟨y,T,J,M,P⟩=>?_;refine thn (G a S o T v y u w _ J r M P) λz s2 ⟨W,A,Q,C,F⟩=>?_;exact Kp Q B p n C (λU E=>⟨_,A,E,F⟩) hf
 rcases l with⟨b,R⟩|⟨b,c,N,d⟩
 .exact a2q I.ok.kind b O R q
 .rcases b with b|b
  .exact a2G I.ok.kind b N d q
  .rcases n with k|k
   .have:X.env.scope.names.lookup x=some .free:=b;rw[k]at this;cases this
   .have:X.env.scope.names.lookup x=some .free:=b;rw[k]at this;cases this
def ipI(f:Int->Int->Int):TIp:=λx y H Q=>∃i j,x=.int i/\y=.int j/\Q (.int (f i j)) H
def uN:PIp X .Add (ipI λi j=>i+j):=by intro a s g H x y v u Q I e b h;obtain⟨i,j,d,c,q⟩:=h;subst d;subst c;obtain⟨t,rfl⟩:=e;obtain⟨f,rfl⟩:=b;exact iadd_int ⟨.int _,H,I.tok _,⟨_,rfl⟩,q⟩
def oH(c:TT)(h:TS):TS:=λD a H=>∃W:Nat->St->Hp->Prop,(∃m,W m a H)/\∀m a H,W m a H->
 c a H λb g=>if b=true then ∃N:St->Hp->Prop,(∀d e,N d e->∃f,f<m/\W f d e)/\h { D with nx:=N,ct:=N,bk:=D.nx } a g else D.nx a g
def l9(hp:PassesOwn (Fg X) X.A X.env X.xe)(K:PT X c tc)(hb:PSs X body tb):PS X (.While c body [] pos) (oH tc tb):=by
 intro d s C H D I h;obtain⟨W,⟨B,J⟩,i⟩:=h;refine wpAny_While (codeAny_whileLoop (λn G=>∃g y,Inv X d g y G/\W n g y) ?_ B ⟨C,H,I,J⟩)
 rintro n L ⟨e,A,E,F⟩
 refine T6 hp (thn (K d L e A _ E (i n e A F)) λb s2 ⟨w,z,l⟩=>?_);cases b with
 |true=>
  obtain⟨N,x,l⟩:=l;rw[if_pos rfl];refine T6 hp (thn (hb d s2 e w _ z l) λf M m=>?_);cases f with
  |next=>obtain⟨a,j,o,q⟩:=m;obtain⟨u,r,p⟩:=x a j q;exact⟨u,r,a,j,o,p⟩
  |cont=>obtain⟨a,j,o,q⟩:=m;obtain⟨u,r,p⟩:=x a j q;exact⟨u,r,a,j,o,p⟩
  |brk=>exact m
  |ret v=>exact m
 |false=>rw[if_neg F6];exact a1b ⟨e,w,z,l⟩
end
structure It where
 go:Nat->Hp->Prop
 yld:Nat->Hp->V->Hp->Prop
 stop:Nat->Hp->Prop
def dG(X:Cx)(a:D_)(H:Hp)(b:Addr):Prop:=
 H b=none/\b≠X.env.locals/\b∉X.fs/\(b∈X.ex\/X.s₀.heap.objs.size<=b)/\(∀x c,X.env.cells.lookup x=some c->c≠b)/\∀p∈X.pn++a,p.1≠b
def Inv.uj(I:Inv X pins σ H s)(hb:s.heap.objs.size<=b)(a:H' b=none):dG X pins H' b:=by
 refine⟨a,P4 (E7 I.lt hb),I.Ds hb,.inr (F2 I.sz hb),λx c e z=>?_,λp hp z=>?_⟩
 .obtain⟨v,q⟩:=I.cell x c e;exact absurd (E7 q.lt (by rw[z];exact hb)) (O3 _)
 .exact absurd (E7 (D9 (I.pin p hp).1) (by rw[z];exact hb)) (O3 _)
structure Turn(P:Eo)(w:Es)(K:Ej)(tg:Eh)(J:It)(fp:ES)(it:Addr)(tn:Nat->Heap->Prop):Prop where
 mem:it∈fp
 obj:∀i h,tn i h->∀b∈fp,∃o,h.get? b=some o/\∀v,o.data≠.cell v
 keep:∀i h h',tn i h->(∀b∈fp,∀o,h.get? b=some o->h'.get? b=some o)->tn i h'
 item:∀(X:Cx),X.prog=P->X.w=w->X.K=K->X.calm=true->∀(i:Nat)(pins:D_)(s:Ef)(σ:St)(H:Hp)(E:Ec),Inv X pins σ H s->(∀b∈fp,dG X pins H b)->tn i s.heap->J.go i H->
  wpAny (model P w) X.A (pyNext (.ref it)) (λr s1=>∃u,r=some u/\
   wpAny (model P w) X.A (letOwnedTupleGo tg (.ref it) u) (λ_ s2=>∃x H',Inv X pins σ H' s2/\RelV x u/\J.yld i H x H'/\tn (i+1) s2.heap/\∀b∈fp,H' b=none) E s1) E s
 done:∀(X:Cx),X.prog=P->X.w=w->X.K=K->X.calm=true->∀(i:Nat)(pins:D_)(s:Ef)(σ:St)(H:Hp)(E:Ec),Inv X pins σ H s->(∀b∈fp,dG X pins H b)->tn i s.heap->J.stop i H->
  wpAny (model P w) X.A (pyNext (.ref it)) (λr s1=>r=none/\Inv X pins σ H s1) E s
 self:∀(A:Ey)(i:Nat)(s:Ef)(Q:Ec)(E:Ec),tn i s.heap->Q (.ref it) s->wpAny (model P w) A (pyIter (.ref it)) Q E s
abbrev TI:=St->Hp->(It->Hp->Prop)->Prop
def PIE(X:Cx)(a:D_)(h:St)(i:Eh)(R:It->Hp->Prop)(d:Value)(s2:Ef):Prop:=
 ∃(e:Addr)(g:ES)(f:Nat->Heap->Prop)(J:It)(c:Hp),d=.ref e/\Inv X a h c s2/\Turn X.prog X.w X.K i J g e f/\f 0 s2.heap/\(∀b∈g,dG X a c b)/\R J c
def PI(X:Cx)(e d:Eh)(c:TI):Prop:=
 ∀(a:D_)(s:Ef)(b:St)(H:Hp)(R:It->Hp->Prop),Inv X a b H s->c b H R->
  wpAny (Fg X) X.A (eval d X.env) (λv f=>wpAny (Fg X) X.A (pyIter v) (PIE X a b e R) X.xe f) X.xe s
def l_(b:s.heap.get? it=some o)(c:o.cls=.type n)(d:o.data=.fields vs)
    (e:["enumerate","zip","dict_itemiterator","dict_reverseitemiterator","odict_iterator","itertools.zip_longest","itertools.pairwise"].contains n=false) (a:Q () s):wpAny M A (letOwnedTupleGo tg (.ref it) u) Q E s:=by
  unfold letOwnedTupleGo;cases tg<;>first
    |exact v4 a
    | (cases u<;>first
        |exact v4 a
        | (refine f8 (a2r b ?_)
           rw[c,d];show wpAny M A (if(["enumerate","zip","dict_itemiterator","dict_reverseitemiterator","odict_iterator","itertools.zip_longest","itertools.pairwise"].contains n&&vs[0]?==some (rawInt _))=true then _ else _) Q E s;rw[if_neg (by intro h;rw[e,Bool.false_and]at h;cases h)];exact v4 a))
def Itl(K:Ej)(a:Addr):It:=
 ⟨λi H=>∃b x,SqL K H a b/\b[i]?=some x,λi H x c=>c=H/\∀b,SqL K H a b->b[i]?=some x,λi H=>∃b,SqL K H a b/\b.length<=i⟩
def Itt(K:Ej)(a:Addr):It:=
 ⟨λi H=>∃b x,SqT K H a b/\b[i]?=some x,λi H x c=>c=H/\∀b,SqT K H a b->b[i]?=some x,λi H=>∃b,SqT K H a b/\b.length<=i⟩
def Itr(b:Int)(n:Nat):It:=⟨λi _=>i<n,λi H x a=>a=H/\x=.int (b+i),λi _=>n<=i⟩
def fm{P:Eo}{w:Es}{K:Ej}{Z:Eh}(a j:Addr):Turn P w K Z (Itl K a) [j] j (λi h=>h.IsListIter j a i)where
 mem:=by simp
 obj:=λi h f b hb=>by
  have e:b=j:=by simpa using hb
  subst e;obtain⟨o,e,c,d⟩:=f;exact⟨o,e,λv z=>by rw[d]at z;cases z⟩
 keep:=λi h m f k=>f.at λo e=>k j (by simp) o e
 item:=by intro X hP q D N i g s M H E I hf f C;subst hP q D;obtain⟨W,x,n,L⟩:=C;obtain⟨y,F,p,hz⟩:=I.list n;obtain⟨u,T,U⟩:=F.get L;obtain⟨B,r,S,G,J,A⟩:=hf j (by simp);refine wpAny_pyNext_list_item f p.isList (x:=u) (by simpa using T) λm l Q=>?_;have R:Inv X g M H { s with heap:=m }:=I.turned (t':=s.toks) (λb o hb e=>(Q.2 b hb).trans e) B r G J A;obtain⟨o,e,c,d⟩:=id l;exact⟨u,rfl,l_ (s:={ s with heap:=m }) e c d (by decide) ⟨x,H,R,U,⟨rfl,λys Y=>by rw[I.l7 Y n];exact L⟩,l,λb hb=>(hf b hb).1⟩⟩
 done:=by intro X hP q D N i g s M H E I hf f C;subst hP q D;obtain⟨W,n,L⟩:=C;obtain⟨y,F,p,hz⟩:=I.list n;obtain⟨B,r,S,G,J,A⟩:=hf j (by simp);have hl:=F.length;exact wpAny_pyNext_list_end (I.ok.hd N) f p.isList (by simp;omega) λm O=>⟨rfl,I.turned (t':=s.toks) (λb o hb e=>O b o hb e) B r G J A⟩
 self:=λ_ _ _ _ _ f h=>wpAny_pyIter_listiter f h
def dH{P:Eo}{w:Es}{K:Ej}{Z:Eh}(a j:Addr):Turn P w K Z (Itt K a) [j] j (λi h=>h.IsTupleIter j a i)where
 mem:=by simp
 obj:=λi h f b hb=>by
  have e:b=j:=by simpa using hb
  subst e;obtain⟨o,e,c,d⟩:=f;exact⟨o,e,λv z=>by rw[d]at z;cases z⟩
 keep:=λi h n f k=>f.at λo e=>k j (by simp) o e
 item:=by intro X hP r D N i g s M H E I hf f C;subst hP r D;obtain⟨W,x,q,L⟩:=C;obtain⟨l,F,p,hz⟩:=I.tuple q;obtain⟨u,T,U⟩:=F.get L;obtain⟨B,y,S,G,J,A⟩:=hf j (by simp);refine wpAny_pyNext_tuple_item f (show s.heap.IsTuple a l.toArray from p) (x:=u) (by simpa using T) λn m Q=>?_;have R:Inv X g M H { s with heap:=n }:=I.turned (t':=s.toks) (λb o hb e=>(Q.2 b hb).trans e) B y G J A;obtain⟨o,e,c,d⟩:=id m;exact⟨u,rfl,l_ (s:={ s with heap:=n }) e c d (by decide) ⟨x,H,R,U,⟨rfl,λys Y=>by rw[I.Um Y q];exact L⟩,m,λb hb=>(hf b hb).1⟩⟩
 done:=by intro X hP r D N i g s M H E I hf f C;subst hP r D;obtain⟨W,q,L⟩:=C;obtain⟨l,F,p,hz⟩:=I.tuple q;obtain⟨B,y,S,G,J,A⟩:=hf j (by simp);have hl:=F.length;exact wpAny_pyNext_tuple_end (I.ok.hd N) f (show s.heap.IsTuple a l.toArray from p) (by simp;omega) λn O=>⟨rfl,I.turned (t':=s.toks) (λb o hb e=>O b o hb e) B y G J A⟩
 self:=λ_ _ _ _ _ f h=>wpAny_pyIter_tupleiter f h
def dI{P:Eo}{w:Es}{K:Ej}{N:Eh}(c:Addr)(j:Int)(n:Nat):Turn P w K N (Itr j n) [c] c (λi h=>IsRangeIter h c (j+(i:Nat)*1) ((n:Int)-(i:Nat)) 1)where
 mem:=by simp
 obj:=λi h a b hb=>by
  have e:b=c:=by simpa using hb
  subst e;exact⟨_,a,λv z=>by
   have J:Data.fields _=Data.cell v:=z;cases J⟩
 keep:=λi h g a k=>k c (by simp) _ a
 item:=by
  intro X hP l x r i d s B H E I hf a u;subst hP l x;obtain⟨q,m,L,y,A,p⟩:=hf c (by simp);have W:=Walks.range (prog:=X.prog) (w:=X.w) (I.ok.hd r) c j 1 n;refine N5 (n:=X.m) I.tk<|W.item i s _ _ u a λv g C F f M O=>?_
  obtain⟨t,rfl⟩:=F;have G:Inv X d B H { s with heap:=g,toks:=C }:=I.turned (λb o hb e=>M b o (by simpa using hb) e) q m y A p;refine⟨_,rfl,l_ (s:={ s with heap:=g,toks:=C }) (n:="range_iterator") f rfl rfl (by decide) ⟨.int (j+i),H,G,⟨t,?_⟩,⟨rfl,rfl⟩,f,λb hb=>(hf b hb).1⟩⟩;rw[Int.mul_one]
 done:=by intro X hP l x r i d s B H E I hf a u;subst hP l x;obtain⟨q,m,L,y,A,p⟩:=hf c (by simp);exact wpAny_pyNext_range_end (I.ok.hd r) a (by have:n<=i:=u;omega) λg D=>⟨rfl,I.turned (t':=s.toks) (λb o hb e=>D b o hb e) q m y A p⟩
 self:=λ_ _ _ _ _ a h=>wpAny_pyIter_rangeiter a h
section
variable {X:Cx}{tg:Eh}
def mf{d:D_}{f:St}{H:Hp}{s:Ef}{R:It->Hp->Prop}{E:Ec}{a c:Int}{t u v:Tok}{tk:Nat}(I:Inv X d f H s)(h:-(2 ^ 62)<=a)(i:a<2 ^ 62)(m:-(2 ^ 62)<=c)(n:c<2 ^ 62)
  (q:R (Itr a (c-a).toNat) H) (p:X.m<=tk:=by ac_rfl):wpAny (Fg X) X.A (pyIter (.ref s.heap.objs.size)) (PIE X d f tg R) E { s with heap:=s.heap.push { cls:=.type "range",data:=.fields #[.int a t,.int c u,.int 1 v] },toks:=tk }:=by
 refine wpAny_pyIter_range (IsRange.new ..) (small_one h i m n) ?_;have g:Inv X d f H { s with heap:=s.heap.push { cls:=.type "range",data:=.fields #[.int a t,.int c u,.int 1 v] },toks:=tk }:=I.kept λb o e=>D2 _ e;refine⟨(s.heap.push { cls:=.type "range",data:=.fields #[.int a t,.int c u,.int 1 v] }).objs.size,[(s.heap.push { cls:=.type "range",data:=.fields #[.int a t,.int c u,.int 1 v] }).objs.size],_,_,H,rfl,
  g.kept (t':=tk) λb o e=>D2 _ e,dI _ a (c-a).toNat,?_,λb hb=>?_,q⟩
 .have j:a+((0:Nat):Int)*1=a:=by simp
  have l:(((c-a).toNat:Nat):Int)-((0:Nat):Int)=Builtin.Range.rangeSize a c 1:=by rw[rangeSize_one];split<;>omega
  show IsRangeIter _ _ (a+((0:Nat):Int)*1) ((((c-a).toNat:Nat):Int)-((0:Nat):Int)) 1;rw[j,l];exact F8 _ rfl
 .have e:b=(s.heap.push { cls:=.type "range",data:=.fields #[.int a t,.int c u,.int 1 v] }).objs.size:=by simpa using hb
  subst e;exact g.uj (D3 _) (g.hok.fresh (D3 _))
def BB(c:TA):TI:=λb H R=>c b H λa d=>∃j:Int,a=[.int j]/\-(2 ^ 62)<=j/\j<2 ^ 62/\R (Itr 0 j.toNat) d
def fo(l:Gl X "range")(o:X.mg "range"=none)(u:PA X [a] ta)(n:starEach [a] X.env=[(false,eval a X.env)]:=by rfl):PI X tg (.Call (.Name "range" p) [a] [] pos) (BB ta):=by
 intro b s f H R I h;refine Call_ (KH I l o boot_range (P9 (thn (u pos b s f H _ I h) λw x ⟨v,y,g,i,c⟩=>?_) n rfl));obtain⟨j,e,c,d,q⟩:=c;subst e;cases i with
 |cons r m=>cases m;obtain⟨t,rfl⟩:=r;exact call_range_1 (mf g (by omega) (by omega) c d (by simpa using q))
def BC(h:TI)(g:TG)(j:TS):TS:=λD a H=>h a H λJ l=>∃W:Nat->Nat->St->Hp->Prop,(∃m,W 0 m a l)/\∀i m a H,W i m a H->
 (J.stop i H/\D.nx a H)\/(J.go i H/\∃N:St->Hp->Prop,(∀c b,N c b->∃e,e<m/\W (i+1) e c b)/\∀x b,J.yld i H x b->g x a b λd f=>j { D with nx:=N,ct:=N,bk:=D.nx } d f)
def Uo(a:ES)(h:Heap):List (Addr×Obj):=a.filterMap λb=>(h.get? b).map λo=>(b,o)
def Yl(hb:b∈fp)(e:h.get? b=some o):(b,o)∈Uo fp h:=a2O.mpr ⟨b,hb,by rw[e];rfl⟩
def fq(hp:p∈Uo fp h):p.1∈fp/\h.get? p.1=some p.2:=by
 obtain⟨b,hb,e⟩:=a2O.mp hp;cases q:h.get? b with
 |none=>rw[q]at e;cases e
 |some o=>rw[q]at e;have a:(b,o)=p:=G4 e;subst a;exact⟨hb,q⟩
def Inv.pinned(I:Inv X pins σ H s)(hf:∀b∈fp,dG X pins H b)(c:∀b∈fp,∃o,s.heap.get? b=some o/\∀v,o.data≠.cell v):Inv X (pins++Uo fp s.heap) σ H s:=
 I.aT λp hp=>(G8.mp hp).elim (λz=>I.pin p (L7 _ z)) λz=>by obtain⟨hb,e⟩:=fq z;obtain⟨h,f,g,_⟩:=hf p.1 hb;obtain⟨o,a,d⟩:=c p.1 hb;rw[e]at a;cases a;exact⟨e,h,f,g,d⟩
def Inv.Kr(I:Inv X (pins++pl) σ H s):Inv X pins σ H s:=I.aT λp hp=>I.pin p (L7 _ (G9 _ hp))
def uO(hp:PassesOwn (Fg X) X.A X.env X.xe)(hc:X.calm=true)(hi:PI X tg jw wi)(hg:PG X tg g)(hb:PSs X body tb)
  (hs:∀x,foldedSetIterable jw X.env x=pure x:=by intro _;rfl):PS X (.For tg jw body [] pos) (BC wi g tb):=by
 intro c s σ H D I h;refine wpAny_For (thn (hi c s σ H _ I h) λv s1 h1=>thn h1 λitv s2 h2=>?_) hs;obtain⟨it,C,tn,J,H2,e,I2,T,P,Z,W,⟨m0,w0⟩,G⟩:=h2;subst e
 -- what stays true of the iterator's objects through the loop
 have q:∀{z:Hp},(∀b∈C,z b=none)->∀b∈C,dG X c z b:=λhn b hb=>⟨hn b hb,(Z b hb).2⟩;refine codeAny_forLoop_any (λn s'=>∃i p z,Inv X c p z s'/\tn i s'.heap/\(∀b∈C,z b=none)/\W i n p z) ?_ m0 ⟨0,σ,H2,I2,P,λb hb=>(Z b hb).1,w0⟩
 rintro n s3 ⟨i,w,M,I3,L,K,w3⟩
 rcases G i n w M w3 with⟨E,qn⟩|⟨go,N,hN,step⟩
 .refine T6 hp (thn (T.done X rfl rfl rfl hc i c s3 w M X.xe I3 (q K) L E) λr s4 ⟨S,I4⟩=>?_);subst S;exact a1b ⟨w,M,I4,qn⟩
 .refine T6 hp (thn (T.item X rfl rfl rfl hc i c s3 w M X.xe I3 (q K) L go) λr s4 ⟨u,S,h4⟩=>?_);subst S;refine T6 hp (thn h4 λ_ Y ⟨x,H5,I5,r5,y5,B,R⟩=>?_);have Q:=I5.pinned (q R) (T.obj _ _ B);refine T6 hp (thn (hg _ Y w H5 x u _ Q r5 (step x H5 y5)) λ_ s6 ⟨U,H6,I6,q6⟩=>?_);refine T6 hp (thn (hb _ s6 U H6 _ I6 q6) λf O A=>?_);have j:∀{a:St}{y:Hp},Inv X (c++Uo C Y.heap) a y O->N a y->∃m,m<n/\∃i p z,Inv X c p z O/\tn i O.heap/\(∀b∈C,z b=none)/\W i m p z:=λ{a y} l F=>by obtain⟨m',hm,w7⟩:=hN a y F;refine⟨m',hm,i+1,a,y,l.Kr,T.keep _ _ _ B λb hb o e=>(l.pin (b,o) (L7 _ (L7 _ (Yl hb e)))).1,λb hb=>?_,w7⟩;obtain⟨o,e,d⟩:=T.obj _ _ B b hb;exact(l.pin (b,o) (L7 _ (L7 _ (Yl hb e)))).2.1
  cases f with
  |next=>obtain⟨a,y,l,F⟩:=A;exact j l F
  |cont=>obtain⟨a,y,l,F⟩:=A;exact j l F
  |brk=>obtain⟨a,y,l,A⟩:=A;exact⟨a,y,l.Kr,A⟩
  |ret v=>obtain⟨x7,a,y,l,r7,A⟩:=A;exact⟨x7,a,y,l.Kr,r7,A⟩
end
abbrev R2:=V->V->Hp->VK->Prop
def OpR(X:Cx)(f:Value->Value->Sem Value)(r:R2):Prop:=
 ∀(a:D_)(s:Ef)(b:St)(H:Hp)(x y:V)(v u:Value)(Q:VK),Inv X a b H s->RelV x v->RelV y u->r x y H Q->
  wpAny (Fg X) X.A (f v u) (EP X a b Q) X.xe s
def UnR(X:Cx)(f:Value->Sem Value)(r:V->Hp->VK->Prop):Prop:=
 ∀(a:D_)(s:Ef)(b:St)(H:Hp)(x:V)(v:Value)(Q:VK),Inv X a b H s->RelV x v->r x H Q->
  wpAny (Fg X) X.A (f v) (EP X a b Q) X.xe s
def Zz(X:Cx)(f:Value)(r:List V->Hp->VK->Prop):Prop:=
 ∀(a:D_)(s:Ef)(b:St)(H:Hp)(d:En)(c:El)(Q:VK),Inv X a b H s->Vals d c->r d H Q->
  wpAny (Fg X) X.A (call f c) (EP X a b Q) X.xe s
def tOp(r:R2)(e d:TE):TE:=λa H Q=>e a H λx c=>d a c λy b=>r x y b Q
def tUn(r:V->Hp->VK->Prop)(b:TE):TE:=λa H Q=>b a H λx c=>r x c Q
def rI(C:Int->Int->Prop)(g:Int->Int->V):R2:=λx y H Q=>∃i j,x=.int i/\y=.int j/\C i j/\Q (g i j) H
def rI0(g:Int->Int->V):R2:=λx y H Q=>∃i j,x=.int i/\y=.int j/\Q (g i j) H
def rU(g:Int->V):V->Hp->VK->Prop:=λx H Q=>∃i,x=.int i/\Q (g i) H
section
variable {X:Cx}{a b:Eh}{ta tb:TE}{pos:Pos}
def BD(w:PE X a ta)(hb:PE X b tb){d:D_}{s:Ef}{g:St}{H:Hp}{R:V->V->Hp->Prop}(I:Inv X d g H s)
  (h:ta g H λx l=>tb g l λy e=>R x y e) {Q:Ec}{f:Value->Value->Sem Value}
  (hf:∀v u s2 x y e,Inv X d g e s2->RelV x v->RelV y u->R x y e->wpAny (Fg X) X.A (f v u) Q X.xe s2):
  wpAny (Fg X) X.A (eval a X.env) (λv i=>wpAny (Fg X) X.A (eval b X.env) (λu j=>wpAny (Fg X) X.A (f v u) Q X.xe j) X.xe i) X.xe s:=by
 refine thn (w d s g H _ I h) λv z ⟨x,l,o,p,q⟩=>?_;refine thn (hb d z g l _ o q) λu s2 ⟨y,e,r,m,n⟩=>?_;exact hf v u s2 x y e r p m n
def BE(i:OpR X (binaryOp op) r)(l:PE X a ta)(hb:PE X b tb):PE X (.BinOp a op b pos) (tOp r ta tb):=by intro d s f H Q I h;exact wpAny_BinOp (BD l hb I h λv u s2 x y e j m g q=>i d s2 f e x y v u Q j m g q)
def BF(g:UnR X (unaryOp op) r)(j:PE X a ta):PE X (.UnaryOp op a pos) (tUn r ta):=by intro d s e H Q I h;exact UnaryOp_ (thn (j d s e H _ I h) λv l ⟨x,n,i,f,m⟩=>g d l e n x v Q i f m)
def opI{f:Value->Value->Sem Value}{C:Int->Int->Prop}{g:Int->Int->Int}
  (d:∀(i j:Int)(t u:Tok)(s:Ef)(Q:Ec)(E:Ec),C i j->Q (.int (g i j) s.toks) { s with toks:=s.toks+1 }->wpAny (Fg X) X.A (f (.int i t) (.int j u)) Q E s):
  OpR X f (rI C λi j=>.int (g i j)):=by
 intro e s p H x y v u Q I o m h;obtain⟨i,j,rfl,rfl,n,q⟩:=h;obtain⟨t,rfl⟩:=o;obtain⟨l,rfl⟩:=m;exact d i j t l s _ _ n ⟨.int (g i j),H,I.tok _,⟨_,rfl⟩,q⟩
def CT{f:Value->Value->Sem Value}{g:Int->Int->Int}
  (d:∀(i j:Int)(t u:Tok)(s:Ef)(Q:Ec)(E:Ec),Q (.int (g i j) s.toks) { s with toks:=s.toks+1 }->wpAny (Fg X) X.A (f (.int i t) (.int j u)) Q E s):
  OpR X f (rI0 λi j=>.int (g i j)):=by
 intro e s o H x y v u Q I n m h;obtain⟨i,j,rfl,rfl,q⟩:=h;obtain⟨t,rfl⟩:=n;obtain⟨l,rfl⟩:=m;exact d i j t l s _ _ ⟨.int (g i j),H,I.tok _,⟨_,rfl⟩,q⟩
def CU{f:Value->Value->Sem Value}{g:Int->Int->Bool}
  (d:∀(i j:Int)(t u:Tok)(s:Ef)(Q:Ec)(E:Ec),Q (.bool (g i j)) s->wpAny (Fg X) X.A (f (.int i t) (.int j u)) Q E s):
  OpR X f (rI0 λi j=>.bl (g i j)):=by
 intro e s o H x y v u Q I n m h;obtain⟨i,j,rfl,rfl,q⟩:=h;obtain⟨t,rfl⟩:=n;obtain⟨l,rfl⟩:=m;exact d i j t l s _ _ ⟨.bl (g i j),H,I,rfl,q⟩
def uk(i j:Int):Prop:=0<j/\j<1073741824
def um(i j:Int):Prop:=0<=j/\j<=1000000/\i.natAbs<2 ^ 64
def oI(i j:Int):Prop:=(-(2 ^ 64)<i/\i<2 ^ 64)\/(-(2 ^ 64)<j/\j<2 ^ 64)
def oI.ok(h:oI i j):IntMulOk i j:=by
 rcases h with⟨d,e⟩|⟨d,e⟩
 .exact .of_left (intBits_le_64 d e)
 .exact .of_right (intBits_le_64 d e)
def uP:OpR X (binaryOp .Add) (rI0 λi j=>.int (i+j)):=CT λ_ _ _ _ _ _ _ q=>add_int q
def WQ:OpR X (binaryOp .Sub) (rI0 λi j=>.int (i-j)):=CT λ_ _ _ _ _ _ _ q=>sub_int q
def uQ:OpR X (binaryOp .Mult) (rI oI λi j=>.int (i*j)):=opI λ_ _ _ _ _ _ _ d q=>mul_int q d.ok
def p9:OpR X (binaryOp .FloorDiv) (rI uk λi j=>.int (i / j)):=opI λi j _ _ _ _ _ d q=>by have e:(0:Int)<j:=d.1;have f:j<1073741824:=d.2;exact floordiv_int (by omega) (by rw[Int.fdiv_eq_ediv_of_nonneg i (by omega)];exact q) (.inl (PyProof.noPylong_small (by omega)))
def uR:OpR X (binaryOp .Mod) (rI (λ_ j=>0<j) λi j=>.int (i % j)):=opI λi j _ _ _ _ _ d q=>by have e:(0:Int)<j:=d;exact mod_int' (by omega) (by rw[Int.fmod_eq_emod_of_nonneg i (by omega)];exact q)
def p_:OpR X (binaryOp .Mod) (rI (λ_ j=>j≠0) λi j=>.int (i.fmod j)):=opI λ_ _ _ _ _ _ _ d q=>mod_int' d q
def cg:OpR X (binaryOp .Pow) (rI um λi j=>.int (i ^ j.toNat)):=opI λ_ _ _ _ _ _ _ d q=>pow_int_small d.1 d.2.1 d.2.2 q
def unI{f:Value->Sem Value}{g:Int->Int}
  (d:∀(i:Int)(t:Tok)(s:Ef)(Q:Ec)(E:Ec),Q (.int (g i) s.toks) { s with toks:=s.toks+1 }->wpAny (Fg X) X.A (f (.int i t)) Q E s):
  UnR X f (rU λi=>.int (g i)):=by
 intro e s l H x v Q I j h;obtain⟨i,rfl,q⟩:=h;obtain⟨t,rfl⟩:=j;exact d i t s _ _ ⟨.int (g i),H,I.tok _,⟨_,rfl⟩,q⟩
def Qw:UnR X (unaryOp .USub) (rU λi=>.int (-i)):=unI λ_ _ _ _ _ q=>neg_int q
end
section
variable {X:Cx}{a b c:Eh}{ta tb:TE}{pos:Pos}
def ft(I:Inv X pins σ H s)(q:Q (.bl k) H)(e:k=k'):EP X pins σ Q (.bool k') s:=by subst e;exact⟨.bl k,H,I,rfl,q⟩
def aW:OpR X (compareOp .Lt) (rI0 λi j=>.bl (decide (i<j))):=CU λ_ _ _ _ _ _ _ q=>lt_int q
def Xj:OpR X (compareOp .Gt) (rI0 λi j=>.bl (decide (j<i))):=CU λ_ _ _ _ _ _ _ q=>gt_int q
def fu:OpR X (compareOp .In) (λx y H Q=>∃i j,x=.str i/\y=.str j/\Q (.bl (!(Builtin.Str.occurrences j i 0 j.length 1).isEmpty)) H):=by intro d s g H x y v u Q I f e h;obtain⟨i,j,rfl,rfl,q⟩:=h;obtain⟨t,rfl⟩:=f;obtain⟨l,rfl⟩:=e;exact in_str (ft I q rfl)
def KJ:OpR X (compareOp .Is) (λx y H Q=>y=.non/\Q (.bl (decide (x=.non))) H):=by
 intro d s g H x y v u Q I e f h;obtain⟨rfl,q⟩:=h;cases f;refine is_none_gen (ft I q ?_);cases x<;>first
  | (cases e;rfl)
  | (obtain⟨t,rfl⟩:=e;rfl)
def fA:OpR X (compareOp .IsNot) (λx y H Q=>y=.non/\Q (.bl (!decide (x=.non))) H):=by
 intro d s g H x y v u Q I e f h;obtain⟨rfl,q⟩:=h;cases f;refine isnot_none_gen (ft I q ?_);cases x<;>first
  | (cases e;rfl)
  | (obtain⟨t,rfl⟩:=e;rfl)
def OpR.or(h:OpR X f r)(h':OpR X f r'):OpR X f (λx y H Q=>r x y H Q\/r' x y H Q):=by
 intro d s e H x y v u Q I i g q;rcases q with q|q
 .exact h d s e H x y v u Q I i g q
 .exact h' d s e H x y v u Q I i g q
def y9(b:Eh)(h:op≠.In:=by decide)(f:op≠.NotIn:=by decide):behindInMarks op b=false:=by
 have d:(op==CmpOp.In)=false:=by cases op<;>first|rfl|exact absurd rfl h
 have e:(op==CmpOp.NotIn)=false:=by cases op<;>first|rfl|exact absurd rfl f
 cases b<;>simp[behindInMarks,d,e]
def aX(i:OpR X (compareOp op) r)(m:PE X a ta)(hb:PE X b tb)(l:behindInMarks op b=false):PE X (.Compare a [op] [b] pos) (tOp r ta tb):=by intro d s f H Q I h;exact wpAny_Compare1 (BD m hb I h λv u s2 x y e j n g q=>i d s2 f e x y v u Q j n g q) l
def uS(t:TE):TT:=λd H Q=>t d H λx e=>∃k,x=.bl k/\Q k e
def Xk(m:OpR X (compareOp op) r)(D:PE X a ta)(hb:PE X b tb)(B:behindInMarks op b=false):PT X (.Compare a [op] [b] pos) (uS (tOp r ta tb)):=by
 intro d s f H Q I h;refine wpAny_isTrue_Compare1 (thn (D d s f H _ I h) λv E ⟨x,F,n,o,w⟩=>thn (hb d E f F _ n w) λu s2 ⟨y,g,A,i,l⟩=>
  thn (m d s2 f g x y v u _ A o i l) λc G ⟨z,p,j,q,k,e,C⟩=>?_) B
 subst e;cases q;exact a02 ⟨p,j,C⟩
def Up:(sizeLine:Nat)<2 ^ 63:=by rw[a0j];decide
def dJ:OpR X (binaryOp .Add) (λx y H Q=>∃i j,x=.str i/\y=.str j/\i.length+j.length<=sizeLine/\Q (.str (i++j)) H):=by intro pins s σ H x y v u Q I rx ry h;obtain⟨i,j,rfl,rfl,hz,q⟩:=h;obtain⟨t,rfl⟩:=rx;obtain⟨t',rfl⟩:=ry;exact N5 (n:=X.m) I.tk<|add_str (λt' tk hn=>⟨.str (i++j),H,I.tok _ hn,⟨_,rfl⟩,q⟩) hz
def vals1(r:Vals [x] us):∃u,us=[u]/\RelV x u:=by
 cases r with
 |cons e d=>cases d;exact⟨_,rfl,e⟩
def vals2(r:Vals [x,y] us):∃u d,us=[u,d]/\RelV x u/\RelV y d:=by
 cases r with
 |cons h e=>
  cases e with
  |cons f g=>cases g;exact⟨_,_,rfl,h,f⟩
def CV(K:Ej)(x:V)(H:Hp)(n:Nat):Prop:=
 match x with
 |.str y=>y.length<=sizeLine/\n=y.length
 |.byt y=>y.size<=sizeLine/\n=y.size
 |.ref p=>(∃d,SqL K H p d/\n=d.length)\/∃d,SqT K H p d/\n=d.length
 |_=>False
def mj:Zz X (.builtin "len") (λd H Q=>∃x n,d=[x]/\CV X.K x H n/\Q (.int n) H):=by
 intro v s z H d B Q I r h;obtain⟨x,n,rfl,e,q⟩:=h;obtain⟨u,rfl,m⟩:=vals1 r;have A:=Up;have C:sizeLine=16777216:=a0j;cases x with
 |str y=>obtain⟨t,rfl⟩:=m;obtain⟨w,g⟩:y.length<=sizeLine/\n=y.length:=e;subst g;exact len_str (by omega) ⟨.int _,H,I.tok _,⟨_,rfl⟩,q⟩
 |byt y=>obtain⟨t,rfl⟩:=m;obtain⟨w,g⟩:y.size<=sizeLine/\n=y.size:=e;subst g;exact PySem.W.len_bytes (by omega) ⟨.int _,H,I.tok _,⟨_,rfl⟩,q⟩
 |ref p=>
  cases m;have g:(∃d,SqL X.K H p d/\n=d.length)\/∃d,SqT X.K H p d/\n=d.length:=e;rcases g with⟨d,l,g⟩|⟨d,l,g⟩
  .subst g;obtain⟨i,o,j,hz⟩:=I.list l;have f:=o.length;exact Calls.call_len_list j.isList (by simp only[List.size_toArray];omega) ⟨.int d.length,H,I.tok _,⟨_,by simp only[List.size_toArray];rw[f]⟩,q⟩
  .subst g;obtain⟨i,o,j,hz⟩:=I.tuple l;have f:=o.length;exact len_tuple j (by simp only[List.size_toArray];omega) ⟨.int d.length,H,I.tok _,⟨_,by simp only[List.size_toArray];rw[f]⟩,q⟩
 |_=>exact(show False from e).elim
end
structure rg(h:Heap)(x dx C:Addr)(mA:Ed):Prop where
 obj:h.get? x=some (PySem.W.instObj C dx)
 ns:h.Ns1 dx mA
 ne:dx≠x
def KN{h:Heap}{f:Addr}{d:Ed}(n:h.Ns1 f d):∃od,h.get? f=some od/\∀b,PySem.W.lookIn b od=some (d b):=by
 obtain⟨o,g,s,i,p,r,_,l⟩:=n;refine⟨o,i,λb=>?_⟩;have e:=l b;unfold nsFind findBy at e;rw[<- a2P]at e;unfold PySem.W.lookIn;rw[p];dsimp only;split
 .rename_i y q;rw[q]at e;exact M4 some e
 .rename_i q;rw[q]at e;have a:g.toList.any (·.refKey)=false:=by rw[List.any_eq_false];intro y m;obtain⟨z,t,c⟩:=r y (a2s.mp m);simp[DictEntry.refKey,c]
  have j:¬g.toList.any (·.refKey)=true:=by rw[a];exact F6
  rw[if_neg j];exact M4 some e
def rg.look(I:rg h x dx C mA):∃od,PySem.W.InstAt h x (PySem.W.instObj C dx) C (some od)/\∀a,PySem.W.lookIn a od=some (mA a):=
 let⟨od,ho,hl⟩:=KN I.ns
 ⟨od,⟨I.obj,rfl,rfl,ho⟩,hl⟩
section
variable {prog:Eo}{w:Es}{A:Ey}{E:Ec}{s:Ef}{K:Ej}{x dx C f:Addr}{mA:Ed}{name:Str}{v:Value}
def get_map(X:K.In s.heap)(I:rg s.heap x dx C mA)(e:PySem.W.plainGet K C name=true)(d:PySem.W.hasDictIn K C=true)
  (g:PySem.W.findIn K (.ref C) name=some none) (b:mA name=some v) (a:PySem.W.handedIn v=true) (h:Q v { s with toks:=s.toks+1 }):
  wpAny (model prog w) A (getAttr (.ref x) name expr) Q E s:=by
 obtain⟨od,J,c⟩:=I.look;exact PySem.W.get_value X J (a1l e).1 (PySem.W.findObj_own d g rfl (by rw[c,b])) a h
def mq(X:K.In s.heap)(I:rg s.heap x dx C mA)(a:PySem.W.plainGet K C name=true)
  (hf:PySem.W.findIn K (.ref C) name=some (some (.ref f))) (d:PySem.W.isFn K (.ref f)=true) (b:mA name=none) (h:Q (.ref f,[.ref x]) s):
  wpAny (model prog w) A (getMethod (.ref x) name pl) Q E s:=by
 obtain⟨od,J,c⟩:=I.look;exact PySem.W.method_fn X J (a1l a).1 (a1l a).2 hf (I0.mp d) (by show(PySem.W.lookIn name od).map (·.isSome)=some false;rw[c,b];rfl) h
def rh(X:K.In s.heap)(I:rg s.heap x dx C mA)
  (u:PySem.W.findIn K (.ref C) "__setattr__"=some (some (.builtin "object.__setattr__"))) (hp:PySem.W.plainOver K C=true) (B:PySem.W.takerIn K C name=some none) (n:PySem.W.hasDictIn K C=true)
  (m:PySem.Within mA ns) (hsz:ns.length<=sizeLine)
  (h:∀e,rg e x dx C (λy=>if y=name then some v else mA y)->Heap.SameBut dx s.heap e->Q () { s with heap:=e,toks:=s.toks+2 }):
  wpAny (model prog w) A (setAttr (.ref x) name v) Q E s:=by
 obtain⟨od,J,F⟩:=I.look;refine PySem.W.set_plain X J u (PySem.W.osa_open (s:={ s with toks:=s.toks+1 }) (r:=none) X J hp B λb=>?_);obtain⟨cd,q,i⟩:=PySem.W.any_some n;have z:s.heap.get? x=some ⟨.ref C,some dx,.plain,#[]⟩:=I.obj;refine f8 (v4 (f8 (f8 (a0Y z (f8 (PySem.W.Looks.here (s:={ s with toks:=s.toks+1 }) (PySem.W.looks_clsIn X q) ?_))))));rw[i];refine v4 (a:=some dx) (f8 (v4 (f8 ?_)));refine a2Q (s:={ s with toks:=s.toks+1 }) I.ns λe c d=>?_;obtain⟨D,o,p,g,l,j⟩:=c.count (a1x name v m);refine f8 (a1N g (by rw[l];exact a1O (F2 j (by rw[D4];omega))) ?_);exact v4 (h _ ⟨(d.2 _ (Ne.symm I.ne)).trans I.obj,c,I.ne⟩ d)
def mr(X:K.In s.heap)(b:PySem.W.makesIn K C=true)
  (c:PySem.W.findIn K (.ref C) "__init__"=some (some (.ref f))) (hf:PySem.W.typeIn K (.ref f)=some (.type "function"))
  (h:codeAny (model prog w) (A.under (.builtin "type.__call__" ⟨.ref C::vs,kw⟩)) (.call (.ref f) ⟨.ref (s.heap.objs.size+1)::vs,kw⟩) (PySem.W.InitBack (s.heap.objs.size+1) R)
   { s with heap:=(s.heap.push PySem.W.emptyDict).push (PySem.W.instObj C s.heap.objs.size) }):
  codeAny (model prog w) A (.call (.ref C) ⟨vs,kw⟩) R s:=by
 obtain⟨i,g,d,t,e⟩:=s;exact PySem.W.make_core (PySem.W.makes_of X b) (PySem.W.looks_findIn X c) (λa=>PySem.W.bind_fn X a hf) (.inl rfl) h
end
def Wj(f:Str)(v:V):List (Str×V)->List (Str×V)
 |[]=>[(f,v)]
 | (g,x)::r=>if g=f then(g,v)::r else(g,x)::Wj f v r
theorem Y8(f g:Str)(v:V):∀fs:List (Str×V),(Wj f v fs).lookup g=if g=f then some v else fs.lookup g
 |[]=>by
  show List.lookup g [(f,v)]=_;by_cases h:g=f
  .have hb:(g==f)=true:=I0.mpr h;simp only[List.lookup,hb,if_pos h]
  .have hb:(g==f)=false:=O0.mpr h;simp only[List.lookup,hb,if_neg h]
 | (k,x)::r=>by
  have b:=Y8 f g v r;rw[show Wj f v ((k,x)::r)=(if k=f then(k,v)::r else(k,x)::Wj f v r)from rfl];by_cases a:k=f
  .rw[if_pos a];by_cases h:g=k
   .have hb:(g==k)=true:=I0.mpr h;simp only[List.lookup,hb,if_pos (h.trans a)]
   .have hb:(g==k)=false:=O0.mpr h;simp only[List.lookup,hb,if_neg (λe:g=f=>h (e.trans a.symm))]
  .rw[if_neg a];by_cases h:g=k
   .have hb:(g==k)=true:=I0.mpr h;simp only[List.lookup,hb,if_neg (λe:g=f=>a (h.symm.trans e))]
   .have hb:(g==k)=false:=O0.mpr h;simp only[List.lookup,hb];exact b
theorem ZF(f:Str)(v:V):∀fs:List (Str×V),f∈(Wj f v fs).map (·.1)/\∀g,g∈fs.map (·.1)->g∈(Wj f v fs).map (·.1)
 |[]=>⟨by simp[Wj],λg h=>by simp at h⟩
 | (k,x)::r=>by
  obtain⟨b,c⟩:=ZF f v r;rw[show Wj f v ((k,x)::r)=(if k=f then(k,v)::r else(k,x)::Wj f v r)from rfl];by_cases a:k=f
  .rw[if_pos a];subst a;exact⟨by simp,λg h=>by simpa using h⟩
  .rw[if_neg a];refine⟨?_,λg h=>?_⟩
   .rw[E6];exact D5 _ b
   .rw[E6]at h ⊢;rcases G0.mp h with e|e
    .exact G0.mpr (.inl e)
    .exact D5 _ (c g e)
theorem Y9(f:Str)(v:V):∀fs:List (Str×V),(Wj f v fs).length<=fs.length+1
 |[]=>by simp[Wj]
 | (k,x)::r=>by
  have b:=Y9 f v r;rw[show Wj f v ((k,x)::r)=(if k=f then(k,v)::r else(k,x)::Wj f v r)from rfl];by_cases a:k=f
  .rw[if_pos a,D4,D4];omega
  .rw[if_neg a,D4,D4];omega
def JF.some_of(r:JF (some v) o):∃u,o=some u/\RelV v u:=by
 cases o with
 |none=>exact(show False from r).elim
 |some u=>exact⟨u,rfl,r⟩
def JF.none_of(r:JF none o):o=none:=by
 cases o with
 |none=>rfl
 |some u=>exact(show False from r).elim
def fB(r:RelV v u):PySem.W.handedIn u=true:=by
 cases v with
 |non=>cases(show u=Value.none from r);rfl
 |bl b=>cases(show u=Value.bool b from r);rfl
 |int i=>obtain⟨t,e⟩:=(show ∃t,u=Value.int i t from r);cases e;rfl
 |str x=>obtain⟨t,e⟩:=(show ∃t,u=Value.str x t from r);cases e;rfl
 |byt b=>obtain⟨t,e⟩:=(show ∃t,u=Value.bytes b t from r);cases e;rfl
 |flt b=>obtain⟨t,e⟩:=(show ∃t,u=Value.float b t from r);cases e;rfl
 |ref a=>cases(show u=Value.ref a from r);rfl
 |ty n=>cases(show u=Value.type n from r);rfl
def Xl(c:HOk P w H h)(e:H a=some (.ins C dx fs)):∃b,rg h a dx C b/\(∀f,JF (fs.lookup f) (b f))/\PySem.Within b (fs.map (·.1))/\fs.length<=1000/\H dx=some (.own a):=by obtain⟨d,z,g,ob,b,n,r,q⟩:=(show y3 P w H h a (.ins C dx fs)from c a _ e);exact⟨b,⟨ob,n,g⟩,r,q,z,d⟩
structure Cls(K:Ej)(C:Addr):Prop where
 pg:PySem.W.plainGet K C Str.empty=true
 hd:PySem.W.hasDictIn K C=true
 po:PySem.W.plainOver K C=true
 sa:PySem.W.findIn K (.ref C) "__setattr__"=some (some (.builtin "object.__setattr__"))
def Cls.get{K:Ej}{C:Addr}(c:Cls K C)(f:Str):PySem.W.plainGet K C f=true:=c.pg
def ZG(K:Ej)(C:Addr)(f:Str):Prop:=PySem.W.findIn K (.ref C) f=some none
def ZG.BG{K:Ej}{C:Addr}{f:Str}(n:ZG K C f):PySem.W.takerIn K C f=some none:=by unfold PySem.W.takerIn;rw[show PySem.W.findIn K (.ref C) f=some none from n];rfl
structure Meth(K:Ej)(C:Addr)(m:Str)(f:Addr):Prop where
 at_:PySem.W.findIn K (.ref C) m=some (some (.ref f))
 fn:PySem.W.isFn K (.ref f)=true
 kp:PySem.W.keepIn K (.ref f)=true
def dM(I:Inv X pins σ H s)(e:H a=some (.ins C dx fs))(c:Cls X.K C)(n:ZG X.K C f)(l:fs.lookup f=some v)
  (h:∀u d,Inv X pins σ H d->RelV v u->Q u d):wpAny (Fg X) A (getAttr (.ref a) f b) Q E s:=by
 obtain⟨i,O,r,_,_,_⟩:=Xl I.hok e;obtain⟨u,j,g⟩:=JF.some_of (v:=v) (o:=i f) (by rw[<- l];exact r f);exact get_map I.kIn O (c.get f) c.hd n j (fB g) (h u _ (I.tok _) g)
def dN(I:Inv X pins σ H s)(e:H a=some (.ins C dx fs))(c:Cls X.K C)(k:Meth X.K C m g)(l:fs.lookup m=none)
  (h:Q (.ref g,[.ref a]) s):wpAny (Fg X) A (getMethod (.ref a) m pl) Q E s:=by
 obtain⟨b,O,r,_,_,_⟩:=Xl I.hok e;have d:b m=none:=JF.none_of (by rw[<- l];exact r m);exact mq I.kIn O (c.get m) k.at_ k.fn d h
def dO(I:Inv X pins σ H s)(e:H a=some (.ins C dx fs))(c:Cls X.K C)(n:ZG X.K C f)(F:fs.length<1000)(p:RelV y u)
  (h:∀l,Inv X pins σ (upd H a (.ins C dx (Wj f y fs))) l->Q () l):wpAny (Fg X) A (setAttr (.ref a) f u) Q E s:=by
 obtain⟨j,O,r,m,_,i⟩:=Xl I.hok e;have hz:(fs.map (·.1)).length<=sizeLine:=by rw[D0,a0j];omega
 refine rh I.kIn O c.sa c.po n.BG c.hd m hz λB d v=>h _ ?_;have w:∃o,B.get? dx=some o:=let⟨o,_,_,e',_⟩:=d.ns;⟨o,e'⟩
 refine I.write (x:=a) (e:=dx) (by rw[e];exact True.intro) (.inr i) (λb q hb z=>(v.2 b hb).trans z) w ?_;refine⟨by rw[zm O.ne];exact i,?_,O.ne,d.obj,_,d.ns,λg=>?_,λg D=>?_⟩
 .have:=Y9 f y fs;omega
 .show JF ((Wj f y fs).lookup g) (if g=f then some u else j g);rw[Y8];by_cases q:g=f
  .rw[if_pos q,if_pos q];exact p
  .rw[if_neg q,if_neg q];exact r g
 .by_cases q:g=f
  .rw[q];exact(ZF f y fs).1
  .refine(ZF f y fs).2 g (m g λz=>D ?_);show(if g=f then some u else j g)=none;rw[if_neg q];exact z
def Inv.made(I:Inv X pins σ H s):Inv X pins σ (upd (upd H s.heap.objs.size (.own (s.heap.objs.size+1))) (s.heap.objs.size+1) (.ins C s.heap.objs.size []))
  { s with heap:=(s.heap.push PySem.W.emptyDict).push (PySem.W.instObj C s.heap.objs.size) }:=by
 have d:(s.heap.push PySem.W.emptyDict).get? s.heap.objs.size=some PySem.W.emptyDict:=F8 s.heap rfl;have i:((s.heap.push PySem.W.emptyDict).push (PySem.W.instObj C s.heap.objs.size)).get? (s.heap.objs.size+1)=some (PySem.W.instObj C s.heap.objs.size):=by
  have:=F8 (s.heap.push PySem.W.emptyDict) (o:=PySem.W.instObj C s.heap.objs.size) rfl
  rwa [a0k]at this
 have j:(s.heap.push PySem.W.emptyDict).Ns s.heap.objs.size (λ_=>none):=⟨PySem.W.emptyDict,#[],_,d,rfl,(λe g=>absurd g (by simp)),λ_=>rfl⟩;have f:=I.laid (a:=s.heap.objs.size) (o:=.own (s.heap.objs.size+1)) (h':=s.heap.push PySem.W.emptyDict) (t':=s.toks) (λb u q=>D2 _ q) (D3 _) ⟨_,d⟩;refine f.laid (a:=s.heap.objs.size+1) (o:=.ins C s.heap.objs.size []) (t':=s.toks) (λb u q=>D2 _ q) (a1P (a0k _ _)) ?_;have c:s.heap.objs.size≠s.heap.objs.size+1:=F1 (a0l _);refine⟨by rw[zm c,zi],M7 _,c,i,λ_=>none,(Heap.Ns1.of_empty j).at λo q=>D2 _ q,λ_=>True.intro,λy h=>absurd rfl h⟩
def rj(hb:attributeBase e f env (eval e env)=eval e env)
  (h:wpAny (model prog w) A (eval e env) (λo a=>wpAny (model prog w) A (getAttr o f true) Q E a) E s):wpAny (model prog w) A (eval (.Attribute e f pos) env) Q E s:=
 Attribute_any_ h (by rw[arm_eval_Attribute,hb])
def DC(K:Ej)(e:TE)(f:Str):TE:=λc H Q=>e c H λx b=>∃a C d fs v,x=.ref a/\b a=some (.ins C d fs)/\Cls K C/\ZG K C f/\fs.lookup f=some v/\Q v b
def DD(K:Ej)(g e:TE)(f:Str):TS:=λD b H=>e b H λy h=>g b h λx c=>∃a C d fs,x=.ref a/\c a=some (.ins C d fs)/\Cls K C/\ZG K C f/\fs.length<1000/\
 D.nx b (upd c a (.ins C d (Wj f y fs)))
def uT(he:PE X e ta)(hb:attributeBase e f X.env (eval e X.env)=eval e X.env):PE X (.Attribute e f pos) (DC X.K ta f):=by intro b s g H Q I h;refine rj hb (thn (he b s g H _ I h) λu z ⟨x,r,i,p,a,C,w,fs,v,m,d,c,n,l,q⟩=>?_);subst m;obtain rfl:u=Value.ref a:=p;exact dM i d c n l λy s2 o j=>⟨v,r,o,j,q⟩
def uU(A:PE X o ta)(j:PE X value tv)(v:swapsWith value (some (.Attribute o f pos')) pos.line X.env=pure false):PS X (.Assign [.Attribute o f pos'] value pos) (DD X.K ta tv f):=by intro b s d H D I h;refine a09 (thn (j b s d H _ I h) λu E ⟨y,F,p,m,q⟩=>thn (A b E d F _ p q) λr s2 ⟨x,G,z,B,a,C,J,fs,w,i,c,n,l,g⟩=>?_) v;subst w;obtain rfl:r=Value.ref a:=B;exact dO z i c n l m λK e=>⟨d,_,e,g⟩
section
variable {H:Hp}
inductive fc(K:Ej)(H:Hp):V->Value->Prop where
 |non:fc K H .non (.type "NoneType")
 |bl (x:Bool):fc K H (.bl x) (.type "bool")
 |int (i:Int):fc K H (.int i) (.type "int")
 |str (x:Str):fc K H (.str x) (.type "str")
 |flt (x:UInt64):fc K H (.flt x) (.type "float")
 |lst {a:Addr}{xs:En}(e:H a=some (.lst xs)):fc K H (.ref a) (.type "list")
 |frz {a:Addr}{o:Obj}{xs:En}(e:H a=some (.frz o (.lst xs))):fc K H (.ref a) (.type "list")
 |tup {a:Addr}{xs:En}(e:H a=some (.tup xs)):fc K H (.ref a) (.type "tuple")
 |dK {a:Addr}{kvs:Ei}(e:H a=some (.dK kvs)):fc K H (.ref a) (.type "dict")
 |dT {a:Addr}{kvs:EY}(e:H a=some (.dT kvs)):fc K H (.ref a) (.type "dict")
 |ins {a C dx:Addr}{fs:EF}(e:H a=some (.ins C dx fs)) (cl:Cls K C) (ha:PySem.W.findIn K (.ref C) "__class__"=some (some (.builtin "object.__class__")))
   (hn:PySem.W.specialIn K (.builtin "object.__class__") "__get__"=some (some (.builtin "getset_descriptor.__get__"))) (htk:PySem.W.takesIn K (.builtin "object.__class__")=some true)
   (hm:PySem.W.mroIn K C (.type "object")=some true):fc K H (.ref a) (.ref C)
end
structure vC(k:Nat)(A:Ey):Prop where
 hd:A.handled=none
 dp:A.depth+3*k+5<recursionLimit
 un:A.units+16*k+200<cLine
def vC.mono(r:vC k A)(h:j<=k):vC j A:=⟨r.hd,by have:=r.dp;omega,by have:=r.un;omega⟩
def vC.deeper(r:vC (k+1) A)(env:Env):vC k (A.deeper env):=
 ⟨r.hd,by have:=r.dp;show A.depth+1+3*k+5<_;omega,by have:=r.un;show A.units+3+16*k+200<_;omega⟩
def dP{A:Ey}{C:Addr}{us:El}{a:EU}:(A.under (.builtin "type.__call__" ⟨.ref C::us,a⟩)).depth=A.depth+1:=by
 first|rfl|simp[Around.under,Code.weight,Code.isCreation,Code.isGuard,Code.isCaller,Code.frames,Code.isFrame,guardIds]
def dQ{A:Ey}{C:Addr}{us:El}{a:EU}:(A.under (.builtin "type.__call__" ⟨.ref C::us,a⟩)).units=A.units+1:=by
 first|rfl|simp[Around.under,Code.cUnits,Code.frames,Code.isFrame]
def vC.make(r:vC (k+1) A)(C:Addr)(us:El)(a:EU):vC k (A.under (.builtin "type.__call__" ⟨.ref C::us,a⟩)):=
 ⟨r.hd,by have:=r.dp;rw[dP];omega,by have:=r.un;rw[dQ];omega⟩
def vC.depth(r:vC k A):A.depth<recursionLimit:=by have:=r.dp;omega
def vC.units(r:vC k A):A.units+64<cLine:=by have:=r.un;omega
def DE:TA:=λ_ H Q=>Q [] H
def uV(e:TE)(c:TA):TA:=λa H Q=>e a H λx f=>c a f λd b=>Q (x::d) b
section
variable {X:Cx}{e:Eh}{es:Eg}{te:TE}{t:TA}{pos:Pos}
def JG:PA X [] DE:=λ_ _ _ _ H Q I h=>a0d ⟨[],H,I,.nil,h⟩
def vD(p:PE X e te)(i:PA X es t)(n:starEach (e::es) X.env=(false,eval e X.env)::starEach es X.env:=by rfl):PA X (e::es) (uV te t):=by intro pos a s b H Q I h;rw[n];show wpAny _ _ (spliced ((false,eval e X.env)::backTo pos (starEach es X.env))) _ _ s;refine N6 (thn (p a s b H _ I h) λu q ⟨x,r,g,j,m⟩=>?_);exact thn (i pos a q b r _ g m) λv s2 ⟨l,c,o,d,f⟩=>⟨x::l,c,o,.cons j d,f⟩
def CW(t:TA):TE:=λc H Q=>t c H λa b=>a.length<=sizeLine/\∀p,b p=none->Q (.ref p) (upd b p (.tup a))
def DF(t:TA):TE:=λc H Q=>t c H λa b=>a.length<=sizeLine/\∀p,b p=none->Q (.ref p) (upd b p (.lst a))
def WR{x1}(h:PA X es t):PE X (.Tuple es x1 pos) (CW t):=by intro a s g H Q I i;refine wpAny_Tuple_spliced (thn (h pos a s g H _ I i) λj c ⟨l,f,d,r,z,q⟩=>⟨by rw[<- r.length];exact z,?_⟩);have hf:f c.heap.objs.size=none:=d.hok.fresh (D3 _);refine⟨.ref c.heap.objs.size,upd f c.heap.objs.size (.tup l),d.laid (t':=c.toks) (λb u e=>D2 _ e) (D3 _) ?_,rfl,q _ hf⟩;exact⟨z,j,r,⟨_,F8 _ rfl,rfl,_,rfl⟩⟩
def fC(h:PA X es t):PE X (.List es pos) (DF t):=by intro a s g H Q I i;refine wpAny_List_spliced (thn (h pos a s g H _ I i) λj c ⟨l,f,d,r,z,q⟩=>⟨by rw[<- r.length];exact z,?_⟩);have hf:f c.heap.objs.size=none:=d.hok.fresh (D3 _);refine⟨.ref c.heap.objs.size,upd f c.heap.objs.size (.lst l),d.laid (t':=c.toks) (λb u e=>D2 _ e) (D3 _) ?_,rfl,q _ hf⟩;exact⟨z,j,0,r,F8 _ rfl⟩
end
abbrev Sp:=List V->Hp->VK->XK->Prop
abbrev CXT:=List Env->Hp->Shared->XK->Value->Shared->Prop
structure oJ(P:Eo)(w:Es)(K:Ej)(mg:Ed)(base:Heap)(A:Ey)(outer:List Env)(s:Ef)(H:Hp):Prop where
 frames:A.frames=some outer
 mod:Mod K mg base
 bs:∀b o,base.get? b=some o->s.heap.get? b=some o/\H b=none
 bsz:base.objs.size<=s.heap.objs.size
 aS:s.heap.FunFrames base outer
 frf:∀b∈frs outer,H b=none
 hok:HOk P w H s.heap
 bare:AllBare s.gens
def CE(a:List Env)(P:Eo)(w:Es)(H:Hp)(s:Ef)(Q:VK)(u:Value)(b:Ef):Prop:=
 ∃v c,b.os=s.os/\AllBare b.gens/\Un (frs a) [] H c s.heap b.heap/\HOk P w c b.heap/\RelV v u/\Q v c
def CR(CX:CXT)(a:List Env)(P:Eo)(w:Es)(H:Hp)(s:Ef)(Q:VK)(E:XK)(r:Result)(b:Ef):Prop:=
 match r with
 |.ok (.ret u)=>CE a P w H s Q u b
 |.ok _=>False
 |.error e=>CX a H s E e b
structure qV(P:Eo)(w:Es)(K:Ej)(mg:Ed)(base:Heap)(CX:CXT)(k:Nat)(f:Addr)(fd:Eu)(ps:Ea)(sp:Sp):Prop where
 len:∀vs H Q E,sp vs H Q E->vs.length=ps.length
 run:∀(A:Ey)(outer:List Env)(s:Ef)(H:Hp)(args:Args)(us:El)(vs:En) (Q:VK) (E:XK),vC k A->oJ P w K mg base A outer s H->BindsTo s fd args (ps.zip us)->Vals vs us->sp vs H Q E->
  codeAny (model P w) A (.call (.ref f) args) (CR CX outer P w H s Q E) s
def qV.imp{P:Eo}{w:Es}{K:Ej}{i:Ed}{a:Heap}{CX:CXT}{k:Nat}{f:Addr}{g:Eu}{e:Ea}{sp d:Sp}(F:qV P w K i a CX k f g e sp)
  (h:∀c H Q E,d c H Q E->sp c H Q E):qV P w K i a CX k f g e d:=
 ⟨λc H Q E q=>F.len c H Q E (h _ _ _ _ q),λA b s H args n c Q E o m hb j l=>F.run A b s H args n c Q E o m hb j (h _ _ _ _ l)⟩
def oJ.make{P:Eo}{w:Es}{K:Ej}{c:Ed}{b:Heap}{A:Ey}{a:List Env}{s:Ef}{H:Hp}(e:oJ P w K c b A a s H)(C:Addr)(us:El)(d:EU):
  oJ P w K c b (A.under (.builtin "type.__call__" ⟨.ref C::us,d⟩)) a s H:=⟨by first|exact e.frames|(simpa[Around.under,Code.envs,Code.isFrame,pushEnvs]using e.frames),e.mod,e.bs,e.bsz,e.aS,e.frf,e.hok,e.bare⟩
def Inv.Ba(I:Inv X pins σ H s):oJ X.prog X.w X.K X.mg X.base X.A X.stack s H:=
 ⟨I.ok.frames,I.ok.mod,I.bs,F2 I.ok.bsz I.sz,I.stack,I.Xi,I.hok,I.bare⟩
def Inv.after(I:Inv X pins σ H s)(h:CE X.stack X.prog X.w H s Q u s')(l:X.m<=s'.toks:=by ac_rfl):EP X pins σ Q u s':=by obtain⟨v,f,i,a,un,c,r,q⟩:=h;obtain⟨j,g,d,t,e⟩:=s';obtain rfl:e=s.os:=i;exact⟨v,f,I.call (h':=j) (g':=g) (d':=d) (t':=t) (ch:=[]) un c a (λb z=>absurd z (by simp)),r,q⟩
def BH(sp:Sp)(dvs:En)(E:XK)(t:TA):TE:=λb H Q=>t b H λa c=>sp (a++dvs) c Q E
def BI(C:Addr)(sp:Sp)(dvs:En)(E:XK)(t:TA):TE:=λd H Q=>t d H λc b=>∀x a,b x=none->b a=none->a≠x->
 sp (.ref x::(c++dvs)) (upd (upd b a (.own x)) x (.ins C a [])) (λv e=>v=.non/\Q (.ref x) e) E
def Binds(K:Ej)(d:Eu)(b:Ea)(c:El):Prop:=
 ∀(s:Ef)(a:El),K.In s.heap->(a++c).length=b.length->BindsTo s d ⟨a,[]⟩ (b.zip (a++c))
def Binds.all{K:Ej}{c:Eu}{b:Ea}(h:∀a:List Value,a.length=b.length->bindArgs c ⟨a,[]⟩=pure (b.zip a)):Binds K c b []:=λs a _ d=>by rw[M5]at d ⊢;exact .of_eq (h a d)
def Passes(CX:CXT)(X:Cx)(E:XK):Prop:=∀(a:D_)(c:St)(H:Hp)(s:Ef)(e:Value)(b:Ef),Inv X a c H s->CX X.stack H s E e b->X.m<=b.toks->X.xe e b
section
variable {X:Cx}{CX:CXT}{k:Nat}{f C:Addr}{fd:Eu}{ps:Ea}{sp:Sp}{dvs:En}{ds:El}{E:XK}{x:Str}{p pos:Pos}{e:Eh}{es:Eg}{t:TA}
def fD(F:qV X.prog X.w X.K X.mg X.base CX k f fd ps sp)(hr:vC k X.A)(hb:Binds X.K fd ps ds)(hd:Vals dvs ds)(hx:Passes CX X E)
  (I:Inv X pins σ H s) (r:Vals vs us) (h:sp (vs++dvs) H Q E):wpAny (Fg X) X.A (call (.ref f) us) (EP X pins σ Q) X.xe s:=by
 have r2:Vals (vs++dvs) (us++ds):=r.append hd;have hl:(us++ds).length=ps.length:=by rw[<- r2.length];exact F.len _ _ _ _ h
 refine a0K (a1y (n:=X.m) I.tk<|a0D (F.run X.A X.stack s H ⟨us,[]⟩ (us++ds) (vs++dvs) Q E hr I.Ba (hb s us I.kIn hl) r2 h) λr s' hq hn=>?_);cases r with
 |error e=>exact hx pins σ H s e s' I hq hn
 |ok fl=>
  cases fl with
  |ret u=>exact I.after hq
  |next=>exact False.elim hq
  |brk=>exact False.elim hq
  |cont=>exact False.elim hq
def fE(F:qV X.prog X.w X.K X.mg X.base CX k f fd ps sp)(j:vC k X.A)(n:Gl X x)(v:X.mg x=some (.ref f))(l:PySem.W.keepIn X.K (.ref f)=true)(hb:Binds X.K fd ps ds)(i:Vals dvs ds)(u:Passes CX X E)
  (w:PA X (e::es) t) (b:(x==("__debug__":Str))=false:=by decide) (he:starEach (e::es) X.env=(false,eval e X.env)::starEach es X.env:=by rfl) (c:(backTo pos (starEach es X.env)).any (·.1)=false:=by rfl):
  PE X (.Call (.Name x p) (e::es) [] pos) (BH sp dvs E t):=by
 intro a s g H Q I h;refine O9 (Jb I n v ?_ b);refine T5 (h₀:=X.base) I.ok.mod.kin l (thn (w pos a s g H _ I h) λz A ⟨y,B,d,r,q⟩=>⟨d.kIn,?_⟩) he c;exact fD F j hb i u d r q
structure Mk(K:Ej)(C f:Addr):Prop where
 makes:PySem.W.makesIn K C=true
 init:PySem.W.findIn K (.ref C) "__init__"=some (some (.ref f))
 fn:PySem.W.isFn K (.ref f)=true
 kp:PySem.W.keepIn K (.ref C)=true
def mw(M:Mk X.K C f)(F:qV X.prog X.w X.K X.mg X.base CX k f fd ps sp)(z:vC (k+1) X.A)(hb:Binds X.K fd ps ds)(y:Vals dvs ds)
  (G:Passes CX X E) (I:Inv X pins σ H s) (r:Vals vs us)
  (h:∀x b,H x=none->H b=none->b≠x->sp (.ref x::(vs++dvs)) (upd (upd H b (.own x)) x (.ins C b [])) (λv l=>v=.non/\Q (.ref x) l) E):
  wpAny (Fg X) X.A (call (.ref C) us) (EP X pins σ Q) X.xe s:=by
 have i:=h (s.heap.objs.size+1) s.heap.objs.size (I.hok.fresh (S7 _)) (I.hok.fresh (D3 _)) (F1 (a0l _));have c:=Inv.made (C:=C) I;have g:Vals (V.ref (s.heap.objs.size+1)::(vs++dvs)) (Value.ref (s.heap.objs.size+1)::(us++ds)):=.cons rfl (r.append y);have w:(Value.ref (s.heap.objs.size+1)::us++ds).length=ps.length:=by have e:=g.length;rw[F.len _ _ _ _ i]at e;exact e.symm
 refine a0K (a1y (n:=X.m) I.tk<|mr (f:=f) I.kIn M.makes M.init (I0.mp M.fn) (a0D (F.run _ X.stack _ _ ⟨Value.ref (s.heap.objs.size+1)::us,[]⟩ (Value.ref (s.heap.objs.size+1)::(us++ds)) _ _ E (z.make C us [])
  (c.Ba.make C us []) (hb _ (Value.ref (s.heap.objs.size+1)::us) c.kIn w) g i) λr B a=>?_))
 cases r with
 |error e=>exact λd=>G pins σ _ _ e B c a d
 |ok A=>
  cases A with
  |ret u=>obtain⟨v,j,_,_,_,_,D,ev,_⟩:=id a;subst ev;refine⟨D,λd=>?_⟩;obtain⟨v,j,q,_,_,J⟩:=c.after a d;exact⟨V.ref (s.heap.objs.size+1),j,q,rfl,J⟩
  |next=>exact False.elim a
  |brk=>exact False.elim a
  |cont=>exact False.elim a
def rl(M:Mk X.K C f)(F:qV X.prog X.w X.K X.mg X.base CX k f fd ps sp)(j:vC (k+1) X.A)(l:Gl X x)(u:X.mg x=some (.ref C))(hb:Binds X.K fd ps ds)(i:Vals dvs ds)(n:Passes CX X E)
  (v:PA X (e::es) t) (b:(x==("__debug__":Str))=false:=by decide) (he:starEach (e::es) X.env=(false,eval e X.env)::starEach es X.env:=by rfl) (c:(backTo pos (starEach es X.env)).any (·.1)=false:=by rfl):
  PE X (.Call (.Name x p) (e::es) [] pos) (BI C sp dvs E t):=by
 intro a s g H Q I h;refine O9 (Jb I l u ?_ b);refine T5 (h₀:=X.base) I.ok.mod.kin M.kp (thn (v pos a s g H _ I h) λy z ⟨w,A,d,r,q⟩=>⟨d.kIn,?_⟩) he c;exact mw M F j hb i n d r q
end
structure zy(N P:Ea)(sc:Scope):Prop where
 kind:sc.kind=.function
 co:sc.isCoroutine=false
 gen:sc.isGenerator=false
 nd:N.Nodup
 pre:N.take P.length=P
 par:∀x∈P,sc.names.lookup x=some .local\/sc.names.lookup x=some .cell
 A9:∀y∈sc.names,y.2≠.free
theorem Uq{a:EW}{x:Str}:∀{binds:EU}{m:Ed},(∀v,(x,v)∉binds)->bindL a binds m x=m x
 |[],_,_=>rfl
 | (n,v)::r,m,h=>by
  unfold bindL;rw[Uq λw b=>h w (D5 _ b)];split
  .have:x≠n:=by rintro rfl;exact h v D8
   simp[this]
  .rfl
theorem Ur{a:EW}{x:Str}:∀{binds:EU}{m:Ed},(∀v,(x,v)∉binds)->bindC a binds m x=m x
 |[],_,_=>rfl
 | (n,v)::r,m,h=>by
  unfold bindC;rw[Ur λw b=>h w (D5 _ b)];split
  .rfl
  .have:x≠n:=by rintro rfl;exact h v D8
   simp[this]
theorem Us{a:EW}{x:Str}{v:Value}:∀{P:Ea}{b:El}{i:Nat}{m:Ed},P.Nodup->P[i]?=some x->b[i]?=some v->a x=some .local->
  bindL a (P.zip b) m x=some v
 |[],_,_,_,_,h,_,_=>by simp at h
 |_::_,[],_,_,_,_,h,_=>by simp at h
 |p::P,w::b,0,m,f,c,d,e=>by simp at c d;subst c;subst d;show bindL a ((p,w)::P.zip b) m p=_;unfold bindL;rw[Uq λv g=>(O7.mp f).1 (a1c g).1,if_pos e];simp
 |p::P,w::b,i+1,m,f,c,d,e=>by show bindL a ((p,w)::P.zip b) m x=_;unfold bindL;exact Us (i:=i) (O7.mp f).2 (by simpa using c) (by simpa using d) e
theorem Ut{a:EW}{x:Str}{v:Value}:∀{P:Ea}{b:El}{i:Nat}{m:Ed},P.Nodup->P[i]?=some x->b[i]?=some v->a x≠some .local->
  bindC a (P.zip b) m x=some v
 |[],_,_,_,_,h,_,_=>by simp at h
 |_::_,[],_,_,_,_,h,_=>by simp at h
 |p::P,w::b,0,m,f,c,d,e=>by simp at c d;subst c;subst d;show bindC a ((p,w)::P.zip b) m p=_;unfold bindC;rw[Ur λv g=>(O7.mp f).1 (a1c g).1,if_neg e];simp
 |p::P,w::b,i+1,m,f,c,d,e=>by show bindC a ((p,w)::P.zip b) m x=_;unfold bindC;exact Ut (i:=i) (O7.mp f).2 (by simpa using c) (by simpa using d) e
def start(N:Ea)(vs:En):St:=vs.map some++List.replicate (N.length-vs.length) none
def aI(CX:CXT)(P:Eo)(w:Es)(K:Ej)(h:Ed)(d:Heap)(N:Ea)(c:Str)(a:Scope)(f:Addr)(cd:Value)(A:Ey)(b:List Env)(s:Ef)(H:Hp)(E:XK):Cx where
 prog:=P
 w:=w
 K:=K
 mg:=h
 base:=d
 A:=A.deeper (envOfC c a s.heap.objs.size f cd)
 N:=N
 s₀:=s
 H₀:=H
 env:=envOfC c a s.heap.objs.size f cd
 outer:=b
 stack:=envOfC c a s.heap.objs.size f cd::b
 ex:=[]
 calm:=true
 fn:=λ_=>true
 pn:=[]
 xe:=λe i=>wpAny (model P w) (A.deeper (envOfC c a s.heap.objs.size f cd)) (leaving (envOfC c a s.heap.objs.size f cd) e) (λ_ g=>CX b H s E e g) (λj g=>CX b H s E j g) i
def cj{a:Scope}{n:Nat}{x:Str}(h:a.names.lookup x=some .cell):∃c,(cellsFrom n a.names []).lookup x=some c:=by have q:=a04 a.names n [] (.inl h);exact O4.mp q
def Uu{CX:CXT}{P:Eo}{w:Es}{K:Ej}{J:Ed}{m:Heap}{N C:Ea}{j:Str}{d:Scope}{f:Addr}{cd:Value}{A:Ey}{g:List Env}{s O:Ef}{H:Hp}{E:XK}{us:El}{vs:En}
  (S:zy N C d) (Q:A.handled=none) (o:oJ P w K J m A g s H) (W:vs.length=C.length) (r:Vals vs us)
  (x:InCallC s s.heap.objs.size (bindL (envOfC j d s.heap.objs.size f cd).kindOf (C.zip us) λ_=>none) (cellsFrom (s.heap.objs.size+1) d.names []) (bindC (envOfC j d s.heap.objs.size f cd).kindOf (C.zip us) λ_=>none) O):
  Inv (aI CX P w K J m N j d f cd A g s H E) [] (start N vs) H O:=by
 have R:C.length<=N.length:=by have:=M4 List.length S.pre;rw[a0L]at this;omega
 obtain⟨I,X,rfl,L⟩:=x.done;have B:∀b:Addr,b∉(aI CX P w K J m N j d f cd A g s H E).ex:=λb z=>absurd (show b∈([]:List Addr)from z) (by simp);refine⟨⟨o.mod,S.kind,rfl,rfl,D3 _,λy z c I l=>?_,λy D=>?_,λy c _ h=>?_,λ_=>Q,Around.frames_deeper o.frames,.inr ⟨rfl,rfl⟩,λb z=>absurd z (B b),o.bs,o.bsz,λb _ _=>B b,λb z=>absurd z (B b),o.aS,o.frf⟩,
  rfl,o.bare,Un.kept L,⟨_,x.toInCall.ns,λi y v I l Y=>?_⟩,λy c h=>⟨_,x.cell y c h⟩,o.hok.fresh (D3 _),λy c h=>?_,λp hp=>absurd (show p∈([]:List (Addr×Obj))from hp) (by simp),o.hok.kept L,?_,M7 _⟩
 .exact name_of_addr x.apart (a0r I) (a0r l)
 .have D:d.names.lookup y=some .cell\/d.names.lookup y=some .free:=D;rcases D with D|D
  .exact cj D
  .exact absurd rfl (S.A9 _ (a0r D))
 .exact a1L (x.above y c (a0r h))
 .have G:i<vs.length:=by
   unfold start at l;by_cases G:i<vs.length
   .exact G
   .rw[P2 (by simpa using G)]at l;rw[a0s]at l;split at l<;>cases l
  have U:vs[i]?=some v:=by
   unfold start at l;rw[N9 (by simpa using G),F4]at l;cases e:vs[i]? with
   |none=>rw[e]at l;cases l
   |some a=>rw[e]at l;cases l;rfl
  obtain⟨u,M,T⟩:=r.get U;have hp:C[i]?=some y:=by rw[<- S.pre,List.getElem?_take_of_lt (by omega)];exact I
  have F:C.Nodup:=by rw[<- S.pre];exact S.nd.sublist (List.take_sublist _ _)
  refine⟨u,T,?_⟩;rcases S.par y (S8 hp)with k|k
  .exact .inl ⟨k,Us F hp M k⟩
  .obtain⟨c,e⟩:=cj (n:=s.heap.objs.size+1) k;refine .inr ⟨.inl k,c,e,?_⟩;have q:=x.cell y c e;rw[Ut F hp M (by show d.names.lookup y≠_;rw[k];decide)]at q;exact q
 .exact o.hok.fresh (a1L (x.above y c (a0r h)))
 .unfold start;show _=N.length;rw[E8,D0,T7];omega
def BJ{CX:CXT}{P:Eo}{w:Es}{K:Ej}{L:Ed}{i:Heap}{k:Nat}{f:Addr}{name d:Str}{h:Arguments}{j:EC}{a:Scope}{dV kV F X g ct oc:Value}{Z od:EH}
  {R:Ez}{N G:Ea}{sp:Sp}(lk:K.lookup f=some ⟨oc,od,.func (PySem.W.fnOf name d h j a dV kV F X Z g ct),R⟩) (M:PySem.W.codeIn K g d=true) (S:zy N G a)
  (len:∀l H Q E,sp l H Q E->l.length=G.length)
  (lL:∀(A:Ey)(c:List Env)(s:Ef)(H:Hp)(l:En)(Q:VK)(E:XK),vC k (A.deeper (envOfC d a s.heap.objs.size f g))->sp l H Q E->
   ∃t,PSs (aI CX P w K L i N d a f g A c s H E) j t/\t { nx:=λ_ p=>Q .non p,rt:=Q } (start N l) H):
  qV P w K L i CX (k+1) f (PySem.W.fnOf name d h j a dV kV F X Z g ct) G sp:=by
 refine⟨len,λA c s H args us l Q E T C hb r hsp=>?_⟩;have hl:=len _ _ _ _ hsp;have Y:K.In s.heap:=C.mod.kin.keeps λb o e=>(C.bs b o e).1;have O:s.heap.NoLimit:=C.mod.nolimit.keeps λb o e=>(C.bs b o e).1;have z:∀y∈G.zip us,a.names.lookup y.1=some .local\/(a.names.lookup y.1=some .cell/\((cellsFrom (s.heap.objs.size+1) a.names []).lookup y.1).isSome=true):=λ⟨n,v⟩ hy=>by
  rcases S.par n (a1c hy).1 with q|q
  .exact .inl q
  .exact .inr ⟨q,a04 _ _ _ (.inl q)⟩
 refine a2f T.depth (Y _ _ lk) rfl S.co S.gen rfl (a2R Y M) (hb _ _ _ _ ?_);refine a1t S.kind z λenv he s1 x=>?_;subst he;refine⟨O.keeps x.toInCall.keep,codeAny_func ?_⟩;obtain⟨t,ht,hq⟩:=lL A c s H l Q E (T.deeper _) hsp;have I:Inv (aI CX P w K L i N d a f g A c s H E) [] (start N l) H s1:=Uu S T.hd C hl r x;refine S0 (ht [] s1 (start N l) H _ I hq) (λfl U B=>?_) λe U B=>B;have D:∀{m:St}{p:Hp}{v:V}{u:Value},Inv (aI CX P w K L i N d a f g A c s H E) [] m p U->RelV v u->Q v p->CE c P w H s Q u U:=
  λ{m p v u} J W q=>⟨v,p,J.os,J.bare,J.base,J.hok,W,q⟩
 cases fl with
 |ret u=>obtain⟨v,m,p,J,W,q⟩:=B;exact D J W q
 |next=>obtain⟨m,p,J,q⟩:=B;exact D (v:=V.non) (u:=Value.none) J rfl q
 |brk=>obtain⟨_,_,_,q⟩:=B;exact False.elim q
 |cont=>obtain⟨_,_,_,q⟩:=B;exact False.elim q
section
variable {X:Cx}{x:Str}{p pos:Pos}{e:Eh}{es:Eg}{t:TA}{id T:String}{r:List V->Hp->VK->Prop}
def tCB(r:List V->Hp->VK->Prop)(t:TA):TE:=λb H Q=>t b H λa c=>r a c Q
def ck(n:Zz X (.builtin id) r)(m:Gl X x)(u:X.mg x=none)(g:bootBuiltins x=some (.builtin id))(v:PA X (e::es) t)(o:x≠"__name__":=by decide)(b:(x==("__debug__":Str))=false:=by decide)
  (he:starEach (e::es) X.env=(false,eval e X.env)::starEach es X.env:=by rfl) (c:(backTo pos (starEach es X.env)).any (·.1)=false:=by rfl):PE X (.Call (.Name x p) (e::es) [] pos) (tCB r t):=by
 intro a s d H Q I h;refine O9 (KH I m u g ?_ o b);exact PyProof.Rows.callWith_builtin1 (thn (v pos a s d H _ I h) λl w ⟨f,y,i,j,q⟩=>n a w d y f l Q i j q) he c
def Uv(n:Zz X (.type T) r)(m:Gl X x)(u:X.mg x=none)(g:bootBuiltins x=some (.type T))(v:PA X (e::es) t)(o:x≠"__name__":=by decide)(b:(x==("__debug__":Str))=false:=by decide)
  (he:starEach (e::es) X.env=(false,eval e X.env)::starEach es X.env:=by rfl) (c:(backTo pos (starEach es X.env)).any (·.1)=false:=by rfl):PE X (.Call (.Name x p) (e::es) [] pos) (tCB r t):=by
 intro a s d H Q I h;refine O9 (KH I m u g ?_ o b);exact P9 (thn (v pos a s d H _ I h) λl w ⟨f,y,i,j,q⟩=>n a w d y f l Q i j q) he c
end
end L2
namespace HT
open PySem PyProof.Rows
section
variable {prog:Eo}{w:Es}{A:Ey}{E:Ec}{s:Ef}
def sIx(n d:Nat):Option Int->Nat
 |none=>d
 |some v=>if v<0 then(v+(n:Int)).toNat else min v.toNat n
def uW(n d:Nat)(b:d<=n)(o:EJ):sIx n d o<=n:=by
 cases o with
 |none=>exact b
 |some v=>
  show(if v<0 then(v+(n:Int)).toNat else min v.toNat n)<=n;by_cases a:v<0
  .rw[if_pos a];omega
  .rw[if_neg a];exact Nat.min_le_right _ _
def fF(v:Int)(n d:Nat):(if v<0 then max (v+(n:Int)) 0 else min v (n:Int))=((sIx n d (some v):Nat):Int):=by
 show(if v<0 then max (v+(n:Int)) 0 else min v (n:Int))=(((if v<0 then(v+(n:Int)).toNat else min v.toNat n):Nat):Int);by_cases a:v<0
 .simp only[if_pos a];omega
 .simp only[if_neg a];omega
def dR(b a:EJ)(n:Nat):Builtin.Slice.sliceAdjust b a 1 (n:Int)=(((sIx n 0 b:Nat):Int),((sIx n n a:Nat):Int)):=by
 have c:¬((1:Int)<0):=by omega
 unfold Builtin.Slice.sliceAdjust;simp only[c,if_false];refine Prod.ext ?_ ?_
 .cases b with
  |none=>rfl
  |some v=>exact fF v n 0
 .cases a with
  |none=>rfl
  |some v=>exact fF v n n
def dS(i j:Nat):Builtin.Slice.slicePlaces (i:Int) (j:Int) 1=j-i:=by
 unfold Builtin.Slice.slicePlaces;have a:(1:Int)>0:=by omega
 simp only[a,if_true,Int.ediv_one];split<;>omega
def WT(p:IsPart v o)(h:Q o s):wpAny (model prog w) A (Builtin.Slice.slicePartIndex v) Q E s:=by
 cases p with
 |none=>exact slicePart_none h
 |int i t=>exact slicePart_int h
def J9{sl:Addr}{f e:Value}{a b:EJ}{n:Nat}{Q:Int×Int×Nat->Shared->Prop}(g:s.heap.IsSliceOf sl f e .none)(pl:IsPart f a)(j:IsPart e b)
  (h:Q (((sIx n 0 a:Nat):Int),1,sIx n n b-sIx n 0 a) s):wpAny (model prog w) A (Builtin.Slice.sliceApplied (.ref sl) (pure (n:Int))) Q E s:=by
 obtain⟨l,c,i,d⟩:=id g;unfold Builtin.Slice.sliceApplied Builtin.Slice.sliceFields;refine f8 (f8 (M9 c d (x:=f) rfl (f8 (M9 c d (x:=e) rfl (f8 (M9 c d (x:=.none) rfl (v4 ?_)))))));refine f8 (slicePart_none ?_);show wpAny _ _ (if((1:Int)==0)=true then _ else _) _ _ s;rw[if_neg (by decide)];refine f8 (WT pl (f8 (WT j (f8 (v4 ?_)))));show wpAny _ _ (match Builtin.Slice.sliceAdjust a b 1 (n:Int)with|(a,b)=>pure (a,(1:Int),Builtin.Slice.slicePlaces a b 1)) _ _ s;rw[dR a b n];show wpAny _ _ (pure (((sIx n 0 a:Nat):Int),(1:Int),Builtin.Slice.slicePlaces ((sIx n 0 a:Nat):Int) ((sIx n n b:Nat):Int) 1)) _ _ s;rw[dS];exact v4 h
def mx(xs:EA)(i k:Nat):((List.range k).filterMap λ(m:Nat)=>xs[((i:Int)+(m:Int)*1).toNat]?).toArray=((xs.toList.drop i).take k).toArray:=by
 have e:(λ(m:Nat)=>xs[((i:Int)+(m:Int)*1).toNat]?)=λm=>xs[i+m]?:=by
  funext m
  have:((i:Int)+(m:Int)*1).toNat=i+m:=by omega
  rw[this]
 rw[e];have:=pick_run xs i k;rw[List.filterMap_map]at this;have a:((λx=>xs[x]?)∘λx=>i+x)=λm=>xs[i+m]?:=rfl;rw[a]at this;rw[this]
def Jd{t sl:Addr}{items:EA}{j l:Value}{b c:EJ}{Q:Ec}(d:IsTup s.heap t items)(n:s.heap.IsSliceOf sl j l .none)(pl:IsPart j b)(p:IsPart l c)
  (o:¬(sIx items.size 0 b=0/\sIx items.size items.size c=items.size))
  (h:Q (.ref s.heap.objs.size) { s with heap:=s.heap.push { cls:=.type "tuple",data:=.seq ((items.toList.drop (sIx items.size 0 b)).take (sIx items.size items.size c-sIx items.size 0 b)).toArray } })
  (hsz:items.size<=sizeLine):wpAny (model prog w) A (getItem (.ref t) (.ref sl)) Q E s:=by
 have a:sizeOk (.seq ((items.toList.drop (sIx items.size 0 b)).take (sIx items.size items.size c-sIx items.size 0 b)).toArray):=by show((items.toList.drop (sIx items.size 0 b)).take (sIx items.size items.size c-sIx items.size 0 b)).toArray.size<=sizeLine;rw[F0,a0L,S4,a1m];omega
 have y:sIx items.size items.size c<=items.size:=uW _ _ (D3 _) c;obtain⟨r,g,e,u⟩:=id n;have i:s.TypeIs (.ref sl) "slice":=⟨r,g,e⟩;unfold getItem
 try with_reducible refine L8 ?_
 first|refine f8 (v4 ?_)|skip
 refine f8 (wpAny_sequenceKey d.typeIs (by decide) ?_);refine f8 (wpAny_callSpecial?_slot (name:=Str.ofString "__getitem__") d.typeIs a1a
  (a07 a1a d.typeIs entry_tuple_getitem ?_ (args_tuple_getitem _ _)))
 show wpAny _ _ (Builtin.Tuple.tupleItemsOf (.ref t) >>= _) _ _ s;refine f8 (tupleItemsOf_ d ?_);refine f8 (a0m i ?_);rw[if_pos (by decide)];refine f8 (J9 n pl p ?_);have f:¬((((sIx items.size 0 b:Nat):Int)==0&&(1:Int)==1&&(sIx items.size items.size c-sIx items.size 0 b)==items.size)=true):=by intro q;rw[N8,N8]at q;have x:((sIx items.size 0 b:Nat):Int)=0:=eq_of_beq q.1.1;have v:sIx items.size items.size c-sIx items.size 0 b=items.size:=eq_of_beq q.2;exact o ⟨by omega,by omega⟩
 show wpAny _ _ (if(((sIx items.size 0 b:Nat):Int)==0&&(1:Int)==1&&(sIx items.size items.size c-sIx items.size 0 b)==items.size)=true then _ else _) _ _ s;rw[if_neg f,mx]
 first
  |exact f8 (m:=Builtin.Tuple.tupleExact _) (P8 (v4 ⟨_,rfl,v4 h⟩) a)
  |exact f8 (m:=Builtin.Tuple.tupleExact _) (P8 (f8 (v4 (v4 ⟨_,rfl,v4 h⟩))) a)
  |exact f8 (f8 (m:=Builtin.Tuple.tupleExact _) (P8 (v4 (v4 ⟨_,rfl,v4 h⟩)) a))
  |exact f8 (f8 (m:=Builtin.Tuple.tupleExact _) (P8 (v4 ⟨_,rfl,v4 h⟩) a))
end
end HT
namespace L2
open PySem PySem.Spec PyProof.Rows
abbrev TO:=St->Hp->(Option Int->Hp->Prop)->Prop
def PO(X:Cx)(e:EX)(t:TO):Prop:=
 ∀(a:D_)(s:Ef)(b:St)(H:Hp)(Q:Option Int->Hp->Prop),Inv X a b H s->t b H Q->
  wpAny (Fg X) X.A (evalPart e X.env) (λu d=>∃o c,Inv X a b c d/\IsPart u o/\Q o c) X.xe s
def rn:TO:=λ_ H Q=>Q none H
def BK(t:TE):TO:=λa H Q=>t a H λx b=>∃i,x=.int i/\Q (some i) b
section
variable {X:Cx}{e:Eh}{te:TE}{lo hi:EX}{tl th:TO}{pos p2:Pos}
def rq:PO X none rn:=by intro a s b H Q I h;rw[evalPart_none];exact v4 ⟨none,H,I,.none,h⟩
def rA(h:PE X e te):PO X (some e) (BK te):=by intro a s d H Q I c;rw[evalPart_some];refine thn (h a s d H _ I c) λu l ⟨x,j,f,b,g⟩=>?_;obtain⟨i,rfl,q⟩:=g;obtain⟨t,rfl⟩:=b;exact⟨some i,j,f,.int i t,q⟩
def SlR(X:Cx)(r:V->Option Int->Option Int->Hp->VK->Prop):Prop:=
 ∀(a:D_)(s:Ef)(c:St)(H:Hp)(x:V)(v f d:Value)(lo hi:EJ) (b:Addr) (Q:VK),Inv X a c H s->RelV x v->s.heap.IsSliceOf b f d .none->IsPart f lo->IsPart d hi->r x lo hi H Q->
  ∃T id,typeLookup (.type T) "__getitem__"=pure (some (.builtin id))/\s.TypeIs v T/\wpAny (Fg X) X.A (getItem v (.ref b)) (EP X a c Q) X.xe s
def SlR.or(h:SlR X r)(h':SlR X r'):SlR X (λx lo hi H Q=>r x lo hi H Q\/r' x lo hi H Q):=by
 intro a s c H x v g d lo hi b Q I l f j i q;rcases q with q|q
 .exact h a s c H x v g d lo hi b Q I l f j i q
 .exact h' a s c H x v g d lo hi b Q I l f j i q
def tSl(r:V->Option Int->Option Int->Hp->VK->Prop)(te:TE)(tl th:TO):TE:=λa H Q=>te a H λx d=>tl a d λl b=>th a b λu c=>r x l u c Q
def cm(A:SlR X r)(he:PE X e te)(w:PO X lo tl)(C:PO X hi th):PE X (.Subscript e (.Slice lo hi none p2) pos) (tSl r te tl th):=by intro a s d H Q I h;refine Subscript_ (thn (he a s d H _ I h) λv L ⟨x,M,p,B,F⟩=>?_);refine wpAny_Slice (thn (w a L d M _ p F) λf s2 ⟨l,j,G,z,n⟩=>thn (C a s2 d j _ G n) λg c ⟨u,i,m,o,J⟩=>?_);rw[evalPart_none];refine v4 ?_;have E:Inv X a d i { c with heap:=c.heap.push { cls:=.type "slice",data:=.fields #[f,g,.none] } }:=m.kept (t':=c.toks) λb ob q=>D2 _ q;obtain⟨T,id,y,K,D⟩:=A a { c with heap:=c.heap.push { cls:=.type "slice",data:=.fields #[f,g,.none] } } d i x v f g l u c.heap.objs.size Q E B (Heap.IsSliceOf.new ..) z o J;show wpAny (Fg X) X.A (subscriptTail e (.Slice lo hi none p2) v (.ref c.heap.objs.size)) (EP X a d Q) X.xe { c with heap:=c.heap.push { cls:=.type "slice",data:=.fields #[f,g,.none] } };exact tail_any (ops:=[.ref c.heap.objs.size,v]) K y D (by with_unfolding_all rfl)
def lN(xs:En)(lo hi:EJ):List V:=(xs.drop (HT.sIx xs.length 0 lo)).take (HT.sIx xs.length xs.length hi-HT.sIx xs.length 0 lo)
def KO(xs:En)(lo hi:EJ):(lN xs lo hi).length<=xs.length:=by unfold lN;rw[a0L,S4];omega
def DG(K:Ej):V->Option Int->Option Int->Hp->VK->Prop:=λx lo hi H Q=>∃a b,x=.ref a/\SqT K H a b/\
 ¬(HT.sIx b.length 0 lo=0/\HT.sIx b.length b.length hi=b.length)/\∀p,H p=none->Q (.ref p) (upd H p (.tup (lN b lo hi)))
def uX:SlR X (DG X.K):=by
 intro g s y H x v z A lo hi w Q I u n m l h;obtain⟨a,d,rfl,p,j,q⟩:=h;cases u;obtain⟨f,r,i,hz⟩:=I.tuple p;have c:f.toArray.size=d.length:=by rw[F0];exact r.length.symm
 refine⟨"tuple",_,PyProof.Rows.slot_tuple_getitem.lookup,i.typeIs,?_⟩;refine HT.Jd i n m l (by rw[c];exact j) ?_ (by rw[c];exact hz);rw[c];refine⟨.ref s.heap.objs.size,_,I.laid (t':=s.toks) (o:=.tup (lN d lo hi)) (λb ob q=>D2 _ q) (D3 _) ?_,rfl,q _ (I.hok.fresh (D3 _))⟩;exact⟨F2 (KO d lo hi) hz,_,(r.drop (HT.sIx d.length 0 lo)).take (HT.sIx d.length d.length hi-HT.sIx d.length 0 lo),IsTup.new _ _⟩
end
def ixN(n:Nat)(i:Int):Option Nat:=if 0<=i then(if i<n then some i.toNat else none)else if -(n:Int)<=i then some (i+n).toNat else none
def atI{a:Type}(xs:List a)(i:Int):Option a:=(ixN xs.length i).bind λj=>xs[j]?
def fG(h:ixN n i=some j):seqIndex? i n=some j/\j<n/\-(n:Int)<=i/\i<n:=by
 unfold ixN at h;by_cases b:0<=i
 .rw[if_pos b]at h;by_cases a:i<n
  .rw[if_pos a]at h;have e:i.toNat=j:=G4 h;exact⟨by rw[a22 b a,e],by omega,by omega,a⟩
  .rw[if_neg a]at h;cases h
 .rw[if_neg b]at h;by_cases a:-(n:Int)<=i
  .rw[if_pos a]at h;have e:(i+n).toNat=j:=G4 h;exact⟨by rw[a2S (by omega) a,e],by omega,a,by omega⟩
  .rw[if_neg a]at h;cases h
def aY{a:Type}{xs:List a}{v:a}(h:atI xs i=some v):∃j,seqIndex? i xs.length=some j/\xs[j]?=some v/\j<xs.length/\-(xs.length:Int)<=i/\i<xs.length:=by
 unfold atI at h;cases e:ixN xs.length i with
 |none=>rw[e]at h;cases h
 |some j=>rw[e]at h;obtain⟨b,c,d,f⟩:=fG e;exact⟨j,b,h,c,d,f⟩
def Y_(b:Eh):Prop:=∀o i,subscripted b false o i=operate [o,i] (getItem o i)
def IxR(X:Cx)(r:R2):Prop:=
 ∀(c a:Eh)(b:D_)(s:Ef)(d:St)(H:Hp)(x y:V)(v u:Value) (Q:VK),Inv X b d H s->RelV x v->RelV y u->r x y H Q->
  subscripted a false v u=operate [v,u] (getItem v u)->wpAny (Fg X) X.A (subscriptTail c a v u) (EP X b d Q) X.xe s
def MtR(X:Cx)(id:String)(r:V->List V->Hp->VK->Prop):Prop:=
 ∀(a:D_)(s:Ef)(b:St)(H:Hp)(x:V)(d:En)(v:Value) (c:El) (Q:VK),Inv X a b H s->RelV x v->Vals d c->r x d H Q->
  wpAny (Fg X) X.A (call (.builtin id) (v::c)) (EP X a b Q) X.xe s
section
variable {X:Cx}{a b:Eh}{ta tb:TE}{pos:Pos}
def IxR.or(h:IxR X r)(h':IxR X r'):IxR X (λx y H Q=>r x y H Q\/r' x y H Q):=by
 intro c d e s f H x y v u Q I j g q i;rcases q with q|q
 .exact h c d e s f H x y v u Q I j g q i
 .exact h' c d e s f H x y v u Q I j g q i
def my(g:IxR X r)(l:PE X a ta)(hb:PE X b tb)(i:Y_ b):PE X (.Subscript a b pos) (tOp r ta tb):=by intro c s e H Q I h;exact Subscript_ (BD l hb I h λv u s2 x y d j m f q=>g a b c s2 e d x y v u Q j m f q (i _ _))
def CY(K:Ej):R2:=λx y H Q=>∃p c i v,x=.ref p/\y=.int i/\SqL K H p c/\atI c i=some v/\Q v H
def CZ(K:Ej):R2:=λx y H Q=>∃p c i v,x=.ref p/\y=.int i/\SqT K H p c/\atI c i=some v/\Q v H
def C0:R2:=λx y H Q=>∃z i c,x=.str z/\y=.int i/\z.length<=sizeLine/\atI z.cps.toList i=some c/\Q (.str ⟨#[c]⟩) H
def rB:IxR X (CY X.K):=by
 intro m l c s A H x y v u Q I O F h C;obtain⟨p,P,i,z,rfl,rfl,M,G,q⟩:=h;cases O;obtain⟨t,rfl⟩:=F;obtain⟨f,r,g,hz⟩:=I.list M;obtain⟨j,e,J,S,E,L⟩:=aY G;obtain⟨w,B,n⟩:=r.get J;have K:=r.length;have R:=Up;have d:EP X c A Q w s:=⟨z,H,I,n,q⟩;by_cases D:0<=i
 .have o:i.toNat=j:=by rw[a22 D L]at e;exact G4 e
  exact item_listR g.isList D (by omega) (by rw[o];simpa using B) d C
 .have o:(i+(f.toArray.size:Int)).toNat=j:=by rw[a2S (by omega) E]at e;rw[F0,<- K];exact G4 e
  exact a18 (x:=w) g.isList.typeIs slot_list_getitem.lookup
   (wpAny_getItem_list_neg (Q:=λr N=>r=w/\EP X c A Q r N) g.isList (by omega) (by rw[F0]<;>omega) (by omega) (by rw[o];simpa using B) ⟨rfl,d⟩) C
def uY:IxR X (CZ X.K):=by
 intro f e c s l H x y v u Q I K o h J;obtain⟨p,N,i,z,rfl,rfl,D,A,q⟩:=h;cases K;obtain⟨t,rfl⟩:=o;obtain⟨n,r,m,hz⟩:=I.tuple D;obtain⟨j,G,B,P,L,M⟩:=aY A;obtain⟨w,F,g⟩:=r.get B;have C:=r.length;have O:=Up;have d:EP X c l Q w s:=⟨z,H,I,g,q⟩;exact a18 (x:=w) m.typeIs slot_tuple_getitem.lookup
  (getItem_tuple (j:=j) (Q:=λr E=>r=w/\EP X c l Q r E) m (by omega) (by omega) (by rw[F0,<- C];exact G) (by simpa using F) ⟨rfl,d⟩) J
def wX:IxR X C0:=by
 intro e d f s E H x y v u Q I C n h B;obtain⟨z,i,c,rfl,rfl,hz,o,q⟩:=h;obtain⟨t,rfl⟩:=C;obtain⟨D,rfl⟩:=n;obtain⟨j,g,p,G,m,w⟩:=aY o;have r:z.cps.toList.length=z.length:=by simp[Str.length]
 rw[r]at g m w;have F:=Up;exact tail_any (typeIs_str s z t) slot_str_getitem.lookup (getItem_str (c:=c) (by
  have A:decide (i < -(2 ^ 63:Int))=false:=D7 (by omega);have l:decide (i ≥ 2 ^ 63)=false:=D7 (by omega);rw[A,l,Bool.or_false]) (by rw[g];simpa using p) ⟨.str ⟨#[c]⟩,H,I.tok _,⟨_,rfl⟩,q⟩) B
def rIx(K:Ej):R2:=λx y H Q=>CY K x y H Q\/CZ K x y H Q\/C0 x y H Q
def fH:IxR X (rIx X.K):=rB.or (uY.or wX)
def dU(its:El)(n j:Nat)(u:Value):Obj.mapSeq (·.setIfInBounds j u) { cls:=.type "list",data:=.seq its.toArray n }={ cls:=.type "list",data:=.seq (its.set j u).toArray n }:=by simp[Obj.mapSeq]
def Inv.lst(I:Inv X pins σ H s)(h:H p=some (.lst xs)):
  ∃(c:El)(n:Nat),Vals xs c/\s.heap.get? p=some { cls:=.type "list",data:=.seq c.toArray n }/\xs.length<=sizeLine:=by
 obtain⟨z,c,n,r,e⟩:=I.hok p _ h;exact⟨c,n,r,e,z⟩
def Inv.uZ{c:D_}{g:St}{H:Hp}{s:Ef}{p:Addr}{xs ys:En}{its its':El}{n d:Nat}{f:Obj->Obj}(I:Inv X c g H s)(h:H p=some (.lst xs))
  (i:s.heap.get? p=some { cls:=.type "list",data:=.seq its.toArray n }) (hf:f { cls:=.type "list",data:=.seq its.toArray n }={ cls:=.type "list",data:=.seq its'.toArray d }) (r:Vals ys its') (hz:ys.length<=sizeLine) (t:Nat) (j:X.m<=t:=by ac_rfl):
  Inv X c g (upd H p (.lst ys)) { s with heap:=s.heap.update p f,toks:=t }:=by
 have e:(s.heap.update p f).get? p=some { cls:=.type "list",data:=.seq its'.toArray d }:=by rw[O5 f i (by rw[hf]<;>rfl),hf]
 refine I.write (x:=p) (e:=p) (by rw[h];trivial) (.inl rfl) (λb u hb q=>(L9 _ _ (Ne.symm hb)).trans q) ⟨_,e⟩ ?_;exact⟨hz,its',d,r,e⟩
def BL:V->V->V->Hp->(Hp->Prop)->Prop:=λo i v H Q=>∃p c k j,o=.ref p/\i=.int k/\H p=some (.lst c)/\ixN c.length k=some j/\Q (upd H p (.lst (c.set j v)))
def set_list:CS X BL:=by
 intro d s z H o i v J F u Q I B E D h;obtain⟨p,C,k,j,rfl,rfl,hp,A,q⟩:=h;cases B;obtain⟨t,rfl⟩:=E;obtain⟨c,n,r,f,hz⟩:=I.lst hp;obtain⟨e,G,y,m⟩:=fG A;have g:=r.length;have K:=Up;have w:Inv X d z (upd H p (.lst (C.set j v))) { s with heap:=s.heap.update p (Obj.mapSeq (·.setIfInBounds j u)) }:=
  I.uZ hp f (dU c n j u) (r.set D j) (by rw[M3];exact hz) s.toks
 by_cases x:0<=k
 .have l:k.toNat=j:=by rw[a22 x m]at e;exact G4 e
  exact PySem.W.ki_setAt f x (by omega) (by rw[F0,<- g];exact m) (by rw[l];exact⟨_,w,q⟩)
 .have l:(k+(c.toArray.size:Int)).toNat=j:=by rw[a2S (by omega) y]at e;rw[F0,<- g];exact G4 e
  exact PySem.W.ki_setBack f (by omega) (by rw[F0,<- g];exact y) (by omega) (by rw[l];exact⟨_,w,q⟩)
def Uw(d c:EJ)(n:Nat):(sliceBounds d c none n).1=((HT.sIx n 0 d:Nat):Int)/\(sliceBounds d c none n).2.1=((HT.sIx n n c:Nat):Int)/\(sliceBounds d c none n).2.2=1:=by
 refine⟨?_,?_,rfl⟩
 .cases d with
  |none=>simp[sliceBounds,HT.sIx]
  |some i=>
   simp only[sliceBounds,HT.sIx,Option.getD_none,show(1:Int)>0 by decide,if_true];by_cases h:i<0
   .simp only[h,if_true]<;>omega
   .simp only[h,if_false]<;>omega
 .cases c with
  |none=>simp[sliceBounds,HT.sIx]
  |some i=>
   simp only[sliceBounds,HT.sIx,Option.getD_none,show(1:Int)>0 by decide,if_true];by_cases h:i<0
   .simp only[h,if_true]<;>omega
   .simp only[h,if_false]<;>omega
def Xm(its:El)(c d:EJ):slicePick its.toArray c d none=((its.drop (HT.sIx its.length 0 c)).take (HT.sIx its.length its.length d-HT.sIx its.length 0 c)).toArray:=by obtain⟨e,f,g⟩:=Uw c d its.toArray.size;unfold slicePick;rw[e,f,g];simp only[sliceRange_one,pick_run,List.size_toArray]<;>rfl
def DH(K:Ej):V->Option Int->Option Int->Hp->VK->Prop:=λx d e H Q=>∃a c,x=.ref a/\SqL K H a c/\∀p,H p=none->Q (.ref p) (upd H p (.lst (lN c d e)))
def rC:SlR X (DH X.K):=by intro g s y H x v z A e f w Q I u n m l h;obtain⟨a,c,rfl,p,q⟩:=h;cases u;obtain⟨j,r,i,hz⟩:=I.list p;have d:=r.length;refine⟨"list",_,slot_list_getitem.lookup,i.isList.typeIs,?_⟩;refine wpAny_getItem_list_slice i.isList n m l .none (by simp) ?_ (by rw[List.size_toArray]<;>omega);rw[Xm,<- d];refine⟨.ref s.heap.objs.size,_,I.laid (t':=s.toks) (o:=.lst (lN c e f)) (λb ob q=>D2 _ q) (D3 _) ?_,rfl,q _ (I.hok.fresh (D3 _))⟩;exact⟨F2 (KO c e f) hz,_,0,(r.drop (HT.sIx c.length 0 e)).take (HT.sIx c.length c.length f-HT.sIx c.length 0 e),F8 _ rfl⟩
def J_:V->Bool
 |.non=>true
 |.bl _=>true
 |.int _=>true
 |.str _=>true
 |_=>false
def eqV:V->V->Bool
 |.non,.non=>true
 |.bl a,.bl b=>a==b
 |.bl a,.int b=>(if a then 1 else 0)==b
 |.int a,.bl b=>a==(if b then 1 else 0)
 |.int a,.int b=>a==b
 |.str a,.str b=>a==b
 |_,_=>false
def oK(e:RelV y u)(c:RelV x v)(g:J_ y=true)(f:J_ x=true):SeqAt.EqAt A s u v (eqV y x):=by
 cases y with
 |non=>
  cases e;cases x with
  |non=>cases c;exact a16 _
  |bl b=>cases c;exact SeqAt.EqAt.none_bool b
  |int b=>obtain⟨t,rfl⟩:=c;exact SeqAt.EqAt.none_int b t
  |str b=>obtain⟨t,rfl⟩:=c;exact SeqAt.EqAt.none_str b t
  |_=>exact absurd (show false=true from f) F6
 |bl a=>
  cases e;cases x with
  |non=>cases c;exact SeqAt.EqAt.bool_none a
  |bl b=>cases c;exact SeqAt.EqAt.bool_bool a b
  |int b=>obtain⟨t,rfl⟩:=c;exact SeqAt.EqAt.bool_int a b t
  |str b=>obtain⟨t,rfl⟩:=c;exact SeqAt.EqAt.bool_str a b t
  |_=>exact absurd (show false=true from f) F6
 |int a=>
  obtain⟨d,rfl⟩:=e;cases x with
  |non=>cases c;exact SeqAt.EqAt.int_none a d
  |bl b=>cases c;exact SeqAt.EqAt.int_bool a d b
  |int b=>obtain⟨t,rfl⟩:=c;exact SeqAt.EqAt.int_int a d b t
  |str b=>obtain⟨t,rfl⟩:=c;exact a2L a d b t
  |_=>exact absurd (show false=true from f) F6
 |str a=>
  obtain⟨d,rfl⟩:=e;cases x with
  |non=>cases c;exact SeqAt.EqAt.str_none a d
  |bl b=>cases c;exact SeqAt.EqAt.str_bool a d b
  |int b=>obtain⟨t,rfl⟩:=c;exact a2M a d b t
  |str b=>obtain⟨t,rfl⟩:=c;exact SeqAt.EqAt.str_str a d b t
  |_=>exact absurd (show false=true from f) F6
 |_=>exact absurd (show false=true from g) F6
def eqU(x:V)(u:Value):Bool:=match u with
 |.none=>eqV .non x
 |.bool b=>eqV (.bl b) x
 |.int i _=>eqV (.int i) x
 |.str z _=>eqV (.str z) x
 |_=>false
def oM(r:RelV y u)(f:J_ y=true):eqU x u=eqV y x:=by
 cases y with
 |non=>cases r;rfl
 |bl b=>cases r;rfl
 |int i=>obtain⟨t,rfl⟩:=r;rfl
 |str z=>obtain⟨t,rfl⟩:=r;rfl
 |_=>exact absurd (show false=true from f) F6
theorem KP{x:V}:∀{c:En}{d:El},Vals c d->c.all J_=true->d.any (eqU x)=c.any λy=>eqV y x
 |_,_,.nil,_=>rfl
 |y::c,u::d,.cons r t,f=>by rw[a0a,N8]at f;rw[P7,P7,oM r f.1,KP t f.2]
theorem Qx{A:Ey}{s:Ef}{x:V}{v:Value}(h:RelV x v)(g:J_ x=true):∀{e:En}{d:El},Vals e d->e.all J_=true->∀u∈d,SeqAt.EqAt A s u v (eqU x u)
 |_,_,.nil,_=>λu c=>by cases c
 |y::e,u::d,.cons r t,f=>λi c=>by
  rw[a0a,N8]at f;rcases G0.mp c with rfl|c
  .rw[oM r f.1];exact oK r h f.1 g
  .exact Qx h g t f.2 i c
def inV(x:V)(xs:En):Bool:=xs.any λy=>eqV y x
def rIn(K:Ej)(d:Bool):R2:=λx y H Q=>∃p c,y=.ref p/\(SqL K H p c\/SqT K H p c)/\J_ x=true/\c.all J_=true/\Q (.bl (if d then !inV x c else inV x c)) H
def fI:OpR X (compareOp .In) (rIn X.K false):=by
 intro i s m H x y v u Q I j l h;obtain⟨p,n,rfl,d,g,fs,q⟩:=h;cases l;rcases d with d|d
 .obtain⟨c,r,f,hz⟩:=I.list d;refine SeqAt.in_listAt (eqU x) f.isList (λw e=>Qx j g r fs w (by simpa using e)) ⟨.bl _,H,I,rfl,?_⟩;rw[show c.toArray.any (eqU x)=c.any (eqU x) by simp,KP r fs];exact q
 .obtain⟨c,r,f,hz⟩:=I.tuple d;refine SeqAt.in_tupleAt (eqU x) f (λw e=>Qx j g r fs w (by simpa using e)) ⟨.bl _,H,I,rfl,?_⟩;rw[show c.toArray.any (eqU x)=c.any (eqU x) by simp,KP r fs];exact q
def Ux:OpR X (compareOp .NotIn) (rIn X.K true):=by
 intro i s m H x y v u Q I j l h;obtain⟨p,n,rfl,d,g,fs,q⟩:=h;cases l;rcases d with d|d
 .obtain⟨c,r,f,hz⟩:=I.list d;refine SeqAt.notIn_listAt (eqU x) f.isList (λw e=>Qx j g r fs w (by simpa using e)) ⟨.bl _,H,I,rfl,?_⟩;rw[show c.toArray.any (eqU x)=c.any (eqU x) by simp,KP r fs];exact q
 .obtain⟨c,r,f,hz⟩:=I.tuple d;refine SeqAt.notIn_tupleAt (eqU x) f (λw e=>Qx j g r fs w (by simpa using e)) ⟨.bl _,H,I,rfl,?_⟩;rw[show c.toArray.any (eqU x)=c.any (eqU x) by simp,KP r fs];exact q
def Uy:OpR X (compareOp .NotIn) (λx y H Q=>∃i j,x=.str i/\y=.str j/\Q (.bl (!(!(Builtin.Str.occurrences j i 0 j.length 1).isEmpty))) H):=by intro c s f H x y v u Q I e d h;obtain⟨i,j,rfl,rfl,q⟩:=h;obtain⟨t,rfl⟩:=e;obtain⟨g,rfl⟩:=d;exact notIn_str ⟨.bl _,H,I,rfl,q⟩
def Zz.or(h:Zz X f r)(h':Zz X f r'):Zz X f (λd H Q=>r d H Q\/r' d H Q):=by
 intro c s g H d i Q I e q;rcases q with q|q
 .exact h c s g H d i Q I e q
 .exact h' c s g H d i Q I e q
def Uz:Zz X (.type "list") (λD H Q=>∃p g,D=[.ref p]/\(SqL X.K H p g\/SqT X.K H p g)/\∀l,H l=none->Q (.ref l) (upd H l (.lst g))):=by
 intro w s E H D G Q I r h;obtain⟨p,g,rfl,v,q⟩:=h;obtain⟨u,rfl,F⟩:=vals1 r;cases F;have j:∀(c:El),Vals g c->g.length<=sizeLine->∀(d:Heap)(f:Nat),(∀b C,s.heap.get? b=some C->d.get? b=some C)->
   d.get? s.heap.objs.size=some { cls:=.type "list",dict:=none,data:=.seq c.toArray f,slots:=#[] }->EP X w E Q (.ref s.heap.objs.size) { s with heap:=d }:=λc i hz d f x e=>
  ⟨.ref s.heap.objs.size,_,I.laid (t':=s.toks) x (D3 _) (show y3 X.prog X.w _ d _ (.lst g)from⟨hz,c,f,i,e⟩),rfl,q _ (I.hok.fresh (D3 _))⟩
 rcases v with v|v
 .obtain⟨c,i,A,hz⟩:=I.list v;have m:=i.length;obtain⟨o,y,B,n,z⟩:=A.isList;exact call_list_seq p (.inl rfl) y B z (λd f x e=>j c i hz d f x e) (by simp only[List.size_toArray]<;>omega)
 .obtain⟨c,i,A,hz⟩:=I.tuple v;have m:=i.length;obtain⟨o,y,B,n,z⟩:=A;exact call_list_seq p (.inr rfl) y B z (λd f x e=>j c i hz d f x e) (by simp only[List.size_toArray]<;>omega)
def tyV(K:Ej)(T:String)(x:V)(H:Hp):Prop:=match x with
 |.str _=>T="str"
 |.int _=>T="int"
 |.ref p=>(T="list" /\ ∃d,SqL K H p d)\/(T="tuple" /\ ∃o,K.lookup p=some o/\o.cls=.type "tuple"/\o.dict=none)\/
   (T="dict"/\((∃c,H p=some (.dK c))\/∃c,H p=some (.dT c)))\/(T="set" /\ ∃S n,H p=some (.set S n))
 |_=>False
def oN(I:Inv X pins σ H s)(r:RelV x v)(g:tyV X.K T x H):
  s.TypeIs v T/\∀a,v=.ref a->∃ob,s.heap.get? a=some ob/\ob.dict=none:=by
 cases x with
 |str z=>obtain⟨t,rfl⟩:=r;cases(show T="str" from g);exact⟨typeIs_str s z t,λ_ e=>nomatch e⟩
 |int i=>obtain⟨t,rfl⟩:=r;cases(show T="int" from g);exact⟨typeIs_int s i t,λ_ e=>nomatch e⟩
 |ref p=>
  cases r;rcases g with⟨rfl,y,u⟩|⟨rfl,o,d,w,j⟩|⟨rfl,d⟩|⟨rfl,S,n,d⟩
  .obtain⟨q,_,m,_⟩:=I.list u;refine⟨m.isList.typeIs,λa e=>?_⟩;cases e;obtain⟨o,n,e,c,j,_⟩:=m;exact⟨o,e,j⟩
  .refine⟨⟨o,I.kIn p o d,w⟩,λa e=>?_⟩;cases e;exact⟨o,I.kIn _ o d,j⟩
  .have z:∃o,s.heap.get? p=some o/\o.ExactDict:=by
    rcases d with⟨l,d⟩|⟨l,d⟩
    .obtain⟨_,_,_,_,o,_,_,e,f,_⟩:=I.hok p _ d;exact⟨o,e,f⟩
    .obtain⟨_,_,_,_,o,_,_,e,f,_⟩:=I.hok p _ d;exact⟨o,e,f⟩
   obtain⟨o,e,f⟩:=z;refine⟨⟨o,e,f.1⟩,λa h=>?_⟩;cases h;exact⟨o,e,f.2.1⟩
  .obtain⟨o,_,_,_,e,f,_⟩:=I.hok p _ d;refine⟨⟨o,e,f.1⟩,λa h=>?_⟩;cases h;exact⟨o,e,f.2.1⟩
 |_=>exact False.elim g
def tBM(K:Ej)(T:String)(r:V->List V->Hp->VK->Prop)(g:TE)(t:TA):TE:=λc H Q=>g c H λx d=>tyV K T x d/\t c d λf e=>r x f e Q
variable {o e:Eh}{es:Eg}{to:TE}{t:TA}{name:Str}{qH jt:Pos}{T id:String}{r:V->List V->Hp->VK->Prop}
def mz(w:PlainAttrs T)(f:Slot T name id)(g:typeOf (.builtin id)=pure (.type "method_descriptor"))(J:MtR X id r)(y:PE X o to)(L:PA X (e::es) t)
  (M:attributeBase o name X.env (eval o X.env)=eval o X.env:=by rfl)
  (B:((backTo jt (starEach (e::es) X.env)).all (λx=>!x.1)&&(backToKw jt (keywordEach [] X.env)).all (λx=>x.1.isSome)
   && decide ((e::es).length+([]:List Keyword).length+(if([]:List Keyword).isEmpty then 0 else 1)<30))=true:=by rfl)
  (D:(qH.endLine==jt.line)=true:=by rfl) (F:starEach (e::es) X.env=(false,eval e X.env)::starEach es X.env:=by rfl) (d:(backTo jt (starEach es X.env)).any (·.1)=false:=by rfl):
  PE X (.Call (.Attribute o name qH) (e::es) [] jt) (tBM X.K T r to t):=by
 intro c s i H Q I h;refine a19 M B D rfl (thn (y c s i H _ I h) λv N ⟨x,O,j,l,A,E⟩=>?_);obtain⟨K,z⟩:=oN j l A;refine⟨T,id,w,f,g,K,z,?_⟩;have m:=L jt c N i O _ j E;rw[F]at m ⊢;refine T4 (by show(false||(backTo jt (starEach es X.env)).any (·.1))=false;rw[d]<;>rfl) (a0i ?_);exact thn m λC s2 ⟨n,p,G,q,u⟩=>J c s2 i p x n v C Q G l q u
end
def MtM(X:Cx)(id:String)(r:V->List V->Hp->VK->Prop):Prop:=
 ∀(a:D_)(s:Ef)(b:St)(H:Hp)(x:V)(d:En)(v:Value) (c:El) (Q:VK),Inv X a b H s->RelV x v->Vals d c->r x d H Q->
  wpAny (Fg X) X.A (call (.builtin id) (v::c)) (EP X a b Q) X.xe s
def Vals.one:∀{x:V}{a:El},Vals [x] a->∃u,a=[u]/\RelV x u
 |_,_,.cons r .nil=>⟨_,rfl,r⟩
def Vals.two:∀{x y:V}{a:El},Vals [x,y] a->∃u v,a=[u,v]/\RelV x u/\RelV y v
 |_,_,_,.cons r (.cons q .nil)=>⟨_,_,rfl,r,q⟩
def Vals.eraseIdx:∀{a:En}{b:El}(i:Nat),Vals a b->Vals (a.eraseIdx i) (b.eraseIdx i)
 |_,_,_,.nil=>.nil
 |_,_,0,.cons _ t=>t
 |_,_,i+1,.cons r t=>.cons r (Vals.eraseIdx i t)
def Vals.rep{xs:En}{us:El}(h:Vals xs us):∀k:Nat,Vals (List.replicate k xs).flatten (List.replicate k us).flatten
 |0=>.nil
 |k+1=>by rw[R7,R7,a0e,a0e];exact Vals.append h (Vals.rep h k)
theorem UA{a:Type}:∀(l:List a)(i:Nat),(l.eraseIdx i).length<=l.length
 |[],_=>D3 _
 |_::_,0=>S7 _
 |_::r,i+1=>a0M (UA r i)
theorem foldl_rep(its:El):∀(k:Nat)(a:El),
  List.foldl (λb c=>b++c) a.toArray (List.replicate k its.toArray)=(a++(List.replicate k its).flatten).toArray
 |0,a=>by simp
 |k+1,a=>by
  have e:a.toArray++its.toArray=(a++its).toArray:=by simp
  have d:(a++its)++(List.replicate k its).flatten=a++(List.replicate (k+1) its).flatten:=by rw[R7,a0e,a0f]
  rw[<- d,<- foldl_rep its k (a++its),<- e,R7,a0w]
def Inv.BM{its its':El}{n:Nat}{f:Array Value->Array Value}{t':Nat}(I:Inv X pins σ H s)(c:H l=some (.lst xs))
  (e:s.heap.get? l=some { cls:=.type "list",data:=.seq its.toArray n }) (hf:f its.toArray=its'.toArray) (a:Vals ys its') (hz:ys.length<=sizeLine) (g:X.m<=t':=by ac_rfl):
  Inv X pins σ (upd H l (.lst ys)) { s with heap:=s.heap.update l (Obj.mapSeq f),toks:=t' }:=by
 have q:=PySem.IsL.update e f;rw[hf]at q;refine I.write (x:=l) (e:=l) (by rw[c];exact trivial) (.inl rfl) (λd u hb b=>(L9 s.heap (Obj.mapSeq f) (Ne.symm hb)).trans b) ⟨_,q⟩ ?_;exact⟨hz,its',_,a,q⟩
def Inv.BO(I:Inv X pins σ H s)(a:Vals ys its)(hz:ys.length<=sizeLine)(b:X.m<=t':=by ac_rfl):
  Inv X pins σ (upd H s.heap.objs.size (.lst ys)) { s with heap:=s.heap.push { cls:=.type "list",data:=.seq its.toArray },toks:=t' }:=
 I.laid (λ_ _ q=>D2 _ q) (D3 _) ⟨hz,its,0,a,F8 _ rfl⟩
def Inv.fresh(I:Inv X pins σ H s):H s.heap.objs.size=none:=I.hok.fresh (D3 _)
def Inv.uo(I:Inv X pins σ H s)(b:H l=some (.lst xs)):xs.length<=sizeLine/\∃(a:El)(n:Nat),Vals xs a/\xs.length=a.length/\s.heap.get? l=some { cls:=.type "list",data:=.seq a.toArray n }:=by obtain⟨z,a,n,r,e⟩:=I.hok l _ b;exact⟨z,a,n,r,r.length,e⟩
def mB(h:n<=sizeLine):Builtin.List.listTooLong n=false:=by unfold Builtin.List.listTooLong;exact D7 (by omega)
section
variable {X:Cx}
def rD:V->List V->Hp->VK->Prop:=λx b H Q=>∃l a y,x=.ref l/\b=[y]/\H l=some (.lst a)/\a.length<sizeLine/\Q .non (upd H l (.lst (a++[y])))
def KQ:MtM X "list.append" rD:=by intro c s j H x i v o Q I g f h;obtain⟨l,p,y,rfl,rfl,b,hz,q⟩:=h;cases g;obtain⟨u,rfl,d⟩:=f.one;obtain⟨z,a,n,r,m,e⟩:=I.uo b;refine a1F F.slot_list_append ⟨_,e,rfl⟩ F.entry_list_append (F.args_list_append_2 _ _) (PySem.list_append l a.toArray n u (by rw[F0];omega)) ⟨e,?_⟩;refine⟨.non,_,I.BM (its':=a++[u]) b e (by simp) (r.append (.cons d .nil)) ?_,rfl,q⟩;rw[E8,List.length_singleton];omega
def u7:V->List V->Hp->VK->Prop:=λx b H Q=>∃l a i k y,x=.ref l/\b=[.int i]/\H l=some (.lst a)/\-(2 ^ 63)<=i/\i<2 ^ 63/\seqIndex? i a.length=some k/\a[k]?=some y/\Q y (upd H l (.lst (a.eraseIdx k)))
def mD:MtM X "list.pop" u7:=by
 intro d s G H x E v J Q I D A h;obtain⟨l,p,i,k,y,rfl,rfl,c,B,g,m,C,q⟩:=h;cases D;obtain⟨u,rfl,o⟩:=A.one;obtain⟨t,rfl⟩:=o;obtain⟨z,a,n,r,j,e⟩:=I.uo c;obtain⟨w,f,b⟩:=r.get C;refine a1F F.slot_list_pop ⟨_,e,rfl⟩ F.entry_list_pop (F.args_list_pop_2 _ _)
  (MeetsSeq.list_pop_at l a.toArray n i t k w (fitsIndex_both B g) (by rw[F0,<- j];exact m) (by rw[<- a2g];exact f) (by rw[F0];omega)) ⟨e,?_⟩
 refine⟨y,_,I.BM (its':=a.eraseIdx k) c e ?_ (r.eraseIdx k) ?_,b,q⟩
 .show a.toArray.eraseIdxIfInBounds k=(a.eraseIdx k).toArray;rw[List.eraseIdxIfInBounds_toArray]
 .have:=UA p k;omega
def C1:R2:=λx y H Q=>∃l b a c,x=.ref l/\y=.ref b/\H l=some (.lst a)/\H b=some (.lst c)/\a.length+c.length<=sizeLine/\∀p,H p=none->Q (.ref p) (upd H p (.lst (a++c)))
def u9:OpR X (binaryOp .Add) C1:=by
 intro d s w H x y v u Q I p j h;obtain⟨l,b,C,B,rfl,rfl,m,hB,hz,q⟩:=h;cases p;cases j;obtain⟨z,c,n,r,A,e⟩:=I.uo m;obtain⟨E,a,D,f,o,g⟩:=I.uo hB;refine PySem.P.add_list e g ?_ (by rw[F0,F0];omega);have i:c.toArray++a.toArray=(c++a).toArray:=by simp
 rw[i];exact⟨.ref _,_,I.BO (t':=s.toks) (r.append f) (by rw[E8];omega),rfl,q _ I.fresh⟩
def C2:R2:=λx y H Q=>∃l k a,x=.ref l/\y=.int k/\H l=some (.lst a)/\-(2 ^ 63)<=k/\k<2 ^ 63/\a.length*k.toNat<=sizeLine/\
 ∀p,H p=none->Q (.ref p) (upd H p (.lst (List.replicate k.toNat a).flatten))
def len_rep{b:Type}(xs:List b)(k:Nat):(List.replicate k xs).flatten.length=k*xs.length:=by
 induction k with
 |zero=>simp
 |succ k a=>rw[R7,a0e,E8,a,Nat.succ_mul,Nat.add_comm]
def u_:OpR X (binaryOp .Mult) C2:=by
 intro p s K H x y v u Q I J w h;obtain⟨l,k,L,rfl,rfl,D,G,B,hz,q⟩:=h;cases J;obtain⟨t,rfl⟩:=w;obtain⟨z,b,n,r,C,e⟩:=I.uo D;have g:b.toArray.size*k.toNat<=sizeLine:=by rw[F0,<- C];exact hz
 have f:¬b.toArray.size*k.toNat>(2 ^ 63-1) / 8:=by
  have:(sizeLine:Nat)<=(2 ^ 63-1) / 8:=by decide
  omega
 have d:¬(!Builtin.List.listFitsIndex k)=true:=by rw[fitsIndex_both G B];exact F6
 have c:¬Builtin.List.listTooLong (b.toArray.size*k.toNat)=true:=by rw[mB g];exact F6
 have i:List.foldl (λj o=>j++o) #[] (List.replicate (if b.toArray.isEmpty=true then 0 else k.toNat) b.toArray)=(List.replicate k.toNat b).flatten.toArray:=by
  have A:∀m:Nat,List.foldl (λj o=>j++o) #[] (List.replicate m b.toArray)=(List.replicate m b).flatten.toArray:=λm=>by have:=foldl_rep b m [];rw[a0x]at this;exact this
  rw[A];cases b with
  |nil=>simp
  |cons a M=>rw[if_neg (by simp)]
 refine wpAny_binaryOp_repeat_ref (T:="list") (U:="int") (by decide) ⟨_,e,rfl⟩ (λE=>typeIs_int E k t) noFill_list_mul F.fills_int_mul F.slot_int_rmul repeat_list F.slot_int_index.lookup
  (a1F F.slot_int_rmul (typeIs_int s k t) F.entry_int_rmul (F.args_int_rmul_2 _ _) (int___rmul___int_list k t l b.toArray n)
   ⟨e,rfl,⟨_,e,rfl⟩,a1F F.slot_list_mul ⟨_,e,rfl⟩ F.entry_list_mul (F.args_list_mul_2 _ _) (AutoListH.list___mul___list_int_3 l b.toArray n k t d f c) ⟨e,?_⟩⟩)
 rw[i];exact⟨.ref _,_,I.BO (t':=s.toks) (r.rep k.toNat) (by rw[len_rep,Nat.mul_comm];exact hz),rfl,q _ I.fresh⟩
end
section
variable {κ:Type}[DecidableEq κ]
def Qy(kvs:List (κ×V))(k:κ):Option V:=(kvs.find? λa=>decide (a.1=k)).map (·.2)
def putK(kvs:List (κ×V))(k:κ)(v:V):List (κ×V):=
 if(kvs.any λa=>decide (a.1=k))=true then kvs.map (λa=>if a.1=k then(a.1,v)else a)else kvs++[(k,v)]
def UB(kvs:List (κ×V))(k:κ):List (κ×V):=kvs.filter λa=>decide (a.1≠k)
def Ks{p:κ×V}{r:List (κ×V)}{k:κ}(e:p.1=k):Qy (p::r) k=some p.2:=by simp[Qy,List.find?_cons,e]
def Kt{p:κ×V}{r:List (κ×V)}{k:κ}(e:¬p.1=k):Qy (p::r) k=Qy r k:=by simp[Qy,List.find?_cons,e]
theorem cn(k:κ):∀a:List (κ×V),(a.any λb=>decide (b.1=k))=(Qy a k).isSome
 |[]=>rfl
 |p::r=>by
  rw[P7];by_cases e:p.1=k
  .simp only[Ks e,decide_eq_true e,Bool.true_or,Option.isSome_some]
  .rw[Kt e,D7 e,Bool.false_or];exact cn k r
def Qa(kvs:List (κ×V))(k:κ)(v:V):(putK kvs k v).length<=kvs.length+1:=by
 unfold putK;split
 .rw[D0];omega
 .rw[E8,D4,a0y];omega
def JF.wa(r:JF o u):o.isSome=u.isSome:=by
 cases o with
 |none=>cases u with
  |none=>rfl
  |some _=>exact(show False from r).elim
 |some _=>cases u with
  |none=>exact(show False from r).elim
  |some _=>rfl
def JF.getD(r:JF o u)(rd:RelV d d'):RelV (o.getD d) (u.getD d'):=by
 cases o with
 |none=>cases u with
  |none=>exact rd
  |some _=>exact(show False from r).elim
 |some _=>cases u with
  |none=>exact(show False from r).elim
  |some _=>exact r
def KV.val{kvs:List (κ×V)}{vs:List (κ×Value)}(r:KV kvs vs)(k:κ):JF (Qy kvs k) (valueAt vs k):=by
 unfold KV at r
 induction r with
 |nil=>exact True.intro
 |@cons p q i a h t g=>
  obtain⟨d,f⟩:=h;by_cases e:p.1=k
  .have c:q.1=k:=d.symm.trans e;have b:valueAt (q::a) k=some q.2:=by simp[valueAt,List.find?_cons,c]
   rw[Ks e,b];exact f
  .have c:¬q.1=k:=λz=>e (d.trans z);have b:valueAt (q::a) k=valueAt a k:=by simp[valueAt,List.find?_cons,c]
   rw[Kt e,b];exact g
def KV.any{kvs:List (κ×V)}{vs:List (κ×Value)}(r:KV kvs vs)(k:κ):(kvs.any λa=>decide (a.1=k))=vs.any λa=>decide (a.1=k):=by
 unfold KV at r
 induction r with
 |nil=>rfl
 |cons h t b=>rw[P7,P7,b,h.1]
def KV.BP{kvs:List (κ×V)}{vs:List (κ×Value)}(r:KV kvs vs)(k:κ)(c:RelV y u):
  KV (kvs.map λa=>if a.1=k then(a.1,y)else a) (vs.map λa=>if a.1=k then(a.1,u)else a):=by
 unfold KV at r ⊢
 induction r with
 |nil=>exact .nil
 |@cons p q g i h t f=>
  rw[E6,E6];refine .cons ?_ f;obtain⟨b,d⟩:=h;by_cases e:p.1=k
  .rw[if_pos e,if_pos (b.symm.trans e)];exact⟨b,c⟩
  .rw[if_neg e,if_neg (λz=>e (b.trans z))];exact⟨b,d⟩
def KV.put{kvs:List (κ×V)}{vs:List (κ×Value)}(r:KV kvs vs)(k:κ)(a:RelV y u):KV (putK kvs k y) (stored vs k u):=by
 unfold putK stored;rw[r.any k];by_cases e:(vs.any λb=>decide (b.1=k))=true
 .rw[if_pos e,if_pos e];exact r.BP k a
 .rw[if_neg e,if_neg e];exact Paired.snoc r ⟨rfl,a⟩
def KV.drop{kvs:List (κ×V)}{vs:List (κ×Value)}(r:KV kvs vs)(k:κ):KV (UB kvs k) (without vs k):=by
 unfold KV at r ⊢;unfold UB without
 induction r with
 |nil=>exact .nil
 |@cons p q i j h t d=>
  obtain⟨c,f⟩:=h;rw[a0n,a0n];by_cases e:p.1=k
  .have a:¬decide (p.1≠k)=true:=by simp[e]
   have b:¬decide (q.1≠k)=true:=by simp[c.symm.trans e]
   rw[if_neg a,if_neg b];exact d
  .have g:¬q.1=k:=λz=>e (c.trans z);have a:decide (p.1≠k)=true:=by simp[e]
   have b:decide (q.1≠k)=true:=by simp[g]
   rw[if_pos a,if_pos b];exact .cons ⟨c,f⟩ d
def KV.length{kvs:List (κ×V)}{vs:List (κ×Value)}(r:KV kvs vs):kvs.length=vs.length:=O2 r
def mE(kvs:List (κ×V))(k:κ):(UB kvs k).length<=kvs.length:=a2h _ _
end
def Wk(r:RelV (kV k) u):(yf P w).is k u=true:=by
 cases k with
 |inl i=>obtain⟨t,e⟩:=(show ∃t,u=Value.int i t from r);subst e;exact aQ P w i t
 |inr x=>obtain⟨t,e⟩:=(show ∃t,u=Value.str x t from r);subst e;exact aR P w x t
theorem KR{P:Eo}{w:Es}:∀{a:ET}{b:El},Vals (a.map kV) b->ItemsAre (yf P w) a b
 |[],_,r=>by rw[a2T]at r;cases r;exact .nil
 |k::a,_,r=>by
  rw[E6]at r;cases r with
  |cons h t=>exact .cons (Wk h) (KR t)
abbrev KT(H:Hp):List (List Key×V)->List (List Key×Addr×Value)->Prop:=Paired λp q=>p.1=q.1/\H q.2.1=some (.tup (p.1.map kV))/\RelV p.2 q.2.2
def KT.val(r:KT H kvs xs)(k:ET):JF (Qy kvs k) ((atKey xs k).map (·.2)):=by
 induction r with
 |nil=>exact True.intro
 |@cons p q i a h t g=>
  obtain⟨d,_,f⟩:=h;by_cases e:p.1=k
  .have c:q.1=k:=d.symm.trans e;have b:atKey (q::a) k=some q.2:=by simp[atKey,List.find?_cons,c]
   rw[Ks e,b];exact f
  .have c:¬q.1=k:=λz=>e (d.trans z);have b:atKey (q::a) k=atKey a k:=by simp[atKey,List.find?_cons,c]
   rw[Kt e,b];exact g
def KT.BP(r:KT H kvs xs)(k:ET)(d:RelV y u):
  KT H (kvs.map λb=>if b.1=k then(b.1,y)else b) (xs.map (putAt k u)):=by
 induction r with
 |nil=>exact .nil
 |@cons p q i j h t f=>
  rw[E6,E6];refine .cons ?_ f;obtain⟨a,c,g⟩:=h;unfold putAt;by_cases e:p.1=k
  .rw[if_pos e,if_pos (a.symm.trans e)];exact⟨a,c,d⟩
  .rw[if_neg e,if_neg (λz=>e (a.trans z))];exact⟨a,c,g⟩
def KT.put(r:KT H kvs xs)(k:ET)(hb:H b=some (.tup (k.map kV)))(a:RelV y u):
  KT H (putK kvs k y) (storedH xs k b u):=by
 have e:(kvs.any λc=>decide (c.1=k))=(atKey xs k).isSome:=by rw[cn,(r.val k).wa,O1]
 unfold putK storedH;rw[e];by_cases q:(atKey xs k).isSome=true
 .rw[if_pos q,if_pos q];exact r.BP k a
 .rw[if_neg q,if_neg q];exact Paired.snoc r ⟨rfl,hb,a⟩
def KT.keeps(r:KT H kvs xs)(c:∀b a,H b=some (.tup a)->H' b=some (.tup a)):KT H' kvs xs:=
 Paired.Bv r λ_ _ z=>⟨z.1,c _ _ z.2.1,z.2.2⟩
def xa(ok:HOk P w H h)(e:Rd H a u):y3 P w H h a u:=e.ok ok
def wI(ok:HOk P w H h)(e:Rd H a (.dK kvs)):kvs.length<=sizeLine/\(a==sysModules)=false/\∃b,KV kvs b/\h.DictOf (yf P w) a b:=
 show y3 P w H h a (.dK kvs)from xa ok e
def rE(ok:HOk P w H h)(e:H a=some (.dK kvs)):kvs.length<=sizeLine/\(a==sysModules)=false/\∃b,KV kvs b/\h.DictOf (yf P w) a b:=wI ok (.inl e)
def KS(ok:HOk P w H h)(e:H a=some (.tup (ks.map kV))):(tupleKind (yf P w)).is h ks a:=by obtain⟨_,b,r,o,c,d,n,f⟩:=(show y3 P w H h a (.tup (ks.map kV))from ok a _ e);exact⟨o,b.toArray,n,c,d,f,by simpa using KR r⟩
def KU(ok:HOk P w H h)(e:Rd H a (.dT kvs)):kvs.length<=sizeLine/\(a==sysModules)=false/\
  ∃c,KT H kvs c/\h.DictOfH (tupleKind (yf P w)) a c:=by
 obtain⟨z,y,c,r,o,s,j,n,g,v,f,i⟩:=(show y3 P w H h a (.dT kvs)from xa ok e);refine⟨z,y,c,r,o,s,j,n,g,v,f,λx b=>?_,i⟩;have all:∀{l:EY}{m:List (List Key×Addr×Value)},KT H l m->∀x∈m,(tupleKind (yf P w)).is h x.1 x.2.1:=by
  intro l m q
  induction q with
  |nil=>intro x b;exact nomatch b
  |@cons p q B A d t u=>
   intro x b;rcases G0.mp b with e|b
   .subst e;exact KS ok (by rw[<- d.1];exact d.2.1)
   .exact u x b
 exact all r x b
def BQ(ok:HOk P w H h)(e:H a=some (.dT kvs)):kvs.length<=sizeLine/\(a==sysModules)=false/\
  ∃b,KT H kvs b/\h.DictOfH (tupleKind (yf P w)) a b:=KU ok (.inl e)
def aJ(H:Hp)(a:Addr)(y:V)(r:Option V):Prop:=
 (∃c k,Rd H a (.dK c)/\y=kV k/\r=Qy c k)\/∃c k b,Rd H a (.dT c)/\y=.ref b/\H b=some (.tup (k.map kV))/\r=Qy c k
def oO(H:Hp)(a:Addr)(y v:V)(H':Hp):Prop:=
 (∃c k,H a=some (.dK c)/\y=kV k/\c.length<sizeLine/\H'=upd H a (.dK (putK c k v)))\/
 ∃c k b,H a=some (.dT c)/\y=.ref b/\H b=some (.tup (k.map kV))/\c.length<sizeLine/\H'=upd H a (.dT (putK c k v))
theorem oO.k{H:Hp}{a:Addr}{kvs:Ei}{k:Key}{v:V}(e:H a=some (.dK kvs))(b:kvs.length<sizeLine):oO H a (kV k) v (upd H a (.dK (putK kvs k v))):=.inl ⟨kvs,k,e,rfl,b,rfl⟩
def oO.t{H:Hp}{a b:Addr}{kvs:EY}{k:ET}{v:V}(e:H a=some (.dT kvs))(c:H b=some (.tup (k.map kV)))(d:kvs.length<sizeLine):
  oO H a (.ref b) v (upd H a (.dT (putK kvs k v))):=.inr ⟨kvs,k,b,e,rfl,c,d,rfl⟩
def Inv.big(I:Inv X pins σ H s):sysModules<s.heap.objs.size:=by have h:mainGlobals<s.heap.objs.size:=(I.mod.glob.keeps I.bk).lt;exact a0W (by decide) h
def fJ(D:A.units+1<cLine)(I:Inv X pins σ H s)(g:aJ H a y (some v))(r:RelV y u)(h:∀f w,Inv X pins σ H w->RelV v f->Q f w):
  wpAny (Fg X) A (getItem (.ref a) u) Q E s:=by
 rcases g with⟨m,k,e,q,l⟩|⟨m,k,b,e,q,B,l⟩
 .subst q;obtain⟨z,C,x,c,n⟩:=wI I.hok e;obtain⟨f,i,d⟩:=JF.some_of (v:=v) (o:=valueAt x k) (by rw[l];exact c.val k);exact wpAny_getItem_of (Wk r) n.mapOf i (h f _ (I.tok _) d)
 .subst q;cases(show u=Value.ref b from r);obtain⟨z,C,F,c,n⟩:=KU I.hok e;obtain⟨f,i,d⟩:=JF.some_of (v:=v) (o:=(atKey F k).map (·.2)) (by rw[l];exact c.val k);obtain⟨p,hp,j⟩:=u8.mp i;refine a2U (P5 D) (KS I.hok B) n hp ?_;rw[j];exact h f _ (I.tok _) d
def DI(p:A.units+1<cLine)(I:Inv X pins σ H s)(g:aJ H a y o)(m:RelV y u)(h:∀n,Inv X pins σ H n->Q (.bool o.isSome) n):
  wpAny (Fg X) A (compareOp .In u (.ref a)) Q E s:=by
 rcases g with⟨i,k,e,f,l⟩|⟨i,k,b,e,f,r,l⟩
 .subst f;obtain⟨z,d,v,c,j⟩:=wI I.hok e;refine wpAny_in_of (Wk m) d j.mapOf ?_;rw[<- (c.val k).wa,<- l];exact h _ (I.tok _)
 .subst f;cases(show u=Value.ref b from m);obtain⟨z,d,w,c,j⟩:=KU I.hok e;refine wpAny_in_heap (P5 p) (KS I.hok r) d j ?_;have q:=(c.val k).wa;rw[O1]at q;rw[<- q,<- l];exact h _ (I.tok _)
def rF(p:A.units+1<cLine)(I:Inv X pins σ H s)(g:aJ H a y o)(m:RelV y u)(h:∀n,Inv X pins σ H n->Q (.bool (!o.isSome)) n):
  wpAny (Fg X) A (compareOp .NotIn u (.ref a)) Q E s:=by
 rcases g with⟨i,k,e,f,l⟩|⟨i,k,b,e,f,r,l⟩
 .subst f;obtain⟨z,d,v,c,j⟩:=wI I.hok e;refine wpAny_notIn_of (Wk m) d j.mapOf ?_;rw[<- (c.val k).wa,<- l];exact h _ (I.tok _)
 .subst f;cases(show u=Value.ref b from m);obtain⟨z,d,w,c,j⟩:=KU I.hok e;refine wpAny_notIn_heap (P5 p) (KS I.hok r) d j ?_;have q:=(c.val k).wa;rw[O1]at q;rw[<- q,<- l];exact h _ (I.tok _)
def Xn(I:Inv X pins σ H s)(d:Mut (H a))(c:Heap.SameBut a s.heap h')(he:∃q,h'.get? a=some q)(new:y3 X.prog X.w (upd H a ob) h' a ob)(f:X.m<=t':=by ac_rfl):
  Inv X pins σ (upd H a ob) { s with heap:=h',toks:=t' }:=
 I.write (x:=a) (e:=a) d (.inl rfl) (λb q hb z=>(c.2 b hb).trans z) he new
def UC(z:kvs.length<=sizeLine)(d:(a==sysModules)=false)(b:KV kvs vs)(c:h'.DictOf (yf P w) a vs):
  y3 P w H' h' a (.dK kvs):=⟨z,d,vs,b,c⟩
def fK(P:A.units+1<cLine)(I:Inv X pins σ H s)(g:oO H a y v H')(C:RelV y u)(G:RelV v r)(h:∀F,Inv X pins σ H' F->Q () F):
  wpAny (Fg X) A (setItem (.ref a) u r) Q E s:=by
 rcases g with⟨f,k,e,n,l,p⟩|⟨f,k,b,e,n,B,l,p⟩
 .subst n p;obtain⟨z,o,J,d,w⟩:=rE I.hok e;have hz:J.length<=sizeLine:=by rw[<- d.length];exact z
  have m:(putK f k v).length<=sizeLine:=by have:=Qa f k v;omega
  refine wpAny_setItem_pairs (hsz:=hz) (Wk C) w λD i x=>h _ ?_;have L:∃q,D.get? a=some q:=let⟨q,_,_,j,_⟩:=i;⟨q,j⟩
  exact Xn I (by rw[e];exact True.intro) x L (UC m o (d.put k G) i)
 .subst n p;cases(show u=Value.ref b from C);obtain⟨z,o,R,d,w⟩:=BQ I.hok e;have hz:R.length<=sizeLine:=by rw[<- O2 d];exact z
  have m:(putK f k v).length<=sizeLine:=by have:=Qa f k v;omega
  refine wpAny_setItem_heap (hsz:=hz) (P5 P) (KS I.hok B) w λD i x=>h _ ?_;obtain⟨q,S,O,j,M,T,K,_,N⟩:=i;refine Xn I (by rw[e];exact True.intro) x ⟨q,j⟩ ⟨m,o,_,(d.put k B G).keeps λc U ec=>?_,q,S,O,j,M,T,K,N⟩;rw[zm (Bu ec e (λz=>nomatch z))];exact ec
def BR(I:Inv X pins σ H s)(e:H a=some (.dK kvs))(f:RelV (kV k) u)(l:Qy kvs k=some v)(p:more=[]\/∃x,more=[x])
  (h:∀c m,Inv X pins σ (upd H a (.dK (UB kvs k))) m->RelV v c->Q c m):wpAny (Fg X) A (call (.builtin "dict.pop") (.ref a::u::more)) Q E s:=by
 obtain⟨z,y,j,b,n⟩:=rE I.hok e;obtain⟨c,r,g⟩:=JF.some_of (v:=v) (o:=valueAt j k) (by rw[<- l];exact b.val k);have hp:(keyPart u).isSome=true:=by
  cases k with
  |inl i=>obtain⟨t,q⟩:=(show ∃t,u=Value.int i t from f);subst q;rfl
  |inr x=>obtain⟨t,q⟩:=(show ∃t,u=Value.str x t from f);subst q;rfl
 have D:argsOk "dict.pop" ⟨.ref a::u::more,[]⟩:=by
  rcases p with q|⟨x,q⟩
  .subst q;exact PySem.F.args_dict_pop_2 _ _
  .subst q;exact PySem.F.args_dict_pop_3 _ _ _
 refine a0E a2i n.typeIs PySem.F.entry_dict_pop D (meets_dict_pop_there (yf X.prog X.w) a (Wk f) more p hp)
  ⟨j,c,n,by rw[<- b.length];exact z,r,λB d C=>h c _ ?_ g⟩
 have w:∃q,B.get? a=some q:=let⟨q,_,_,hq,_⟩:=d;⟨q,hq⟩
 exact Xn I (by rw[e];exact True.intro) C w (UC (F2 (mE kvs k) z) y (b.drop k) d)
def BS(I:Inv X pins σ H s)(e:Rd H a (.dK kvs))(h:∀t c,Inv X pins σ H c->Q (.int kvs.length t) c):wpAny (Fg X) A (call (.builtin "len") [.ref a]) Q E s:=by obtain⟨z,d,g,b,f⟩:=wI I.hok e;refine call_len_dict d f (by rw[<- b.length];rw[a0j]at z;omega) ?_;rw[<- b.length];exact h _ _ (I.tok _)
def aZ(I:Inv X pins σ H s)(g:aJ H a y o):s.TypeIs (.ref a) "dict":=by
 rcases g with⟨c,k,e,_,_⟩|⟨c,k,b,e,_,_,_⟩
 .obtain⟨_,_,f,_,d⟩:=wI I.hok e;exact d.typeIs
 .obtain⟨_,_,h,_,d⟩:=KU I.hok e;exact d.typeIs
def BU(d f h:TE):TS:=λD b H=>h b H λv g=>d b g λx e=>f b e λy i=>∃a c,x=.ref a/\oO i a y v c/\D.nx b c
def fL(w:X.A.units+1<cLine)(l:PE X o td)(q:PE X i ty)(j:PE X value tv)(C:swapsWith value (some (.Subscript o i pos')) pos.line X.env=pure false):
  PS X (.Assign [.Subscript o i pos'] value pos) (BU td ty tv):=by
 intro b s c H D I h;refine wpAny_Assign_Subscript (thn (j b s c H _ I h) λr K ⟨v,L,p,B,A⟩=>thn (l b K c L _ p A) λu s2 ⟨x,d,F,J,f⟩=>thn (q b s2 c d _ F f) λM P ⟨y,O,e,m,a,n,E,g,G⟩=>?_) C;subst E;obtain rfl:u=Value.ref a:=J;exact fK w e g m B λN z=>⟨c,n,z,G⟩
def cq(h:Heap)(hb:sysModules<h.objs.size):y3 P w H (h.push { cls:=.type "dict",data:=.dict #[] }) h.objs.size (.dK []):=
 ⟨M7 _,O0.mpr (Ne.symm (F1 hb)),[],.nil,Heap.DictOf.new h⟩
def mF(h:Heap)(hb:sysModules<h.objs.size):y3 P w H (h.push { cls:=.type "dict",data:=.dict #[] }) h.objs.size (.dT []):=
 ⟨M7 _,O0.mpr (Ne.symm (F1 hb)),[],.nil,_,#[],0,F8 _ rfl,⟨rfl,rfl,rfl⟩,rfl,rfl,a1o⟩
def xb:TE:=λ_ H Q=>∀p,H p=none->Q (.ref p) (upd H p (.dK []))
def xf:TE:=λ_ H Q=>∀p,H p=none->Q (.ref p) (upd H p (.dT []))
def mG:PE X (.Dict [] [] pos) xb:=λb s c H Q I h=>
 wpAny_Dict_empty ⟨.ref s.heap.objs.size,_,I.laid (a:=s.heap.objs.size) (o:=.dK []) (t':=s.toks) (λ_ _ q=>D2 _ q) (D3 _) (cq s.heap I.big),rfl,h _ (I.hok.fresh (D3 _))⟩
def mH:PE X (.Dict [] [] pos) xf:=λb s c H Q I h=>
 wpAny_Dict_empty ⟨.ref s.heap.objs.size,_,I.laid (a:=s.heap.objs.size) (o:=.dT []) (t':=s.toks) (λ_ _ q=>D2 _ q) (D3 _) (mF s.heap I.big),rfl,h _ (I.hok.fresh (D3 _))⟩
def fO:List (TE×TE)->St->Hp->(List (V×V)->Hp->Prop)->Prop
 |[],_,H,Q=>Q [] H
 | (e,g)::r,a,H,Q=>e a H λx d=>g a d λy b=>fO r a b λc f=>Q ((x,y)::c) f
abbrev VV:List (V×V)->List (Value×Value)->Prop:=Paired λp q=>RelV p.1 q.1/\RelV p.2 q.2
def PPs(X:Cx)(e:Pos)(c:List (Option Expr))(a:Eg)(f:List (TE×TE)):Prop:=
 ∀(b:D_)(s:Ef)(d:St)(H:Hp)(Q:List (V×V)->Hp->Prop),Inv X b d H s->fO f d H Q->
  wpAny (Fg X) X.A (evalPairs (pairTrees c a X.env e)) (λi j=>∃g h,Inv X b d h j/\VV g i/\Q g h) X.xe s
def rG:PPs X pos [] [] []:=λa s b H Q I h=>pairTrees_nil_walk ⟨[],H,I,.nil,h⟩
def mI(n:PE X k tk)(g:PE X v tv)(o:PPs X pos ks vs trs):
  PPs X pos (some k::ks) (v::vs) ((tk,tv)::trs):=λa s b H Q I h=>
 pairTrees_cons_walk (thn (n a s b H _ I h) λu A ⟨x,m,l,z,q⟩=>thn (g a A b m _ l q) λB s2 ⟨y,d,r,i,f⟩=>
  thn (o a s2 b d _ r f) λD C ⟨j,p,e,c,w⟩=>⟨(x,y)::j,p,e,.cons ⟨z,i⟩ c,w⟩)
def UD(kvs a:Ei):List (Key×V):=a.foldl (λb c=>putK b c.1 c.2) kvs
def KV.merge:∀{b:Ei}{d:EL}{a:Ei}{c:EL},KV b d->KV a c->KV (UD a b) (merged c d):=by
 intro b d a c r;unfold KV at r
 induction r generalizing a c with
 |nil=>intro q;exact q
 |@cons p q i j h t g=>
  intro f;have e:KV (putK a p.1 p.2) (stored c q.1 q.2):=by have:=f.put p.1 h.2;rw[<- h.1];exact this
  exact g e
theorem Qz:∀(b a:Ei),(UD a b).length<=a.length+b.length
 |[],a=>by show a.length<=a.length+0;omega
 |p::r,a=>by have c:=Qz r (putK a p.1 p.2);have d:=Qa a p.1 p.2;show(UD (putK a p.1 p.2) r).length<=_;rw[D4];omega
theorem WU{P:Eo}{w:Es}:∀{d:Ei}{f:List (Value×Value)},VV (d.map λg=>(kV g.1,g.2)) f->∃e,Carries (yf P w) f e/\KV d e
 |[],_,r=>by rw[a2T]at r;cases r;exact⟨[],True.intro,.nil⟩
 |p::d,_,r=>by
  rw[E6]at r;cases r with
  |@cons a b l bs h t=>obtain⟨e,c,q⟩:=WU (P:=P) (w:=w) t;obtain⟨j,i⟩:=b;exact⟨(p.1,i)::e,⟨Wk h.1,rfl,c⟩,.cons ⟨rfl,h.2⟩ q⟩
def BV(b:List (TE×TE)):TE:=λf H Q=>∀p,H p=none->fO b f (upd H p (.dK [])) λe c=>c p=some (.dK [])/\∃a:List (Key×V),e=a.map (λd=>(kV d.1,d.2))/\a.length<=15/\Q (.ref p) (upd c p (.dK (UD [] a)))
def rH(h:PPs X pos keys values trs)(b:keys.all (·.isSome)=true)(x:keys.length=values.length)(G:keys≠[])
  (j:keys.length<=15):PE X (.Dict keys values pos) (BV trs):=by
 intro d s r H Q I q;have B:=I.hok.fresh (D3 s.heap.objs.size);have u:=I.laid (a:=s.heap.objs.size) (o:=.dK []) (h':=s.heap.push { cls:=.type "dict",data:=.dict #[] }) (t':=s.toks) (λ_ _ q=>D2 _ q) (D3 _) (cq s.heap I.big);refine wpAny_Dict_walk (knd:=yf X.prog X.w) b x G j (thn (h d _ r _ _ u (q _ B)) λN s2 ⟨L,K,m,i,e,f,y,M,p⟩=>?_);subst y;obtain⟨n,c,rk⟩:=WU (P:=X.prog) (w:=X.w) i;obtain⟨z,A,D,J,C⟩:=rE m.hok e;cases J;refine⟨n,c,C,λl g F=>⟨.ref s.heap.objs.size,_,?_,rfl,p⟩⟩;have hz:(UD [] f).length<=sizeLine:=by have E:=Qz f [];rw[a0y]at E;rw[a0j];omega
 have v:∃q,l.get? s.heap.objs.size=some q:=let⟨q,_,_,hq,_⟩:=g;⟨q,hq⟩
 exact Xn m (by rw[e];exact True.intro) F v (UC hz A (rk.merge .nil) g)
structure M1(X:Cx)(o:Eh)(m:Str)(qH:Pos)(e:Eh)(jt:Pos):Prop where
 base:attributeBase o m X.env (eval o X.env)=eval o X.env
 few:((backTo jt (starEach [e] X.env)).all (λx=>!x.1)&&(backToKw jt (keywordEach [] X.env)).all (λx=>x.1.isSome)
  && decide (([e]:List Expr).length+([]:List Keyword).length+(if([]:List Keyword).isEmpty then 0 else 1)<30))=true
 line:(qH.endLine==jt.line)=true
 trees:backTo jt (starEach [e] X.env)=[(false,eval e X.env)]
structure M2(X:Cx)(o:Eh)(m:Str)(qH:Pos)(e f:Eh)(jt:Pos):Prop where
 base:attributeBase o m X.env (eval o X.env)=eval o X.env
 few:((backTo jt (starEach [e,f] X.env)).all (λx=>!x.1)&&(backToKw jt (keywordEach [] X.env)).all (λx=>x.1.isSome)
  && decide (([e,f]:List Expr).length+([]:List Keyword).length+(if([]:List Keyword).isEmpty then 0 else 1)<30))=true
 line:(qH.endLine==jt.line)=true
 trees:backTo jt (starEach [e,f] X.env)=[(false,eval e X.env),(false,eval f X.env)]
def IsD(H:Hp)(a:Addr):Prop:=(∃b,Rd H a (.dK b))\/∃b,Rd H a (.dT b)
def fP(I:Inv X pins σ H s)(d:IsD H a):
  s.TypeIs (.ref a) "dict"/\(∀b,Value.ref a=.ref b->∃ob,s.heap.get? b=some ob/\ob.dict=none)/\(a==sysModules)=false:=by
 rcases d with⟨i,e⟩|⟨i,e⟩
 .obtain⟨_,h,j,_,c⟩:=wI I.hok e;refine⟨c.typeIs,λb q=>?_,h⟩;cases q;obtain⟨ob,_,_,f,g,_⟩:=c;exact⟨ob,f,g.2.1⟩
 .obtain⟨_,h,l,_,c⟩:=KU I.hok e;refine⟨c.typeIs,λb q=>?_,h⟩;cases q;obtain⟨ob,_,_,f,g,_⟩:=c;exact⟨ob,f,g.2.1⟩
def xg(q:A.units+1<cLine)(I:Inv X pins σ H s)(g:aJ H a y o)(m:RelV y u)(h:∀p n,Inv X pins σ H n->RelV (o.getD .non) p->Q p n):
  wpAny (Fg X) A (call (.builtin "dict.get") [.ref a,u]) Q E s:=by
 rcases g with⟨f,k,e,i,l⟩|⟨f,k,b,e,i,v,l⟩
 .subst i;obtain⟨z,j,w,c,d⟩:=wI I.hok e;refine a0E S5 d.typeIs a0A (a11 _ _) (meets_dict_get (yf X.prog X.w) a (Wk m) j) ⟨_,d.mapOf,h _ _ (I.tok _) ?_⟩;rw[l];exact(c.val k).getD rfl
 .subst i;cases(show u=Value.ref b from m);obtain⟨z,j,r,c,d⟩:=KU I.hok e;refine a0E S5 d.typeIs a0A (a11 _ _) (meetsH_dict_get (tupleKind (yf X.prog X.w)) a b j) ⟨P5 q,k,r,KS I.hok v,d,h _ _ (I.tok _) ?_⟩;rw[l];exact(c.val k).getD rfl
def xh(v:A.units+1<cLine)(I:Inv X pins σ H s)(g:aJ H a y o)(n:RelV y u)(rd:RelV d r)(h:∀q p,Inv X pins σ H p->RelV (o.getD d) q->Q q p):
  wpAny (Fg X) A (call (.builtin "dict.get") [.ref a,u,r]) Q E s:=by
 rcases g with⟨i,k,e,j,l⟩|⟨i,k,b,e,j,x,l⟩
 .subst j;obtain⟨z,m,B,c,f⟩:=wI I.hok e;refine a0E S5 f.typeIs a0A (a12 _ _ _) (meets_dict_get_default (yf X.prog X.w) a (Wk n) m r) ⟨_,f.mapOf,h _ _ (I.tok _) ?_⟩;rw[l];exact(c.val k).getD rd
 .subst j;cases(show u=Value.ref b from n);obtain⟨z,m,w,c,f⟩:=KU I.hok e;refine a0E S5 f.typeIs a0A (a12 _ _ _) (meetsH_dict_get_default (tupleKind (yf X.prog X.w)) a b m r) ⟨P5 v,k,w,KS I.hok x,f,h _ _ (I.tok _) ?_⟩;rw[l];exact(c.val k).getD rd
def xi(e f:TE):TE:=λb H Q=>e b H λx d=>∃a,x=.ref a/\IsD d a/\f b d λy c=>∃o,aJ c a y o/\Q (o.getD .non) c
def xj(e g h:TE):TE:=λb H Q=>e b H λx d=>∃a,x=.ref a/\IsD d a/\g b d λy f=>h b f λz c=>∃o,aJ c a y o/\Q (o.getD z) c
def xk(f g:TE):TE:=λc H Q=>f c H λx e=>∃a,x=.ref a/\IsD e a/\g c e λy d=>∃b k v,d a=some (.dK b)/\y=kV k/\Qy b k=some v/\Q v (upd d a (.dK (UB b k)))
def mJ(w:X.A.units+1<cLine)(p:PE X o td)(he:PE X e ty)(m:M1 X o "get" qH e jt):PE X (.Call (.Attribute o "get" qH) [e] [] jt) (xi td ty):=by intro b s f H Q I h;refine a1z m.base m.few m.line a0Z S5 a2j (thn (p b s f H _ I h) λu D ⟨x,E,i,C,a,A,d,z⟩=>?_);subst A;obtain rfl:u=Value.ref a:=C;obtain⟨v,r,_⟩:=fP i d;refine⟨v,r,?_⟩;rw[m.trees];refine T4 rfl (a0i (N6 (thn (he b D f E _ i z) λG s2 ⟨y,j,B,q,K,g,n⟩=>a0d ?_)));exact xg w B g q λF J l c=>⟨_,j,l,c,n⟩
def mK(B:X.A.units+1<cLine)(q:PE X o td)(he:PE X e ty)(hf:PE X f tx)(m:M2 X o "get" qH e f jt):PE X (.Call (.Attribute o "get" qH) [e,f] [] jt) (xj td ty tx):=by
 intro b s c H Q I h;refine a1z m.base m.few m.line a0Z S5 a2j (thn (q b s c H _ I h) λu L ⟨x,M,j,K,a,F,d,D⟩=>?_);subst F;obtain rfl:u=Value.ref a:=K;obtain⟨A,v,_⟩:=fP j d;refine⟨A,v,?_⟩;rw[m.trees];refine T4 rfl (a0i (N6 (thn (he b L c M _ j D) λO s2 ⟨y,l,G,r,p⟩=>
  N6 (thn (hf b s2 c l _ G p) λP S ⟨z,w,n,E,T,g,J⟩=>a0d ?_))))
 exact xh B n g r E λN R C i=>⟨_,w,C,i,J⟩
def mL(q:PE X o td)(he:PE X e ty)(m:M1 X o "pop" qH e jt):PE X (.Call (.Attribute o "pop" qH) [e] [] jt) (xk td ty):=by intro b s f H Q I h;refine a1z m.base m.few m.line a0Z a2i PySem.F.type_dict_pop (thn (q b s f H _ I h) λu F ⟨x,G,g,E,a,B,d,A⟩=>?_);subst B;obtain rfl:u=Value.ref a:=E;obtain⟨w,r,_⟩:=fP g d;refine⟨w,r,?_⟩;rw[m.trees];refine T4 rfl (a0i (N6 (thn (he b F f G _ g A) λL s2 ⟨y,J,C,p,z,k,v,n,D,l,j⟩=>a0d ?_)));subst D;exact BR C n p l (.inl rfl) λK M i c=>⟨v,_,i,c,j⟩
def mM(I:Inv X pins σ H s)(e:Rd H a (.dK kvs))(h:∀p g,H p=none->Inv X pins σ (upd H p (.dK kvs)) g->Q (.ref p) g):wpAny (Fg X) A (call (.type "dict") [.ref a]) Q E s:=by obtain⟨z,j,m,c,l⟩:=wI I.hok e;refine kt_call_dict j l (by rw[<- c.length];exact z) λn d i=>?_;refine h _ _ (I.hok.fresh (D3 _)) (I.laid (a:=s.heap.objs.size) (o:=.dK kvs) (t':=s.toks) (λb q f=>?_) (D3 _) (UC z (O0.mpr (Ne.symm (F1 I.big))) c d));exact(i.2 b (F1 (D9 f))).trans (D2 _ f)
end L2
namespace Att
open PySem PySem.W PySem.Calls PyProof.Rows
def KW:∀(c:EB)(d:El),WellAll P h d (c.map WData.int)->IntsAre d c:=by
 intro c
 induction c with
 |nil=>intro d w;rw[a2T]at w;cases w;exact .nil
 |cons n c e=>
  intro d w;rw[E6]at w;cases w with
  |cons a b=>cases a;exact .cons _ _ (e _ b)
def fQ{l:OpenLaw}{n:Nat}(x:l.most=some n){P:Params}{h:Heap}{args:List WData}{vals:El}
  (c:l.row.toRowW.claim.pre args=true) (m:WellAll P h vals args):
  ∃a o b,vals=[Value.ref a]/\args=[WData.list (b.map WData.int)]/\h.get? a=some { cls:=.type "list",data:=.seq o.toArray }/\IntsAre o b/\b.length<=n:=by
 have j:WShape.hasAll [] args [.list .int]=true:=(pre_splitW c).1;have p:l.pre.holds [] { args:=args }=true:=(pre_splitW c).2;obtain⟨d,r,rfl,y,v⟩:=hasAllW_cons j;obtain rfl:=hasAllW_nil v;obtain⟨B,rfl,A⟩:=hasW_list y;obtain⟨b,rfl⟩:=items_int A;have e:b.length<=n:=by
  unfold OpenLaw.pre at p;have g:(WTm.not (.lt (.lit (.int (n:Int))) (.len (.arg 0)))).holds [] { args:=[.list (b.map .int)] }=true:=by have g:=(holds_andW p).1;rw[x]at g;exact g
  have i:=condW_of g (w_not (w_lt w_lit (w_len_list (w_arg rfl))));rw[D0]at i;refine Nat.le_of_not_lt λq=>?_;have z:(n:Int)<((b.length:Nat):Int):=by omega
  first
   | (rw[D6 z]at i;exact absurd i (by decide))
   | (simp at i;omega)
 cases m with
 |cons w s=>
  cases s;cases w with
  |list u f=>exact⟨_,_,b,rfl,rfl,u,KW b _ f,e⟩
def fR(l:OpenLaw)(args:List WData):l.row.toRowW.claim.post args (.bool true) args=true:=
 postW_of (r:=l.row.toRowW) (X:=(true==true))
  (show WShape.has [] (.bool true) .bool=true by first|rfl|decide|simp[WShape.has,WShape.arms,WShape.armsAll])
  (show(WTm.eq .res (.lit (.bool true))).value [] { args:=args,res:=some (.bool true),after:=args }=some (.bool (true==true))from w_eq_bool (w_res rfl) w_lit) rfl
def a8{l:OpenLaw}{n:Nat}{q:Eo}{c:Ea}{H:(Str->Option Value)->Heap->Prop}{F:World->Heap->Prop}{d:DefRec}
  (P:l.most=some n) (C:d.params.defaults=[])
  (call:∀(w:Es)(e b:Ef)(u y:Ed)(fa:Addr)(o:Obj)(A cd h:Value)(a:Addr) (i:El) (s:EB),
   Ground q c [] H w e u y b.heap->F w b.heap->
   b.heap.get? fa=some o->o.data=.func (docDef d.name d.params d.body d.scope A cd h)->b.heap.CodeRec cd d.name->u d.name=some (.ref fa)->
   b.heap.get? a=some { cls:=.type "list",data:=.seq i.toArray }->IntsAre i s->s.length<=n->b.gens = #[]->
   codeAny (model l.prog w) callerA (.call (.ref fa) ⟨[.ref a],[]⟩) (λr v=>r=.ok (.ret (.bool true))/\OldK b.heap v.heap/\v.os=b.os/\AllBare v.gens) b):
  WalkO q c H F l.row.toRowW d [] (λf i=>PySem.call f i):=by
 intro w e b u y G Y fa o A cd h R kV K M x hD z O args E U p D I B S;obtain rfl:R=.none:=Dflts.none hD C;obtain rfl:kV=.none:=Dflts.noKw hD;obtain⟨a,i,s,rfl,rfl,j,g,m⟩:=fQ P p B;refine enter_call (a0D (call w e b u y fa o A cd h a i s G Y K (fd_plain M) x z j g m O) λr v N=>?_);obtain⟨rfl,L,T,J⟩:=N;exact⟨.inl ⟨.bool true,.bool true,[],rfl,λ_=>rfl,.bool true,fR l _,λ_=>⟨List.Pairwise.nil,λ_ Q=>(nomatch Q)⟩⟩,L,T,J⟩
end Att
namespace L2
open PySem PySem.Spec PyProof.Rows
theorem UE:∀{a:El}{b:EB},IntsAre a b->Vals (b.map V.int) a
 |_,_,.nil=>.nil
 |_,_,.cons n t h=>.cons ⟨t,rfl⟩ (UE h)
def BW(H:Hp):Prop:=∀b,H b=none\/∃o a,H b=some (.frz o (.lst a))
def mN{P:Eo}{w:Es}{K:Ej}{D N:Ed}{CX:CXT}{k:Nat}{fa a:Addr}{fd:Eu}{x:Str}{sp:Sp}{c:Ef}{vs:El}{ns:EB}
  (Y:K.In c.heap) (A:c.heap.Ns mainGlobals D) (hb:c.heap.Ns builtinsNs N) (T:∀x:Str,x≠"__name__"->N x=bootBuiltins x) (L:c.heap.NoLimit) (hg:c.gens = #[])
  (M:c.heap.get? a=some { cls:=.type "list",data:=.seq vs.toArray }) (X:IntsAre vs ns) (U:ns.length<=sizeLine) (hr:vC k callerA)
  (F:∀i:Heap,K.In i->i.Ns mainGlobals D->qV P w K D i CX k fa fd [x] sp) (p:∀(s:Ef)(u:Value),BindsTo s fd ⟨[u],[]⟩ [(x,u)])
  (hsp:∀H:Hp,BW H->SqL K H a (ns.map V.int)->sp [.ref a] H (λv _=>v=.bl true) λ_ _ _=>False)
  (S:∀H e g,CX [] H c (λ_ _ _=>False) e g->False):
  codeAny (model P w) callerA (.call (.ref fa) ⟨[.ref a],[]⟩) (λr g=>r=.ok (.ret (.bool true))/\OldK c.heap g.heap/\g.os=c.os/\AllBare g.gens) c:=by
 have rv:=UE X;have ux:=X.length
 -- from an abstract heap in which nothing but the script may be tracked
 have l:∀H:Hp,BW H->SqL K H a (ns.map V.int)->HOk P w H c.heap->(∀b,H b≠none->b=a)->(H a≠none->K.lookup a=none)->
   codeAny (model P w) callerA (.call (.ref fa) ⟨[.ref a],[]⟩) (λr g=>r=.ok (.ret (.bool true))/\OldK c.heap g.heap/\g.os=c.os/\AllBare g.gens) c:=by
  intro H Z hS B hA hK;have f:∀{b:Addr}{o:Obj},c.heap.get? b=some o->H b=none->(l0 c.heap H).get? b=some o:=λe n=>l5 e n;have O:∀{b:Addr}{o:Obj}{J:Array DictEntry}{G:Nat},c.heap.get? b=some o->o.data=.dict J G->H b=none:=λ{b o J G} e d=>by
   cases q:H b with
   |none=>rfl
   |some u=>have Q:b=a:=hA b (by rw[q];simp);subst Q;rw[M]at e;cases e;have d':Data.seq vs.toArray _=Data.dict J G:=d;cases d'
  have j:∀{b:Addr}{m:Ed},c.heap.Ns b m->(l0 c.heap H).Ns b m:=λ{b m} ⟨o,J,G,e,d,r⟩=>⟨o,J,G,f e (O e d),d,r⟩;have y:K.In (l0 c.heap H):=λb o e=>f (Y b o e) (by
   cases q:H b with
   |none=>rfl
   |some u=>
    have Q:b=a:=hA b (by rw[q];simp);subst Q;rw[hK (by rw[q];simp)]at e;cases e)
  have hM:Mod K D (l0 c.heap H):=⟨y,j A,⟨N,j hb,T⟩,let⟨mc,h1,h2⟩:=L;⟨mc,j h1,h2⟩⟩;have e0:oJ P w K D (l0 c.heap H) callerA [] c H:=⟨rfl,hM,λb o e=>p5 e,a1P (fi _ _),trivial,λb hb=>absurd (show b∈([]:List Addr)from hb) (by simp),B,.of_eq hg⟩;refine a0D ((F _ y (j A)).run callerA [] c H ⟨[.ref a],[]⟩ [.ref a] [.ref a] _ _ hr e0 (p c (.ref a)) (.cons rfl .nil) (hsp H Z hS)) λr g h=>?_;cases r with
  |error e=>exact(S H e g h).elim
  |ok fl=>
   cases fl with
   |next=>exact False.elim h
   |brk=>exact False.elim h
   |cont=>exact False.elim h
   |ret u=>
    obtain⟨v,H',os,C,un,I,r',q⟩:=h;have q':v=.bl true:=q;subst q';obtain rfl:u=Value.bool true:=r';refine⟨rfl,OldK.of_keep λb o e=>?_,os,C⟩;cases q:H b with
    |none=>exact un.keep b o e q (by intro z;exact absurd (show b∈([]:List Addr)from z) (by simp)) (by simp)
    |some u=>
     rcases Z b with z|⟨ob,xs,z⟩
     .rw[q]at z;cases z
     .have z2:=un.lG b ob _ z;obtain⟨W,_⟩:=B b _ z;obtain⟨e2,_⟩:=I b _ z2;rw[e]at W;cases W;exact e2
 cases R:K.lookup a with
 |some o=>
  -- the script is one of the module's own objects
  have e:=Y a o R;rw[M]at e;cases e;refine l (λ_=>none) (λ_=>.inl rfl) (.inr ⟨_,vs.toArray,_,R,rfl,rfl,rfl,by rw[F0,ux];exact U,by simpa using rv⟩) (λb u z=>by have E:(none:Option HO)=some u:=z;cases E) (λb z=>absurd rfl z) λz=>absurd rfl z
 |none=>
  refine l (λb=>if b=a then some (.frz { cls:=.type "list",data:=.seq vs.toArray } (.lst (ns.map V.int)))else none) (λb=>?_) (.inl (.inr ⟨{ cls:=.type "list",data:=.seq vs.toArray },if_pos rfl⟩)) (λb u z=>?_) (λb z=>?_) λ_=>R
  .by_cases hb:b=a
   .exact .inr ⟨_,_,if_pos hb⟩
   .exact .inl (if_neg hb)
  .by_cases hb:b=a
   .have E:=(if_pos hb).symm.trans z;cases E;subst hb;exact⟨M,by rw[D0];exact U,vs,_,rv,M⟩
   .have E:=(if_neg hb).symm.trans z;cases E
  .by_cases hb:b=a
   .exact hb
   .exact absurd (if_neg hb) z
def rJ{l:PySem.W.OpenLaw}{n k:Nat}{q:Eo}{i:Ea}{U:(Str->Option Value)->Heap->Prop}{L:World->Heap->Prop}{d:DefRec}{K:Params->PySem.W.Frag}{CX:World->CXT}{sp:World->Sp}{x:Str}
  (S:l.most=some n) (z:n<=sizeLine) (A:d.params.defaults=[]) (N:vC k callerA)
  (Q:∀(w:Es)(h:Heap),L w h->(K w.params).In h)
  (F:∀(w:Es)(j:Ed)(fa:Addr)(h:Heap),(K w.params).In h->h.Ns mainGlobals j->j d.name=some (.ref fa)->
   ∃D:FuncData,(∀(s:Ef)(u:Value),BindsTo s D ⟨[u],[]⟩ [(x,u)])/\
    ∀b:Heap,(K w.params).In b->b.Ns mainGlobals j->qV l.prog w (K w.params) j b (CX w) k fa D [x] (sp w))
  (hsp:∀(w:Es)(H:Hp)(a:Addr)(r:EB),r.length<=n->BW H->SqL (K w.params) H a (r.map V.int)->sp w [.ref a] H (λv _=>v=.bl true) λ_ _ _=>False)
  (C:∀(w:Es)(H:Hp)(s:Ef)(e:Value)(B:Ef),CX w [] H s (λ_ _ _=>False) e B->False):
  PySem.W.WalkO q i U L l.row.toRowW d [] (λf E=>PySem.call f E):=by
 refine Att.a8 S A λw J p j W fa o X cd P a E r G Y Z hd M y m g c R=>?_;have I:=Q w _ Y;obtain⟨D,hb,hF⟩:=F w j fa _ I G.T.g y;exact mN I G.T.g G.T.b G.T.builtins G.T.nolimit R m g (F2 c z) N hF hb (λH T O=>hsp w H a r c T O) λH e B=>C w H p e B
def inClass(s:ER)(j:Nat):Stmt:=match s with
 |.ClassDef _ _ _ a _ _ _ _ _ _ _=>a.getD j (.Pass ⟨0,0,0,0⟩)
 |_=>.Pass ⟨0,0,0,0⟩
def KY(s:ER):Arguments:=match s with
 |.FunctionDef _ a _ _ _ _ _ _ _ _=>a
 |_=>{ posonlyargs:=[],args:=[],vararg:=none,kwonlyargs:=[],kw_defaults:=[],kwarg:=none,defaults:=[] }
def vE(s:ER):List Stmt:=match s with
 |.FunctionDef _ _ b _ _ _ _ _ _ _=>b
 |_=>[]
def zj(s:ER):Scope:=match s with
 |.FunctionDef _ _ _ _ _ _ a _ _ _=>a
 |_=>{ kind:=.function,names:=[],isGenerator:=false,isCoroutine:=false }
abbrev E0:XK:=λ_ _ _=>False
structure Fun(K:Ej)(x qual:Str)(st:ER)(f:Addr)(fd:Eu):Prop where
 ex:∃(oc:Value)(od:EH)(kV doc pm:Value)(an:EH)(cdv ct:Value)(osl:Ez),
  fd=PySem.W.fnOf x qual (KY st) (vE st) (zj st) .none kV doc pm an cdv ct/\K.lookup f=some ⟨oc,od,.func fd,osl⟩/\PySem.W.codeIn K cdv qual=true
 kp:PySem.W.keepIn K (.ref f)=true
section
variable {K:Ej}
def Fun.binds{x a:Str}{st:ER}{f:Addr}{j:Eu}{e:Ea}(F:Fun K x a st f j)
  (h:∀(kV b i:Value)(d:EH)(c ct:Value)(g:El),g.length=e.length->bindArgs (PySem.W.fnOf x a (KY st) (vE st) (zj st) .none kV b i d c ct) ⟨g,[]⟩=pure (e.zip g)):Binds K j e []:=by
 obtain⟨n,od,kV,b,i,d,c,ct,m,rfl,o,l⟩:=F.ex;exact .all (h kV b i d c ct)
def oP{x a:Str}{st:ER}{f:Addr}{i:Value}{od g:EH}{e:Ez}{kV d h b ct:Value}(l:K.lookup f=some ⟨i,od,.func (PySem.W.fnOf x a (KY st) (vE st) (zj st) .none kV d h g b ct),e⟩)
  (c:PySem.W.codeIn K b a=true) (k:PySem.W.keepIn K (.ref f)=true):Fun K x a st f (PySem.W.fnOf x a (KY st) (vE st) (zj st) .none kV d h g b ct):=⟨⟨i,od,kV,d,h,g,b,ct,e,rfl,l,c⟩,k⟩
end
def yt(a:vC k A):A.units+1<cLine:=P6 (Nat.add_le_add_left (by decide:1<=64) _) a.units
def pv(i:Nat)(c:X.N[i]?=some x:=by rfl)(b:Vis X.env.scope x:=by first|exact Or.inl rfl|exact Or.inr (Or.inl rfl)|exact Or.inr (Or.inr rfl))(d:(x==("__debug__":Str))=false:=by decide)
  (a:(x==("__classdict__":Str))=false:=by decide):PE X (.Name x pos) (aU i):=uD c b d a
def rK{A B:Prop}(h:B):if false=true then A else B:=by rw[if_neg F6];exact h
def rL{A B:Prop}(h:A):if true=true then A else B:=by rw[if_pos rfl];exact h
def zz(H H':Hp):Prop:=∀b o,H b=some o->H' b=some o
def zz.refl(H:Hp):zz H H:=λ_ _ h=>h
def zz.trans(a:zz H H1)(b:zz H1 H2):zz H H2:=λc o h=>b c o (a c o h)
end L2
set_option maxHeartbeats 4000000
namespace L2
open PySem PySem.Spec PyProof.Rows PySem.W
def jY:List Value:=[.type "ValueError",.type "Exception",.type "BaseException",.type "object"]
def UG:List Value->List Value
 |.ref _::r=>UG r
 |l=>l
structure Ku(K:EE)(C:Addr):Prop where
 over:(clsIn K C).any (λcd=>UG cd.mro==jY && !cd.mro.isEmpty&&cd.hasDict)=true
 sa:findIn K (.ref C) "__setattr__"=some (some (.builtin "object.__setattr__"))
 ga:findIn K (.ref C) "__getattribute__"=some (some (.builtin "BaseException.__getattribute__"))
 gn:findIn K (.ref C) "__getattr__"=some none
 ty:typeIn K (.ref C)=some (.type "type")
theorem JH(a:Value):∀l:List Value,UG l=jY->refuseLoop a "__setattr__" l=pure ()
 |[],e=>by cases e
 |.ref c::r,e=>by rw[refuseLoop_ref];exact JH a r e
 |.type n::r,e=>by rw[show Value.type n::r=jY from e];exact PySem.F.store_ValueError.passes a
 |.none::r,e=>by cases e
 |.bool _::r,e=>by cases e
 |.int _ _::r,e=>by cases e
 |.str _ _::r,e=>by cases e
 |.bytes _ _::r,e=>by cases e
 |.float _ _::r,e=>by cases e
 |.builtin _::r,e=>by cases e
 |.ellipsis::r,e=>by cases e
 |.notImplemented::r,e=>by cases e
theorem UH{x:String}(a:jY.contains (.type x)=true):∀l:List Value,UG l=jY->l.contains (.type x)=true
 |[],e=>by cases e
 |.ref c::r,e=>by rw[List.contains_cons,UH a r e,Bool.or_true]
 |.type n::r,e=>by rw[show Value.type n::r=jY from e];exact a
 |.none::r,e=>by cases e
 |.bool _::r,e=>by cases e
 |.int _ _::r,e=>by cases e
 |.str _ _::r,e=>by cases e
 |.bytes _ _::r,e=>by cases e
 |.float _ _::r,e=>by cases e
 |.builtin _::r,e=>by cases e
 |.ellipsis::r,e=>by cases e
 |.notImplemented::r,e=>by cases e
theorem Ku.cd{K:EE}{C:Addr}(c:Ku K C):∃cd,clsIn K C=some cd/\UG cd.mro=jY/\cd.mro.isEmpty=false/\cd.hasDict=true:=by obtain⟨cd,a,h⟩:=any_some c.over;simp only[Bool.and_eq_true,beq_iff_eq,Bool.not_eq_true']at h;exact⟨cd,a,h.1.1,h.1.2,h.2⟩
def Ku.sub{K:EE}{C:Addr}(c:Ku K C){x:String}(d:jY.contains (.type x)=true):mroIn K C (.type x)=some true:=by obtain⟨cd,b,a,e,_⟩:=c.cd;unfold mroIn;rw[b,Option.bind_some,if_neg (by rw[e];decide),UH d _ a]
def y_(C:Addr)(od:EH)(t:Addr)(T:Value)(sl:Ez):Obj:=⟨.ref C,od,.fields #[.ref t,T,.none,.none,.bool false,.none],sl⟩
section
variable {prog:Eo}{w:Es}{A:Ey}{E:Ec}{s:Ef}{K:EE}{x dx C t:Addr}{T:Value}{sl:Ez}{mA:Ed}{name:Str}{v:Value}{R:Result->Shared->Prop}
def cu(X:K.In s.heap)(c:Ku K C)(I:InstAt s.heap x (y_ C od t T sl) C oo)(n:takerIn K C name=some none)
  (h:∀b,wpAny (model prog w) A.in1 (Builtin.ObjectAttr.storeInOwnDict (.ref x) (.ref C) (.str name tk) name v b)
   (λj i=>match j with | .done f=>R (.ok f) i | .again l=>l.quiet=true/\codeAny (model prog w) A l R i) (λe i=>R (.error e) i) s):
  codeAny (model prog w) A (.call (.builtin "object.__setattr__") ⟨[.ref x,.str name tk,v],[]⟩) R s:=by
 have g:=PySem.F.store_object;obtain⟨cd,q,m,y,_⟩:=c.cd;have sub:Looks (model prog w) s.heap (isInstance (.ref x) (.type "object")) true:=I.type.andThen (a2a X (c.sub (x:="object") (by decide)));refine a1d g.slot.plain g.entry (@check_slot (model prog w) _ _ s "object.__setattr__" "object" "__setattr__" (.ref x) [.str name tk,v] [] _ g.kind g.split sub (g.args (.ref x) (.str name tk) v) ?_);obtain⟨d,r,u⟩:=F5.mp n;have p:Looks (model prog w) s.heap (mroOf (.ref C)) cd.mro:=(a23 X q).andThen .now;have o:Looks (model prog w) s.heap (Builtin.ObjectAttr.storeTaker? d) none:=by
  cases d with
  |none=>exact .now
  |some a=>
   obtain⟨b,hb,e⟩:=u8.mp u;refine(looks_takesIn X hb).andThen ?_;cases b with
   |true=>cases e
   |false=>exact .now
 rw[osa_eq,refuse_eq];refine f8 (f8 (I.type.here (f8 (p.here ?_))));rw[JH _ _ m];refine v4 (f8 (I.type.here (f8 ((a1Q X r).here (f8 (o.here ?_))))));exact h _
def dW(X:K.In s.heap)(c:Ku K C)(i:s.heap.get? x=some (y_ C none t T sl))(G:takerIn K C name=some none)
  (h:∀a,a.get? x=some (y_ C (some s.heap.objs.size) t T sl)->a.Ns1 s.heap.objs.size (λy=>if y=name then some v else none)->
   (∀b o,b≠x->s.heap.get? b=some o->a.get? b=some o)->Q () { s with heap:=a,toks:=s.toks+2 }):
  wpAny (model prog w) A (setAttr (.ref x) name v) Q E s:=by
 have I:InstAt s.heap x (y_ C none t T sl) C none:=⟨i,rfl,rfl,trivial⟩;refine set_plain X I c.sa (cu (s:={ s with toks:=s.toks+1 }) X c I G λb=>?_);obtain⟨cd,F,_,_,D⟩:=c.cd;have f:x≠s.heap.objs.size:=F1 (D9 i);have g:(s.heap.push emptyDict).get? x=some (y_ C none t T sl):=D2 _ i;refine f8 (v4 (f8 (f8 (a0Y i (f8 (Looks.here (s:={ s with toks:=s.toks+1 }) (a23 X F) ?_))))));rw[D];refine f8 (wpAny_alloc' (f8 (wpAny_update' g (v4 ?_))));have m:((s.heap.push emptyDict).update x λo=>{ o with dict:=some s.heap.objs.size }).get? x=some (y_ C (some s.heap.objs.size) t T sl):=O5 _ g rfl;have q:((s.heap.push emptyDict).update x λo=>{ o with dict:=some s.heap.objs.size }).get? s.heap.objs.size=some emptyDict:=(a2H _ _ _ _ f.symm).trans (Heap.get?_push_at rfl rfl);have n:((s.heap.push emptyDict).update x λo=>{ o with dict:=some s.heap.objs.size }).Ns s.heap.objs.size (λ_=>none):=⟨_,#[],_,q,rfl,λe z=>absurd z (by simp),λ_=>rfl⟩;refine f8 (v4 (f8 ?_));refine a2Q (s:={ s with heap:=(s.heap.push emptyDict).update x λo=>{ o with dict:=some s.heap.objs.size },toks:=s.toks+1 }) (Heap.Ns1.of_empty n) λa d r=>?_;obtain⟨H,u,B,j,p,l⟩:=d.count (a1x name v PySem.Within.nil);refine f8 (a1N j (by rw[p];exact a1O (F2 l (by rw[D4,a0y,a0j];omega))) ?_);refine v4 (h _ ((r.2 _ f).trans m) d λb o hb e=>?_);exact(r.2 _ (F1 (D9 e))).trans ((a2H _ _ _ _ hb).trans (D2 _ e))
def fS(X:K.In s.heap)(c:Ku K C)(n:s.heap.get? x=some (y_ C (some dx) t T sl))(m:s.heap.Ns1 dx mA)(q:dx≠x)(B:takerIn K C name=some none)
  (o:PySem.Within mA ns) (hsz:ns.length<=sizeLine)
  (h:∀e,e.Ns1 dx (λy=>if y=name then some v else mA y)->Heap.SameBut dx s.heap e->Q () { s with heap:=e,toks:=s.toks+2 }):
  wpAny (model prog w) A (setAttr (.ref x) name v) Q E s:=by
 obtain⟨od,l,_⟩:=KN m;have I:InstAt s.heap x (y_ C (some dx) t T sl) C (some od):=⟨n,rfl,rfl,l⟩;refine set_plain X I c.sa (cu (s:={ s with toks:=s.toks+1 }) X c I B λb=>?_);obtain⟨cd,z,_,_,u⟩:=c.cd;refine f8 (v4 (f8 (f8 (a0Y n (f8 (Looks.here (s:={ s with toks:=s.toks+1 }) (a23 X z) ?_))))));rw[u];refine v4 (a:=some dx) (f8 (v4 (f8 ?_)));refine a2Q (s:={ s with toks:=s.toks+1 }) m λe d i=>?_;obtain⟨D,p,r,f,j,g⟩:=d.count (a1x name v o);refine f8 (a1N f (by rw[j];exact a1O (F2 g (by rw[D4];omega))) ?_);exact v4 (h _ d i)
end
def strKeys(es:Array DictEntry):Bool:=es.toList.all λe=>match e.key with | .str _ _=>true|_=>false
def UI(K:EE):List Value->Bool
 |.ref a::r=>(match K.lookup a with
   |some ⟨_,_,.cls cd,_⟩=>(match K.lookup cd.ns with
     |some ⟨_,_,.dict b _,_⟩=>strKeys b&&(b.toList.all λe=>!e.key.isStr "__init__")
     |_=>false)
   |_=>false)&&UI K r
 |l=>l==jY
def dX{h:Heap}{N:Addr}{c:Value}{f:EH}{es:Array DictEntry}{ep:Nat}{sl:Ez}(e:h.get? N=some ⟨c,f,.dict es ep,sl⟩)(k:strKeys es=true)
  (d:(es.toList.all λe=>!e.key.isStr "__init__")=true):∃m,h.Ns N m/\m "__init__"=none:=by
 refine⟨λn=>nsFind es n,⟨_,es,ep,e,rfl,λx a=>?_,λ_=>rfl⟩,?_⟩
 .have q:=a0o.mp k x (a2s.mpr a);split at q
  .rename_i n t b;exact⟨n,t,b⟩
  .cases q
 .show nsFind es "__init__"=none;unfold nsFind findBy;rw[<- a2P,a2V.mpr λx a=>by simpa using a0o.mp d x a];rfl
theorem fT{K:EE}{h:Heap}(X:K.In h):∀l:List Value,UI K l=true->OwnTail h jY l
 |.ref a::r,e=>by
  unfold UI at e;obtain⟨b,i⟩:=a2t.mp e;split at b
  .rename_i c x cd v j;split at b
   .rename_i u o y w s d;obtain⟨p,g⟩:=a2t.mp b;obtain⟨m,q,f⟩:=dX (X _ _ d) p g;exact .own (X _ _ j) q f (fT X r i)
   .cases b
  .cases b
 |[],e=>by cases e
 |.type n::r,e=>by rw[show Value.type n::r=jY from I0.mp e];exact .base
 |.none::r,e=>by rw[show Value.none::r=jY from I0.mp e];exact .base
 |.bool _::r,e=>by rw[I0.mp e];exact .base
 |.int _ _::r,e=>by rw[I0.mp e];exact .base
 |.str _ _::r,e=>by rw[I0.mp e];exact .base
 |.bytes _ _::r,e=>by rw[I0.mp e];exact .base
 |.float _ _::r,e=>by rw[I0.mp e];exact .base
 |.builtin _::r,e=>by rw[I0.mp e];exact .base
 |.ellipsis::r,e=>by rw[I0.mp e];exact .base
 |.notImplemented::r,e=>by rw[I0.mp e];exact .base
structure XMk(K:EE)(C f:Addr):Prop where
 cls:∃nm q N bs bm sn sub ab col dd k0 k1 k2 k3 k5,K.lookup C=some (excClassObj nm q C N bs bm true sn sub ab col dd k0 k1 k2 k3 k5 "ValueError.__new__")/\UI K bm=true
 init:findIn K (.ref C) "__init__"=some (some (.ref f))
 fn:typeIn K (.ref f)=some (.type "function")
 kp:keepIn K (.ref C)=true
section
variable {prog:Eo}{w:Es}{A:Ey}{E:Ec}{K:EE}{C f:Addr}{h:Heap}{g:Array GenState}{d:Drawn}{t:Nat}{os:OsState}
def oQ(a:El):Obj:={ cls:=.type "tuple",data:=.seq a.toArray }
def BX{rest:El}{Q:Ec}(M:XMk K C f)(X:K.In h)(hrest:rest.length<=sizeLine)
  (hq:codeAny (model prog w) (A.under (.builtin "type.__call__" ⟨.ref C::rest,[]⟩)) (.call (.ref f) ⟨.ref (h.objs.size+1)::rest,[]⟩) (λr s'=>match r with | .ok (.ret v)=>v=.none/\Q (.ref (h.objs.size+1)) s' | .ok _=>False | .error e=>E e s')
   ⟨(h.push (oQ rest)).push (y_ C none h.objs.size .none #[]),g,d,t,os⟩):
  wpAny (model prog w) A (call (.ref C) rest) Q E ⟨h,g,d,t,os⟩:=by
 obtain⟨nm,q,N,bs,bm,sn,sub,ab,col,dd,k0,k1,k2,k3,k5,hK,hT⟩:=M.cls;have hC:=X _ _ hK;have T:=fT X _ hT;have F:=PySem.F.excBase_ValueError;have f1:=tc_lookup;have f2:=tc_bind (.ref C);have hTy:(⟨h,g,d,t,os⟩:Shared).TypeIs (.ref C) "type":=⟨_,hC,rfl⟩;refine a0K (codeAny_of_tree ?_);show wpAny _ _ (callAny (.ref C) _) _ _ _
 repeat(any_goals(first|assumption|with_reducible refine wpAny_loadPart_at hC ?_|wp_step))
 refine And.intro rfl (codeAny_call_builtin_at (a2W _ (by decide +kernel)) entry_typeCall (wpAny_check_type_call_sub hC ?_))
 repeat(first|with_reducible refine wpAny_loadPart_at hC ?_|with_reducible refine wpAny_madeBy_exc hC ?_|wp_step)
 refine codeAny_call_builtin_code (a2W _ F.quiet) (wpAny_check_new_subT F T hC (codeAny_exc_new_subT F T hC ?_ hrest));show wpAny _ _ _ _ _ ⟨(h.push (oQ rest)).push (y_ C none h.objs.size .none #[]),g,d,t,os⟩;have kp:∀b o,h.get? b=some o->((h.push (oQ rest)).push (y_ C none h.objs.size .none #[])).get? b=some o:=λb o e=>D2 _ (D2 _ e);have hx:((h.push (oQ rest)).push (y_ C none h.objs.size .none #[])).get? (h.objs.size+1)=some (y_ C none h.objs.size .none #[]):=by heap_get
 have X1:K.In ((h.push (oQ rest)).push (y_ C none h.objs.size .none #[])):=X.keeps kp;have t1:Looks (model prog w) ((h.push (oQ rest)).push (y_ C none h.objs.size .none #[])) (typeOf (.ref (h.objs.size+1))) (.ref C):=(Looks.ld hx).andThen .now;have s1:Looks (model prog w) ((h.push (oQ rest)).push (y_ C none h.objs.size .none #[])) (isSubtype (.ref C) (.ref C)) true:=a2a X1 (by
  unfold mroIn clsIn;rw[hK];simp)
 have i1:=a1Q (M:=model prog w) X1 M.init;have b1:=bind_fn (M:=model prog w) X1 (.ref (h.objs.size+1)) M.fn;unfold isInstance callSpecial? specialOf
 repeat(first|with_reducible refine a0K ?_|lk)
 refine a0D hq λr s' z=>?_;rcases r with e|(v|_|_|_)<;>first|exact z|exact z.elim|skip
 obtain⟨rfl,z⟩:=z;exact v4 (v4 z)
end
def XO(e C:Addr)(od:EH)(T:Value):HO:=.ext λh=>∃t a,h.get? e=some (y_ C od t T a)
def XD(b:Addr)(fs:EF):HO:=.ext λh=>∃a,h.Ns1 b a/\(∀f,JF (fs.lookup f) (a f))/\PySem.Within a (fs.map (·.1))/\fs.length<=1000
def XO.ok(x:h.get? e=some (y_ C od t T sl)):y3 P w H h e (XO e C od T):=
 ⟨⟨t,sl,x⟩,⟨_,x⟩,λ_ _ ⟨b,a,p⟩ k=>⟨b,a,k _ p⟩⟩
def XO.get(x:y3 P w H h e (XO e C od T)):∃t a,h.get? e=some (y_ C od t T a):=x.1
def XD.ok(n:h.Ns1 dx mA)(r:∀f,JF (fs.lookup f) (mA f))(d:PySem.Within mA (fs.map (·.1)))(l:fs.length<=1000):y3 P w H h dx (XD dx fs):=by refine⟨⟨mA,n,r,d,l⟩,?_,λg i ⟨m,⟨o,b,c,a,q⟩,e⟩ k=>⟨m,⟨o,b,c,k _ a,q⟩,e⟩⟩;obtain⟨o,b,c,a,_⟩:=n;exact⟨o,a⟩
def XD.get(x:y3 P w H h dx (XD dx fs)):∃a,h.Ns1 dx a/\(∀f,JF (fs.lookup f) (a f))/\PySem.Within a (fs.map (·.1))/\fs.length<=1000:=x.1
def Inv.rM(I:Inv X pins σ H s)(he:H e=some (XO e C od T))(ch:ES)(d:∀b∈ch,X.s₀.heap.objs.size<=b/\H b=none/\b≠X.env.locals/\(∀x c,X.env.cells.lookup x=some c->c≠b)/\∀p∈X.pn++pins,p.1≠b)
  (keep:∀b o,b≠e->b∉ch->b∉frs X.stack->s.heap.get? b=some o->h'.get? b=some o)
  (i:∀b o,b∈frs X.stack->s.heap.get? b=some o->∃f,h'.get? b=some { o with slots:=f })
  (M:∃t f,h'.get? e=some (y_ C od t T' f)):Inv X pins σ (upd H e (XO e C od T')) { s with heap:=h' }:=by
 have l:∀b,H b=none->b≠e:=λb n z=>by rw[z,he]at n;cases n
 have D:∀b o,H b=some o->b∉frs X.stack:=λb o q z=>by rw[I.Xi b z]at q;cases q
 have B:∀b o,H b=some o->b∉ch:=λb o q z=>by rw[(d b z).2.1]at q;cases q
 obtain⟨E,K,h⟩:=M;have any:∀b o,b∉ch->b≠e->s.heap.get? b=some o->∃f,h'.get? b=some { o with slots:=f }:=λb o hb y q=>by
  by_cases hf:b∈frs X.stack
  .exact i b o hf q
  .exact⟨o.slots,keep b o y hb hf q⟩
 refine I.step (g':=s.gens) (d':=s.drawn) (t':=s.toks) (ch:=ch) (λb hb=>⟨.inr (d b hb).1,(d b hb).2.2⟩) (λb o w hb g q n=>keep b o (l b n) g (λz=>?_) q) (λb o _ _ g q n=>any b o g (l b n) q)
  (λb o _ _ n=>by rw[zm (l b n)];exact n) (λb o g q=>?_) (λb J q=>?_) (λb o u q=>?_) (λb O q=>⟨#[],?_⟩) (λm N=>?_) (λb u q=>?_) I.bare
 .rcases G0.mp (I.WO b z)with z|z
  .exact w z
  .exact hb z
 .by_cases a:b=e
  .exact⟨_,a▸h⟩
  .obtain⟨f,A⟩:=any b o g a q;exact⟨_,A⟩
 .have:b≠e:=λz=>by rw[z,he]at q;cases q
  rw[zm this];exact q
 .have:b≠e:=λz=>by rw[z,he]at q;cases q
  rw[zm this];exact q
 .have:b≠e:=λz=>by rw[z,he]at q;cases q
  rw[zm this,q];simp
 .obtain⟨o,L,G,F,r⟩:=N;have w:H X.env.locals=none:=I.free;obtain⟨f,A⟩:=any _ o (λz=>(d _ z).2.2.1 rfl) (l _ w) F;exact⟨_,L,G,A,r⟩
 .by_cases a:b=e
  .subst a;rw[zi]at q;cases q;exact XO.ok h
  .rw[zm a]at q;refine(I.hok b u q).lM (λc v g r=>?_) (λc r=>?_) λc J r=>?_
   .rcases g with z|z
    .subst z;exact keep c v a (B c u q) (D c u q) r
    .have:c≠e:=λj=>by rw[j,he]at z;cases z
     exact keep c v this (B c _ z) (D c _ z) r
   .have:c≠e:=λj=>by rw[j,he]at r;cases r
    rw[zm this];exact r
   .have:c≠e:=λj=>by rw[j,he]at r;cases r
    rw[zm this];exact r
structure Tb(X:Cx)(pins:D_)(H:Hp)(s:Ef)(Ta:Addr)(fl:Value):Prop where
 tbk:∃oT ts,s.heap.get? Ta=some oT/\oT.data=.fields ts/\ts[3]?=some fl
 new:X.s₀.heap.objs.size<=Ta
 free:H Ta=none
 pin:∀p∈X.pn++pins,p.1≠Ta
def Own(X:Cx):Prop:=X.stack=X.env::X.outer/\X.env.frame=some X.env.locals
def Tb.ok(I:Inv X pins σ H s)(b:Tb X pins H s Ta fl):Ta≠X.env.locals/\(∀x c,X.env.cells.lookup x=some c->c≠Ta)/\Ta∉frs X.stack:=by
 obtain⟨i,j,e,f,_⟩:=b.tbk;have g:Ta≠X.env.locals:=λz=>by obtain⟨m,⟨o,l,n,a,d,_⟩,_⟩:=I.loc;rw[z]at e;rw[e]at a;cases a;rw[f]at d;cases d
 refine⟨g,λx c q z=>?_,λz=>?_⟩
 .obtain⟨v,o,a,d⟩:=I.cell x c q;rw[z,e]at a;cases a;rw[f]at d;cases d
 .rcases G0.mp (I.WO _ z)with z|z
  .exact g z
  .obtain⟨_,o,a,h⟩:=I.aS.mem z;rw[e]at a;cases a;exact h _ f
def fU(I:Inv X pins σ H s)(he:H e=some (XO e C od (.ref Ta)))(b:Tb X pins H s Ta fl)
  (p:∀i,Inv X pins σ (upd H e (XO e C od (.ref Ta))) { s with heap:=i }->Tb X pins (upd H e (XO e C od (.ref Ta))) { s with heap:=i } Ta (f.elim .none λf=>rawInt f)->Q () { s with heap:=i }):
  wpAny M A (setFlight (.ref e) f) Q E s:=by
 obtain⟨t,m,l⟩:=XO.get (I.hok e _ he);obtain⟨w,y,j,h,v⟩:=id b.tbk;obtain⟨n,u,r⟩:=b.ok I;have g:Ta≠e:=λz=>by have:=b.free;rw[z,he]at this;cases this
 have sz:=(a0O.mp v).1;unfold setFlight;refine f8 (M9 l rfl (x:=.ref Ta) rfl ?_);rw[if_pos (show(Value.ref Ta != Value.none)=true from by simp)];refine a2k j h sz ?_;have d:∀c,c≠Ta->(s.heap.update Ta (Obj.mapFields (·.setIfInBounds 3 (f.elim .none λf=>rawInt f)))).get? c=s.heap.get? c:=λc a=>L9 _ _ (Ne.symm a);refine p _ (I.rM he [Ta] (λc a=>?_) (λc o _ a _ q=>(d c (by simpa using a)).trans q) (λc o a q=>⟨o.slots,(d c (λz=>r (z▸a))).trans q⟩) ⟨t,m,(d e (Ne.symm g)).trans l⟩) ⟨⟨_,_,Heap.get?_update_self _ j (Obj.isFreed_of_fields (Obj.data_mapFields h _)),Obj.data_mapFields h _,by simp[sz]⟩,b.new,by rw[zm g];exact b.free,b.pin⟩;obtain rfl:c=Ta:=by simpa using a
 exact⟨b.new,b.free,n,u,b.pin⟩
def mO(I:Inv X pins σ H s)(he:H e=some (XO e C od .none))(b:Q () s):wpAny M A (setFlight (.ref e) f) Q E s:=by obtain⟨t,c,a⟩:=XO.get (I.hok e _ he);unfold setFlight;refine f8 (M9 a rfl (x:=.none) rfl ?_);exact v4 b
def UJ(b:Own X)(y:A.frames=some X.stack)(I:Inv X pins σ H s)(he:H e=some (XO e C od T))
  (B:∀u m,Inv X pins σ (upd H e (XO e C od (.ref u))) { s with heap:=m }->Tb X pins (upd H e (XO e C od (.ref u))) { s with heap:=m } u (rawInt X.env.locals)->Q () { s with heap:=m }):
  wpAny M A (do setField (.ref e) 1 (<- EntryCells.newEntry head (<- frameOf X.env) .none (rawInt X.env.locals) .none (<- entryPlaceOf X.env.locals hadNext))) Q E s:=by
 obtain⟨t,x,D⟩:=XO.get (I.hok e _ he);have j:=I.stack;rw[b.1]at j y;refine f8 (wpAny_frameOf_fun y j b.2 λf a=>?_);refine f8 (wpAny_entryPlaceOf λG i=>?_);unfold EntryCells.newEntry newFields;refine f8 (P8 ?_ (i.sizeOk5 _ _ _ _ _));have h:e∉frs (X.env::X.outer):=λz=>by have:=I.Xi e (by rw[b.1];exact z);rw[he]at this;cases this
 have g:f.get? e=some (y_ C od t T x):=(a.2.1 e h).trans D;have l:e≠f.objs.size:=F1 (D9 g);refine a2k (D2 _ g) rfl (by show 1<6;decide) ?_;have d:∀c o,c≠e->f.get? c=some o->∀w:Obj,((f.push w).update e (Obj.mapFields (·.setIfInBounds 1 (Value.ref f.objs.size)))).get? c=some o:=λc o n q w=>
  (L9 _ _ (Ne.symm n)).trans (D2 _ q)
 have v:H f.objs.size=none:=I.hok.fresh (a1P a.1.symm);refine B f.objs.size _ (I.rM he [] (λ_ z=>nomatch z) (λc o n _ hf q=>d c o n ((a.2.1 c (by rw[b.1]at hf;exact hf)).trans q) _) (λc o hf q=>?_) ⟨t,x,?_⟩) ⟨⟨_,_,(L9 _ _ l).trans (F8 _ rfl),rfl,?_⟩,?_,?_,λp hp z=>?_⟩
 .obtain⟨r,F⟩:=a.2.2 c o q;exact⟨r,d c _ (λz=>h (by rw[b.1]at hf;exact z▸hf)) F _⟩
 .exact O5 _ (D2 _ g) rfl
 .rcases i with rfl|⟨_,_,_,_,_,_,_,rfl⟩<;>simp
 .rw[a.1];exact I.sz
 .rw[zm (Ne.symm l)];exact v
 .have q:=(I.pin p hp).1;exact absurd (D9 q) (by rw[z,a.1];exact O3 _)
structure XIs(K:EE)(C:Addr):Prop where
 ha:findIn K (.ref C) "__class__"=some (some (.builtin "object.__class__"))
 hn:specialIn K (.builtin "object.__class__") "__get__"=some (some (.builtin "getset_descriptor.__get__"))
 htk:takesIn K (.builtin "object.__class__")=some true
section
variable {prog:Eo}{w:Es}{A:Ey}{E:Ec}{s:Ef}{K:EE}{x C:Addr}{sl:Ez}
def xl(X:K.In s.heap)(c:Ku K C)(z:XIs K C)(I:InstAt s.heap x ox C (some od))
  (h:Q (some (.ref C)) { s with toks:=s.toks+1 }):wpAny (model prog w) A (getAttr? (.ref x) "__class__") Q E s:=by
 obtain⟨cd,hc,ho,ne,hdct⟩:=c.cd;have hm:=c.sub (x:="object") (by decide);obtain⟨hp,g,d,tk,os⟩:=s;have L0:=I.type (M:=model prog w);have L1:=a1Q (M:=model prog w) X c.ga;have L2:=a1Q (M:=model prog w) X c.gn;have Lb:Looks (model prog w) hp (isInstance (.ref x) (.type "BaseException")) true:=L0.andThen (a2a X (c.sub (x:="BaseException") (by decide)));have hf:findObj K C (some od) "__class__"=some (.bind (.builtin "getset_descriptor.__get__") (.builtin "object.__class__")):=findObj_data (by rw[hc];rfl) z.ha z.hn z.htk;have L3:=looks_find (M:=model prog w) X I hf;have ga:=PySem.F.excAttr_ValueError.ga;have f3:=ga.bind (.ref x);unfold getAttr? getAttrBy? getAttrBy;refine f8 (a2X (f8 (a0P (L8 (f8 (L0.at (f8 (L1.at ?_))))))));dsimp only;rw[show(onTheHeap (Value.ref C)&&Value.builtin "BaseException.__getattribute__"==Value.builtin "object.__getattribute__")=false from by
  rw[show(Value.builtin "BaseException.__getattribute__"==Value.builtin "object.__getattribute__")=false from by decide +kernel];rfl]
 show wpAny _ _ (getAttrByItsOwn _ _ _ _ _ _) _ _ _;unfold getAttrByItsOwn;refine f8 (show wpAny _ _ (typeLookup (.ref C) "__getattr__") _ _ _ from L2.at ?_);refine f8 (a0P (L8 ?_));show wpAny _ _ (bindSpecial _ _ >>= _) _ _ _;rw[f3];refine f8 (v4 (a0K (a1d ga.plain F.entry_bexc_ga ?_)));have hk:builtinKind "BaseException.__getattribute__"=some .slot:=by decide +kernel
 have hs:splitId "BaseException.__getattribute__"=some ("BaseException","__getattribute__"):=by decide +kernel
 refine @check_slot (model prog w) _ _ ⟨hp,g,d,tk+1,os⟩ "BaseException.__getattribute__" "BaseException" "__getattribute__" (.ref x) [.str "__class__" tk] [] _ hk hs Lb (F.args_bexc_ga (.ref x) (.str "__class__" tk)) ?_;unfold Builtin.«object.__getattribute__»
 repeat(first|with_reducible refine a0K ?_|lk)
 refine class_get (s:=⟨hp,g,d,tk+1,os⟩) (ox:=ox) (od:=some od) X I hm ?_;exact v4 (v4 (v4 h))
def mP{ox od:Obj}(c:Ku K C)(z:XIs K C):KitX K (.ref x) (.ref C) (λh=>InstAt h x ox C (some od))where
 ty:=λ_ _ _ I=>I.type
 it:=λ_ _ X _=>by
  obtain⟨cd,a,_⟩:=c.cd;unfold clsIn at a;split at a
  .rename_i l g b f d;intro r p m o k q;unfold isType loadHead;exact f8 (a0Y (k _ _ (X _ _ d)) (v4 q))
  .cases a
 ne:=λh j u i n sl X e=>by
  obtain⟨cd,a,_⟩:=c.cd;refine Bool.eq_false_iff.mpr λq=>?_;obtain rfl:C=j:=Value.ref.inj (I0.mp q);unfold clsIn at a;split at a
  .rename_i l g b f d;cases(X _ _ d).symm.trans e
  .cases a
 ca:=λX I k=>xl X c z I k
end
def Xo(h:H a=some o):upd H a o=H:=by
 funext b;unfold upd;split
 .rename_i e;rw[e,h]
 .rfl
def XC(e C b:Addr):HO:=.ext λh=>∃t T a,h.get? e=some (y_ C (some b) t T a)
def XC.get(x:y3 P w H h e (XC e C dx)):∃t T a,h.get? e=some (y_ C (some dx) t T a):=x.1
section
variable {X:Cx}{pins:D_}{σ:St}{H:Hp}{s:Ef}{e C Ta:Addr}{od:EH}{T fl:Value}{M:Model}{A:Ey}{E:Ec}{Q:Unit->Shared->Prop}
def Fl(X:Cx)(pins:D_)(H:Hp)(s:Ef)(e C:Addr)(od:EH):Prop:=
 ∃T,H e=some (XO e C od T)/\(T=.none\/∃Ta fl,T=.ref Ta/\Tb X pins H s Ta fl/\(fl=.none\/∃n:Int,fl=rawInt n))
def cw(d:Own X)(v:A.frames=some X.stack)(I:Inv X pins σ H s)(f:Fl X pins H s e C od)
  (m:∀l i,Inv X pins σ (upd H e (XO e C od (.ref l))) { s with heap:=i }->Tb X pins (upd H e (XO e C od (.ref l))) { s with heap:=i } l (rawInt X.env.locals)->Q () { s with heap:=i }):
  wpAny M A (noteFrame (.ref e) X.env) Q E s:=by
 obtain⟨T,a,D⟩:=f;obtain⟨t,B,u⟩:=XO.get (I.hok e _ a);unfold noteFrame;simp only[d.2];refine f8 (M9 u rfl (x:=T) rfl ?_);rcases D with rfl|⟨Ta,fl,rfl,b,y⟩
 .rw[if_neg (by decide)];exact UJ d v I a m
 .rw[if_pos (show(Value.ref Ta != Value.none)=true from by simp)];obtain⟨L,N,r,p,w⟩:=id b.tbk;refine f8 (M9 r p w ?_);by_cases j:¬(fl==rawInt X.env.locals)=true
  .rw[if_neg j];obtain⟨F,J,G⟩:=b.ok I;have n:Ta≠e:=λz=>by have:=b.free;rw[z,a]at this;cases this
   have sz:=(a0O.mp w).1;refine f8 (a2k r p sz ?_);have h:∀c,c≠Ta->(s.heap.update Ta (Obj.mapFields (·.setIfInBounds 3 .none))).get? c=s.heap.get? c:=λc g=>L9 _ _ (Ne.symm g);have K:Inv X pins σ H { s with heap:=s.heap.update Ta (Obj.mapFields (·.setIfInBounds 3 .none)) }:=by
    have:=I.rM (T':=.ref Ta) a [Ta] (h':=s.heap.update Ta (Obj.mapFields (·.setIfInBounds 3 .none))) (λc g=>by
     obtain rfl:c=Ta:=by simpa using g
     exact⟨b.new,b.free,F,J,b.pin⟩) (λc o _ g _ q=>(h c (by simpa using g)).trans q) (λc o g q=>⟨o.slots,(h c (λz=>G (z▸g))).trans q⟩) ⟨t,B,(h e (Ne.symm n)).trans u⟩
    rwa [Xo a]at this
   exact UJ d v K a λl i=>m l i
  .have j:=Classical.not_not.mp j;rw[if_pos j];obtain rfl:fl=rawInt X.env.locals:=eq_of_beq j;refine v4 ?_;have:=m Ta s.heap (by rw[Xo a];exact I) (by rw[Xo a];exact b);exact this
end
def Bb(X:Cx)(E:XK)(v:Value)(c:Ef):Prop:=∃d a e C b,v=.ref e/\Inv X.nox [] d a c/\Fl X.nox [] a c e C (some b)/\E (.ref e) (some b) (upd a e (XC e C b))
def CXe(P:Eo)(w:Es):CXT:=λa H s E v c=>∃e C f d g h b,v=.ref e/\c.os=s.os/\AllBare c.gens/\Un (frs a) [] H b s.heap c.heap/\HOk P w b c.heap/\
 b e=some (XO e C (some f) (.ref d))/\c.heap.get? d=some g/\g.data=.fields h/\h[3]?=some .none/\b d=none/\s.heap.objs.size<=d/\E (.ref e) (some f) (upd b e (XC e C f))
abbrev thr(X:Cx)(E:XK):Cx:=X.Ui (Bb X E)
def Inv.thrown(I:Inv X pins σ H s)(h:CXe X.prog X.w X.stack H s E v s')(y:X.m<=s'.toks:=by ac_rfl):
  ∃a e C d,v=.ref e/\Inv X pins σ a s'/\Fl X pins a s' e C (some d)/\E (.ref e) (some d) (upd a e (XC e C d)):=by
 obtain⟨e,C,d,n,i,j,a,rfl,o,c,un,f,l,u,m,x,r,g,q⟩:=h;have w:Inv X pins σ a s':=I.uC o un f c λb z=>absurd z (by simp);refine⟨a,e,C,d,rfl,w,⟨_,l,.inr ⟨n,_,rfl,⟨⟨i,j,u,m,x⟩,F2 I.sz g,r,λp hp z=>?_⟩,.inl rfl⟩⟩,q⟩;have:=D9 (I.pin p hp).1;rw[z]at this;exact absurd g (Nat.not_le.mpr this)
def Inv.cx(I:Inv X pins σ H s):Inv X [] σ H s:=I.aT λ_ h=>nomatch h
def Fl.cx(f:Fl X pins H s e C od):Fl X [] H s e C od:=by obtain⟨T,c,h⟩:=f;refine⟨T,c,h.imp id λ⟨i,a,g,b,d⟩=>⟨i,a,g,⟨b.tbk,b.new,b.free,λp hp=>b.pin p ?_⟩,d⟩⟩;rw[M5]at hp;exact G9 _ hp
def Fl.Ui(f:Fl X pins H s e C od):Fl (X.Ui E) pins H s e C od:=by obtain⟨T,c,h⟩:=f;exact⟨T,c,h.imp id λ⟨i,a,g,b,d⟩=>⟨i,a,g,⟨b.tbk,b.new,b.free,b.pin⟩,d⟩⟩
def zE:Passes (CXe X.prog X.w) (thr X E) E:=λa b H s v j I h i=>by obtain⟨c,e,C,d,rfl,g,f,q⟩:=Inv.thrown (X:=thr X E) I h i;exact⟨b,c,e,C,d,rfl,(g.Yw.Ui _).cx,(Fl.Ui (X:=thr X E) f.cx),q⟩
def WV:Passes (CXe P w) X E0:=λa c H s v g I h _=>by obtain⟨e,C,i,j,b,d,f,_,_,_,_,_,_,_,_,_,_,_,q⟩:=h;exact False.elim q
def zD(a:Own X):PassesOwn (Fg X) X.A X.env (Bb X E):=λv u ⟨j,s,e,C,l,i,I,f,q⟩=>by
 subst i;have n:X.A.frames=some X.nox.stack:=I.ok.frames;refine cw (X:=X.nox) a n I f λc r h b=>?_;obtain⟨t,o,m⟩:=XO.get (h.hok e _ zi);refine f8 (M9 m rfl (x:=.ref c) rfl ?_);rw[if_neg (show ¬((Value.ref c==Value.none)=true)from by simp)];refine fU h zi b λp d g=>?_;rw[KG]at d g;refine⟨j,_,e,C,l,rfl,d,⟨_,zi,.inr ⟨c,_,rfl,g,.inr ⟨(X.env.locals:Int),?_⟩⟩⟩,?_⟩
 .rw[a.2];rfl
 .rw[KG];exact q
def oR{P:Eo}{w:Es}{K:EE}{j:Ed}{g:Heap}{N:Ea}{d:Str}{c:Scope}{f:Addr}{cd:Value}{A:Ey}{a:List Env}{s:Ef}{H:Hp}{E:XK}{v:Value}{o:Ef}
  (h:Bb (aI (CXe P w) P w K j g N d c f cd A a s H E) E v o):(aI (CXe P w) P w K j g N d c f cd A a s H E).xe v o:=by
 obtain⟨G,M,e,C,x,r,I,y,q⟩:=h;subst r;have n:Own (aI (CXe P w) P w K j g N d c f cd A a s H E):=⟨rfl,rfl⟩;show wpAny (model P w) _ (leaving _ (.ref e)) _ _ o;unfold leaving;refine f8 (cw (X:=(aI (CXe P w) P w K j g N d c f cd A a s H E).nox) n I.ok.frames I y λD L B b=>?_);refine fU B zi b λJ i l=>?_;rw[KG]at i l;obtain⟨p,u,z,m,F⟩:=l.tbk;exact⟨e,C,x,D,p,u,_,rfl,i.os,i.bare,i.base,i.hok,zi,z,m,F,l.free,l.new,by rw[KG];exact q⟩
def PSs.BY{X:Cx}{E:Ec}{st:EC}{t:TS}(h:PSs (X.Ui E) st t)(hE:∀v s,E v s->X.xe v s):PSs X st t:=λa s b H D I c=>
 S0 (h a s b H D (I.Ui E) c) (λ_ _ q=>q.Yw) hE
section
variable {P:Eo}{w:Es}{K:EE}{mg:Ed}{base:Heap}
def Fun.okX{x b:Str}{st:ER}{f:Addr}{i:Eu}{N g:Ea}{k:Nat}{sp:Sp}(F:Fun K x b st f i)(S:zy N g (zj st))(len:∀d H Q E,sp d H Q E->d.length=g.length)
  (j:∀(c:Value)(A:Ey)(a:List Env)(s:Ef)(H:Hp)(d:En)(Q:VK) (E:XK),vC k (A.deeper (envOfC b (zj st) s.heap.objs.size f c))->sp d H Q E->
   ∃t,PSs (thr (aI (CXe P w) P w K mg base N b (zj st) f c A a s H E) E) (vE st) t/\t { nx:=λ_ n=>Q .non n,rt:=Q } (start N d) H):qV P w K mg base (CXe P w) (k+1) f i g sp:=by
 obtain⟨y,od,kV,m,r,u,c,ct,p,rfl,o,e⟩:=F.ex;refine BJ o e S len λA a s H d Q E l hsp=>?_;obtain⟨t,h,q⟩:=j c A a s H d Q E l hsp;exact⟨t,h.BY λv s h=>oR h,q⟩
end
def xm(C:Addr)(sp:Sp)(E:XK)(t:TA):TE:=λc H Q=>t c H λa b=>a.length<=1000/\∀x,b x=none->sp (.ref x::a) (upd b x (XO x C none .none)) (λv d=>v=.non/\Q (.ref x) d) E
def Inv.BZ(I:Inv X pins σ H s):
  Inv X pins σ (upd H (s.heap.objs.size+1) (XO (s.heap.objs.size+1) C none .none)) { s with heap:=(s.heap.push (oQ us)).push (y_ C none s.heap.objs.size .none #[]) }:=
 I.laid (t':=s.toks) (λb u e=>D2 _ (D2 _ e)) (S7 _) (XO.ok (t:=s.heap.objs.size) (sl:=#[]) (by heap_get))
def fV(M:XMk X.K C f)(F:qV X.prog X.w X.K X.mg X.base CX k f fd ps sp)(z:vC (k+1) X.A)(hb:Binds X.K fd ps [])
  (G:Passes CX X E) (I:Inv X pins σ H s) (r:Vals vs b) (K:vs.length<=1000) (h:∀x,H x=none->sp (.ref x::vs) (upd H x (XO x C none .none)) (λv q=>v=.non/\Q (.ref x) q) E):
  wpAny (Fg X) X.A (call (.ref C) b) (EP X pins σ Q) X.xe s:=by
 have m:=h (s.heap.objs.size+1) (I.hok.fresh (S7 _));have c:=Inv.BZ (C:=C) (us:=b) I;have l:Vals (V.ref (s.heap.objs.size+1)::vs) (Value.ref (s.heap.objs.size+1)::b):=.cons rfl r;have i:(Value.ref (s.heap.objs.size+1)::b++[]).length=ps.length:=by have e:=l.length;rw[F.len _ _ _ _ m]at e;rw[M5];exact e.symm
 have p:=hb _ (Value.ref (s.heap.objs.size+1)::b) c.kIn i;rw[M5]at p;obtain⟨y,g,d,L,N⟩:=s;refine N5 (n:=X.m) I.tk<|BX M I.kIn (by rw[<- r.length,a0j];omega) (a0D (F.run _ X.stack _ _ ⟨_::b,[]⟩ _ _ _ E (z.make C b []) (c.Ba.make C b []) p l m) λr B a=>?_)
 cases r with
 |error e=>exact λj=>G pins σ _ _ e B c a j
 |ok A=>
  cases A with
  |ret u=>obtain⟨v,o,_,_,_,_,D,ev,_⟩:=id a;subst ev;refine⟨D,λj=>?_⟩;obtain⟨v,o,w,_,_,J⟩:=c.after a j;exact⟨V.ref (y.objs.size+1),o,w,rfl,J⟩
  |next=>exact False.elim a
  |brk=>exact False.elim a
  |cont=>exact False.elim a
def mQ(M:XMk X.K C f)(F:qV X.prog X.w X.K X.mg X.base CX k f fd ps sp)(j:vC (k+1) X.A)(l:Gl X x)(n:X.mg x=some (.ref C))(hb:Binds X.K fd ps [])(m:Passes CX X E)
  (o:PA X (e::es) t) (b:(x==("__debug__":Str))=false:=by decide) (he:starEach (e::es) X.env=(false,eval e X.env)::starEach es X.env:=by rfl) (c:(backTo pos (starEach es X.env)).any (·.1)=false:=by rfl):
  PE X (.Call (.Name x p) (e::es) [] pos) (xm C sp E t):=by
 intro a s g H Q I h;refine O9 (Jb I l n ?_ b);refine T5 (h₀:=X.base) I.ok.mod.kin M.kp (thn (o pos a s g H _ I h) λv w ⟨u,y,d,r,i,q⟩=>⟨d.kIn,?_⟩) he c;exact fV M F j hb m d r i q
def B0(K:EE)(h g:TE)(f:Str):TS:=λD c H=>g c H λy d=>h c d λx b=>∃e C T,x=.ref e/\Ku K C/\takerIn K C f=some none/\
  ((b e=some (XO e C none T)/\∀a,b a=none->D.nx c (upd (upd b a (XD a [(f,y)])) e (XO e C (some a) T)))\/
   (∃a fs,b e=some (XO e C (some a) T)/\b a=some (XD a fs)/\a≠e/\fs.length<1000/\D.nx c (upd b a (XD a (Wj f y fs)))))
section
variable {X:Cx}{o value:Eh}{f:Str}{pos pos':Pos}{ta tv:TE}
def KZ(ha:PE X o ta)(W:PE X value tv)(hs:swapsWith value (some (.Attribute o f pos')) pos.line X.env=pure false):PS X (.Assign [.Attribute o f pos'] value pos) (B0 X.K ta tv f):=by
 intro m s E H D I h;refine a09 (thn (W m s E H _ I h) λu s1 ⟨y,H1,Z,O,q⟩=>thn (ha m s1 E H1 _ Z q) λov s2 ⟨x,N,j,rx,e,C,T,ex,c,P,p⟩=>?_) hs;subst ex;obtain rfl:ov=Value.ref e:=rx;rcases p with⟨a,p⟩|⟨F,fs,a,Q,ne,l,p⟩
 .obtain⟨t,U,K⟩:=XO.get (j.hok e _ a);have hne:s2.heap.objs.size≠e:=P4 (D9 K);have A:N s2.heap.objs.size=none:=j.hok.fresh (D3 _);refine dW j.kIn c K P λG w i J=>⟨E,_,?_,p _ A⟩;have lt:∀b o,s2.heap.get? b=some o->b≠s2.heap.objs.size:=λb o q=>F1 (D9 q);have d:∀b o,N b=some o->b≠s2.heap.objs.size:=λb o q z=>by rw[z,A]at q;cases q
  refine j.un (h':=G) (t':=s2.toks+2) ⟨λb o q n _ _=>J b o (λz=>by rw[z,a]at n;cases n) q,λb o q n _ _=>⟨o.slots,J b o (λz=>by rw[z,a]at n;cases n) q⟩,λb o q n _=>?_,λb o q _=>?_,λb xs q=>?_,λb o u q=>?_,λb ps q=>⟨#[],?_⟩⟩ λb ob q=>?_
  .rw[zm (λz=>by rw[z,a]at n;cases n),zm (lt b o q)];exact n
  .by_cases hb:b=e
   .exact⟨_,hb▸w⟩
   .exact⟨o,J b o hb q⟩
  .rw[zm (λz=>by rw[z,a]at q;cases q),zm (d b _ q)];exact q
  .rw[zm (λz=>by rw[z,a]at q;cases q),zm (d b _ q)];exact q
  .rw[zm (λz=>by rw[z,a]at q;cases q),zm (d b _ q),q];simp
  .by_cases hb:b=e
   .subst hb;rw[zi]at q;cases q;exact XO.ok w
   .rw[zm hb]at q;by_cases B:b=s2.heap.objs.size
    .subst B;rw[zi]at q;cases q;refine XD.ok i (λg=>?_) (λg L=>?_) (by show 1<=1000;decide)
     .show JF (List.lookup g [(f,y)]) (if g=f then some u else none);by_cases z:g=f
      .subst z;rw[if_pos rfl];simp only[List.lookup,beq_self_eq_true];exact O
      .rw[if_neg z];simp only[List.lookup,beq_eq_false_iff_ne.mpr z];exact True.intro
     .by_cases z:g=f
      .subst z;exact F7.mpr rfl
      .exact absurd (if_neg z) L
    .rw[zm B]at q;refine(j.hok b ob q).lM (λc v hc r=>J c v ?_ r) (λc r=>?_) λc xs r=>?_
     .rcases hc with z|z
      .rw[z];exact hb
      .intro z2;rw[z2,a]at z;cases z
     .rw[zm (λz=>by rw[z,a]at r;cases r),zm (d c _ r)];exact r
     .rw[zm (λz=>by rw[z,a]at r;cases r),zm (d c _ r)];exact r
 .obtain⟨t,U,K⟩:=XO.get (j.hok e _ a);obtain⟨R,hn,r,S,l1⟩:=XD.get (j.hok F _ Q);refine fS j.kIn c K hn ne P S (by rw[D0,a0j];omega) λG i Y=>⟨E,_,?_,p⟩;have M:∃u,G.get? F=some u:=let⟨o,_,_,e',_⟩:=i;⟨o,e'⟩
  refine j.write (x:=F) (e:=F) (t':=s2.toks+2) (by rw[Q];exact True.intro) (.inl rfl) (λb u hb z=>(Y.2 b hb).trans z) M (XD.ok i (λg=>?_) (λg L=>?_) ?_)
  .show JF ((Wj f y fs).lookup g) (if g=f then some u else R g);rw[Y8];by_cases q:g=f
   .rw[if_pos q,if_pos q];exact O
   .rw[if_neg q,if_neg q];exact r g
  .by_cases q:g=f
   .rw[q];exact(ZF f y fs).1
   .refine(ZF f y fs).2 g (S g λz=>L ?_);show(if g=f then some u else R g)=none;rw[if_neg q];exact z
  .have:=Y9 f y fs;omega
def B3(I:Inv X pins σ H s)(he:H e=some (XC e C dx)\/∃T,H e=some (XO e C (some dx) T)):∃t T a,s.heap.get? e=some (y_ C (some dx) t T a):=by
 rcases he with he|⟨T,he⟩
 .exact XC.get (I.hok e _ he)
 .obtain⟨t,a,h⟩:=XO.get (I.hok e _ he);exact⟨t,T,a,h⟩
def xn(K:EE)(E:XK)(d:TE):TS:=λ_ c H=>d c H λv b=>∃e C a,v=.ref e/\Ku K C/\b e=some (XO e C (some a) .none)/\E (.ref e) (some a) (upd b e (XC e C a))
def mR(w:X.calm=true)(he:PE (thr X E) e te):PS (thr X E) (.Raise (some e) none pos) (xn X.K E te):=by
 intro g s m H D I h;rw[arm_exec_Raise];refine f8 (a05 ?_);show wpAny _ _ (raiseStmt X.env (some (do let v<-eval e X.env;standAt pos;pure v)) none) _ _ s;unfold raiseStmt;refine f8 (f8 (thn (he g s m H _ I h) λu b ⟨v,F,d,B,a,C,y,ev,c,j,q⟩=>f8 (a05 (v4 ?_))));subst ev;obtain rfl:u=Value.ref a:=B;obtain⟨t,G,l⟩:=XO.get (d.hok a _ j);obtain⟨cd,p,_⟩:=c.cd;have n:Looks (Fg X) b.heap (typeOf (.ref a)) (.ref C):=(Looks.ld l).andThen .now;have A:Looks (Fg X) b.heap (isSubtype (.ref C) (.type "BaseException")) true:=a2a d.kIn (c.sub (x:="BaseException") (by decide));have LI:Looks (Fg X) b.heap (isInstance (.ref a) (.type "BaseException")) true:=n.andThen A;have i:(thr X E).xe (.ref a) b:=⟨m,F,a,C,y,rfl,(d.Yw.Ui _).cx,⟨.none,j,.inl rfl⟩,q⟩;have z:(thr X E).A.handled=none:=d.ok.hd w;have LT:Looks (Fg X) b.heap (isType (.ref a)) false:=by intro M L J K k q;unfold isType loadHead;exact f8 (a0Y (k _ _ l) (v4 q))
 have LE:Looks (Fg X) b.heap (isExcClass (.ref a)) false:=LT.andThen .now;refine f8 (v4 ?_);dsimp only;refine f8 (L8 ?_);unfold excFromValue;refine f8 (LE.here ?_);simp only[Bool.false_eq_true,if_false];refine f8 (LI.here ?_);simp only[if_true];refine v4 (f8 (LT.here ?_));simp only[Bool.false_eq_true,if_false];have LC:Looks (Fg X) b.heap (typeOf (.ref C)) (.type "type"):=looks_typeIn d.kIn c.ty;have r:Looks (Fg X) b.heap (raisedInstance (.ref a)) (.ref a):=by unfold raisedInstance;refine n.andThen (LC.andThen ?_);rw[if_pos (by simp)];exact .now
 refine f8 (r.here (f8 (mO d j ?_)));exact wpAny_raiseNew_none z i
end
def TyX(K:EE)(H:Hp)(x:V)(t:Value):Prop:=fc K H x t\/
 ∃e C a fs,x=.ref e/\t=.ref C/\Ku K C/\XIs K C/\(H e=some (XC e C a)\/∃T,H e=some (XO e C (some a) T))/\H a=some (XD a fs)
def B4:V->Option Value
 |.ref a=>some (.ref a)
 |.ty n=>some (.type n)
 |_=>none
def mS(r:RelV c u)(e:B4 c=some v):u=v:=by
 cases c with
 |ref a=>cases e;exact r
 |ty n=>cases e;exact r
 |_=>cases e
def a9(I:Inv X pins σ H s)(rx:RelV x u)(ty:TyX X.K H x t):∃P,KitX X.K u t P/\P s.heap/\u≠.builtin "__main__.__loader__#opaque":=by
 rcases ty with ty|⟨e,C,dx,fs,rfl,rfl,c,z,he,hd⟩
 .cases ty with
  |non=>cases(show u=Value.none from rx);exact⟨_,kitx_none,True.intro,λz=>nomatch z⟩
  |bl y=>cases(show u=Value.bool y from rx);exact⟨_,kitx_bool,True.intro,λz=>nomatch z⟩
  |int i=>obtain⟨t,q⟩:=(show ∃t,u=Value.int i t from rx);cases q;exact⟨_,kitx_int,True.intro,λz=>nomatch z⟩
  |str y=>obtain⟨t,q⟩:=(show ∃t,u=Value.str y t from rx);cases q;exact⟨_,kitx_str,True.intro,λz=>nomatch z⟩
  |flt y=>obtain⟨t,q⟩:=(show ∃t,u=Value.float y t from rx);cases q;exact⟨_,kitx_float,True.intro,λz=>nomatch z⟩
  |@lst a xs ea=>cases(show u=Value.ref a from rx);obtain⟨_,_,n,_,h1⟩:=(show y3 X.prog X.w H s.heap a (.lst xs)from I.hok a _ ea);exact⟨_,kitx_list,⟨_,h1,rfl⟩,λz=>nomatch z⟩
  |@frz a ob xs ea=>cases(show u=Value.ref a from rx);obtain⟨_,_,_,n,_,h1⟩:=(show y3 X.prog X.w H s.heap a (.frz ob (.lst xs))from I.hok a _ ea);exact⟨_,kitx_list,⟨_,h1,rfl⟩,λz=>nomatch z⟩
  |@tup a xs ea=>cases(show u=Value.ref a from rx);obtain⟨_,_,_,p⟩:=(show y3 X.prog X.w H s.heap a (.tup xs)from I.hok a _ ea);obtain⟨o,h1,h2,_⟩:=p;exact⟨_,kitx_tuple,⟨o,h1,h2⟩,λz=>nomatch z⟩
  |@dK a kvs ea=>cases(show u=Value.ref a from rx);obtain⟨_,_,vs,_,p⟩:=(show y3 X.prog X.w H s.heap a (.dK kvs)from I.hok a _ ea);obtain⟨o,es,ep,h1,h2,_⟩:=p;exact⟨_,kitx_dict,⟨o,h1,h2.1⟩,λz=>nomatch z⟩
  |@dT a kvs ea=>cases(show u=Value.ref a from rx);obtain⟨_,_,xs,_,o,es,ep,h1,h2,_⟩:=(show y3 X.prog X.w H s.heap a (.dT kvs)from I.hok a _ ea);exact⟨_,kitx_dict,⟨o,h1,h2.1⟩,λz=>nomatch z⟩
  |@ins a C dx fs ea cl ha hn htk hm=>cases(show u=Value.ref a from rx);obtain⟨mA,O,_⟩:=Xl I.hok ea;obtain⟨od,J,_⟩:=O.look;exact⟨_,kitx_own (cl.get _) cl.hd ha hn htk hm,J,λz=>nomatch z⟩
 .cases(show u=Value.ref e from rx);obtain⟨t,T,sl,hx⟩:=B3 I he;obtain⟨mA,hn,_⟩:=XD.get (I.hok dx _ hd);obtain⟨od,hod,_⟩:=KN hn;exact⟨_,mP c z,⟨hx,rfl,rfl,hod⟩,λz=>nomatch z⟩
abbrev TEx:=St->Hp->VK->XK->Prop
def mT(i j:Int):Prop:=i.natAbs<2 ^ 8192/\j.natAbs<2 ^ 8192
def mT.ok(h:mT i j):IntMulOk i j:=IntMulOk.of_le (intBits_le_iff.mpr h.1) (intBits_le_iff.mpr h.2) (by decide)
def rN:OpR X (binaryOp .Mult) (rI mT λi j=>.int (i*j)):=opI λ_ _ _ _ _ _ _ a q=>mul_int q a.ok
theorem zz.upd{H:Hp}{p:Addr}{o:HO}(h:H p=Option.none):zz H (upd H p o):=λb q e=>by rw[zm (zR e h)];exact e
def a_(cells:ED):List (Str×NameKind)->List (Str×Addr)->List (Str×Addr)
 |[],a=>a
 | (n,k)::r,a=>a_ cells r (if k == .free then(match cells.lookup n with|some c=>(n,c)::a|none=>a)else a)
theorem JI{env:Env}:∀(b:EG)(d:ED),(∀y∈b,y.2=.free->(env.cells.lookup y.1).isSome=true)->
  (forIn b d λx r=>if(x.2==NameKind.free)=true then do let a<-cellOf env x.1;pure (ForInStep.yield ((x.1,a)::r))else pure (ForInStep.yield r))=(pure (a_ env.cells b d):Sem _)
 |[],d,_=>rfl
 | (n,k)::r,d,h=>by
  rw[List.forIn_cons];have i:=λd=>JI (env:=env) r d λy m=>h y (D5 _ m);unfold a_;by_cases f:(k==NameKind.free)=true
  .have j:=h (n,k) D8 (I0.mp f);obtain⟨c,l⟩:=O4.mp j;have g:List.lookup n env.cells=some c:=l;simp only[f,if_true,cellOf,g,pure_bind];exact i _
  .have e:(k==NameKind.free)=false:=by simpa using f
   simp only[e,Bool.false_eq_true,if_false,pure_bind];exact i _
def dY(h:∀y∈scope.names,y.2=.free->(env.cells.lookup y.1).isSome=true):closureFor scope env=pure (a_ env.cells scope.names []):=by have:=JI scope.names [] h;simp only[closureFor];rw[this];rfl
theorem Ym{cells:ED}{x:Str}{c:Addr}:∀(b:EG)(f:ED),(∀d,f.lookup x=some d->cells.lookup x=some d)->(a_ cells b f).lookup x=some c->cells.lookup x=some c
 |[],f,h,e=>h c e
 | (n,k)::r,f,h,e=>by
  unfold a_ at e;refine Ym r _ (λd a=>?_) e;by_cases i:(k==NameKind.free)=true
  .rw[if_pos i]at a;split at a
   .rename_i l g;rw[L5]at a;split at a
    .rename_i j;cases a;rw[I0.mp j];exact g
    .exact h d a
   .exact h d a
  .rw[if_neg i]at a;exact h d a
theorem Xp{cells:ED}{x:Str}:∀(a:EG)(b:ED),((b.lookup x).isSome=true\/((x,NameKind.free)∈a/\(cells.lookup x).isSome=true))->((a_ cells a b).lookup x).isSome=true
 |[],b,h=>by
  rcases h with h|⟨h,_⟩
  .exact h
  .cases h
 | (n,k)::r,b,h=>by
  unfold a_;refine Xp r _ ?_;rcases h with h|⟨h,d⟩
  .left;by_cases f:(k==NameKind.free)=true
   .rw[if_pos f];split
    .rw[L5];split
     .rfl
     .exact h
    .exact h
   .rw[if_neg f];exact h
  .rcases G0.mp h with e|e
   .left;cases e;rw[if_pos (by rfl)];obtain⟨c,d⟩:=O4.mp d;rw[d,L5];simp
   .exact .inr ⟨e,d⟩
theorem rO{x:Str}{c:Addr}:∀(a:EG)(h:Heap)(b:ED),(cellsFrom h.objs.size a b).lookup x=some c->b.lookup x=some c\/(h.objs.size<=c/\∃v,(pushCells h a).IsCell c v)
 |[],_,_,e=>.inl e
 | (n,k)::r,h,b,e=>by
  unfold cellsFrom at e;unfold pushCells;split at e
  .rename_i d;rw[if_pos d];have f:(cellsFrom (h.push { cls:=.type "cell",data:=.cell none }).objs.size r ((n,h.objs.size)::b)).lookup x=some c:=by rw[a0k];exact e
   rcases rO r _ _ f with z|⟨z,v⟩
   .rw[L5]at z;split at z
    .cases z;exact .inr ⟨D3 _,none,_,a17 r _ _ _ (F8 _ rfl),rfl⟩
    .exact .inl z
   .rw[a0k]at z;exact .inr ⟨a1A z,v⟩
  .rename_i d;rw[if_neg d];exact rO r h b e
theorem fW:∀(a:EG)(i:Nat)(b:ED),(∀x y c,b.lookup x=some c->b.lookup y=some c->x=y)->(∀x c,b.lookup x=some c->c<i)->∀x y c,(cellsFrom i a b).lookup x=some c->(cellsFrom i a b).lookup y=some c->x=y
 |[],_,_,h,_=>h
 | (n,k)::r,i,b,h,g=>by
  unfold cellsFrom;split
  .refine fW r _ _ (λx y c d f=>?_) λx c e=>?_
   .rw[L5]at d f;split at d<;>split at f
    .rename_i l _ j;rw[I0.mp l,I0.mp j]
    .cases d;exact absurd (g _ _ f) (O3 _)
    .cases f;exact absurd (g _ _ d) (O3 _)
    .exact h x y c d f
   .rw[L5]at e;split at e
    .cases e;exact a0l _
    .exact a1B (g x c e)
  .exact fW r _ _ h g
theorem fX{x:Str}:∀(a:EG)(c:Nat)(b:ED),((b.lookup x).isSome=true\/(x,NameKind.cell)∈a)->((cellsFrom c a b).lookup x).isSome=true
 |[],_,_,h=>h.elim id λz=>nomatch z
 | (n,k)::r,c,b,h=>by
  unfold cellsFrom;split
  .refine fX r _ _ ?_;rcases h with h|h
   .left;rw[L5];split
    .rfl
    .exact h
   .rcases G0.mp h with e|e
    .cases e;left;rw[L5];simp
    .exact .inr e
  .rename_i d;refine fX r _ _ (h.imp id λz=>?_);rcases G0.mp z with e|e
   .cases e;exact absurd rfl d
   .exact e
theorem fY{x:Str}:∀(a:EG)(c:Nat)(b:ED),(x,NameKind.cell)∉a->(cellsFrom c a b).lookup x=b.lookup x
 |[],_,_,_=>rfl
 | (n,k)::r,c,b,h=>by
  unfold cellsFrom;split
  .rename_i d;rw[fY r _ _ λz=>h (D5 _ z),L5];have:(x==n)=false:=by
    cases q:x==n with
    |false=>rfl
    |true=>exact absurd (by rw[I0.mp q,I0.mp d];exact D8) h
   rw[this]
  .exact fY r _ _ λz=>h (D5 _ z)
theorem fZ{x:Str}{c:Addr}:∀(a:EG)(i b:Nat)(g:ED),b<=i->((x,NameKind.cell)∈a\/∀d,g.lookup x=some d->b<=d)->(cellsFrom i a g).lookup x=some c->b<=c
 |[],_,_,_,_,h,e=>h.elim (λz=>nomatch z) λz=>z c e
 | (n,k)::r,i,b,g,hb,h,e=>by
  unfold cellsFrom at e;split at e
  .refine fZ r _ b _ (a1w hb) ?_ e;rcases h with h|h
   .rcases G0.mp h with z|z
    .cases z;refine .inr λd f=>?_;rw[L5]at f;simp at f;rw[<- f];exact hb
    .exact .inl z
   .refine .inr λd f=>?_;rw[L5]at f;split at f
    .cases f;exact hb
    .exact h d f
  .rename_i j;refine fZ r _ b _ hb (h.imp (λz=>?_) id) e;rcases G0.mp z with q|q
   .cases q;exact absurd rfl j
   .exact q
def dZ
  (h:Q (newEnv scope s.heap.objs.size globals (cellsFrom (s.heap.objs.size+1) scope.names cl) qual none .none (some env) builtinsNs) { s with heap:=pushCells (s.heap.push { cls:=.type "dict",data:=.dict #[] }) scope.names }):
  wpAny M A (newFunctionEnv scope globals cl [] qual none .none (some env)) Q E s:=by
 simp only[newFunctionEnv,Option.isSome_some,if_true];refine f8 (wpAny_alloc ?_);refine f8 (wpAny_layCells _ (λd a b=>by cases c:a==NameKind.cell<;>simp[c]) _ _ _ _ ?_);rw[show({ s with heap:=s.heap.push { cls:=.type "dict",data:=.dict #[] } }:Shared).heap.objs.size=s.heap.objs.size+1 from a0k ..];refine f8 ?_;rw[List.forIn_nil];exact v4 (v4 h)
abbrev cy(scope:Scope)(cl:ED)(L:Addr)(env:Env):Env:={ compEnvC scope cl L env with cells:=cellsFrom (L+1) scope.names cl }
abbrev qE(X:Cx)(scope:Scope)(N:Ea)(fp:ES)(pn:D_)(s:Ef)(H:Hp)(L:Addr):Cx:=
 { X with N:=N,s₀:=s,H₀:=H,env:=cy scope (a_ X.env.cells scope.names []) L X.env,outer:=X.stack,ex:=fp,fn:=λx=>scope.names.contains (x,.cell),pn:=pn,xe:=λ_ _=>False }
def lO(X:Cx)(scope:Scope)(N:Ea)(fr:Et):Bool:=
 scope.kind == .function&&scope.names.all (λy=>y.2 != .cell || !scope.names.contains (y.1,.free))&&scope.names.all (λy=>y.2 != .local||scope.names.lookup y.1==some .local) &&
 scope.names.all (λy=>y.2 != .free||(X.env.kindOf y.1==some .cell||X.env.kindOf y.1==some .free))&&N.length==fr.length &&
 (N.zip fr).all λp=>match p.2 with|none=>true|some j=>X.N[j]?==some p.1&&scope.names.contains (p.1,.free)&&((relabel scope X.env).names.lookup p.1==some .cell||(relabel scope X.env).names.lookup p.1==some .free)
def lQ(a:St)(fr:Et):St:=fr.map λo=>match o with|none=>none|some j=>(a[j]?).join
def PTs(X:Cx)(d:Eg)(t:TT):Prop:=
 ∀(a:D_)(s:Ef)(b:St)(H:Hp)(Q:Bool->Hp->Prop),Inv X a b H s->t b H Q->
  wpAny (Fg X) X.A (forIn d true λc r=>if r=true then do let ok<-isTrue c X.env (eval c X.env);pure (ForInStep.yield ok)else pure (ForInStep.yield r)) (TP X a b Q) X.xe s
def DJ:TT:=λ_ H Q=>Q true H
def rP:PTs X [] DJ:=λ_ _ a H _ I h=>wpAny_tests_nil ⟨H,I,h⟩
def rQ(h:PT X c t):PTs X [c] t:=λa s b H Q I q=>wpAny_tests_one (h a s b H Q I q)
def UK(h:(relabel scope env).names.lookup x=some .cell\/(relabel scope env).names.lookup x=some .free):(x,NameKind.free)∈scope.names\/(x,NameKind.cell)∈scope.names:=by
 have b:∀(a:EG) k,(a.map λ(n,k)=>if(k==NameKind.free&&env.scope.kind == .function&&env.kindOf n==some .cell)then(n,NameKind.cell)else(n,k)).lookup x=some k->(k=.cell\/k=.free)->(x,NameKind.free)∈a\/(x,NameKind.cell)∈a:=by
  intro a
  induction a with
  |nil=>intro k e _;simp at e
  |cons y r f=>
   intro k e d;obtain⟨n,kd⟩:=y;rw[E6,L5]at e;by_cases q:(kd==NameKind.free&&env.scope.kind == .function&&env.kindOf n==some .cell)=true
   .simp only[q,if_true]at e;split at e
    .rename_i c;have hf:kd=.free:=by simp only[Bool.and_eq_true,beq_iff_eq]at q;exact q.1.1
     left;rw[I0.mp c,hf];exact D8
    .exact(f k e d).imp (D5 _) (D5 _)
   .simp only[q,Bool.false_eq_true,if_false]at e;split at e
    .rename_i c;have g:kd=k:=G4 e;rcases d with z|z
     .right;rw[I0.mp c,g,z];exact D8
     .left;rw[I0.mp c,g,z];exact D8
    .exact(f k e d).imp (D5 _) (D5 _)
 rcases h with h|h
 .exact b _ _ h (.inl rfl)
 .exact b _ _ h (.inr rfl)
def ba(I:Nat->Shared->Prop)
  (a:∀n s,I n s->wpAny (model prog w) A (pyNext it) (λr f=>match r with
   |none=>R (.ok .next) f
   |some v=>wpAny (model prog w) A (letOwnedTupleGo target it v) (λ_ b=>wpAny (model prog w) A (assign target env v) (λ_ s2=>
     wpAny (model prog w) A (forIn ifs true λc r=>if r=true then do let ok<-isTrue c env (eval c env);pure (ForInStep.yield ok)else pure (ForInStep.yield r)) (λok d=>
      if ok=true then wpAny (model prog w) A (eval elt env) (λx g=>wpAny (model prog w) A (call (.builtin "list.append") [acc,x]) (λ_ i=>∃m,m<n/\I m i) (λ_ _=>False) g) (λ_ _=>False) d
      else ∃m,m<n/\I m d) (λ_ _=>False) s2) (λ_ _=>False) b) (λ_ _=>False) f) (λ_ _=>False) s)
  (n:Nat) (h:I n s):codeAny (model prog w) A (.compLoop (.ListComp elt [⟨target,jw,ifs,0⟩] scope pos) 0 it acc env) R s:=by
 refine codeAny_loop rfl I (λn s o=>?_) n h;show wpAny _ A ((compTurn (.ListComp elt [⟨target,jw,ifs,0⟩] scope pos) 0 it acc env).onRaise (λx=>do noteFrame x env;theTreesLotGoes x)) _ _ s;refine wpAny_noted ?_;rw[compTurn_list];refine f8 (a05 (f8 (S0 (a n s o) (λr f j=>?_) λ_ _ z=>False.elim z)));cases r with
 |none=>exact v4 j
 |some v=>
  refine f8 (S0 j (λ_ b e=>f8 (S0 e (λ_ s2 q=>f8 (S0 q (λok d l=>?_) λ_ _ z=>False.elim z)) λ_ _ z=>False.elim z)) λ_ _ z=>False.elim z);cases ok with
  |false=>exact v4 ⟨rfl,l⟩
  |true=>exact f8 (f8 (S0 l (λx g p=>f8 (S0 p (λ_ i u=>v4 (v4 ⟨rfl,u⟩)) λ_ _ z=>False.elim z)) λ_ _ z=>False.elim z))
def d3{X:Cx}{f:D_}{r:St}{l:Hp}{s2:Ef}{U jw tg:Eh}{ifs:Eg}{a:Scope}{P:Pos}{N:Ea}{fr:Et}{it:Addr}{h:ES}{tn:Nat->Heap->Prop}{J:It}
  {E:Ec}{RR:Value->Addr->Result->Shared->Prop}
  (hc:X.calm=true) (G:lO X a N fr=true) (I2:Inv X f r l s2) (T:Turn X.prog X.w X.K tg J h it tn) (st:tn 0 s2.heap) (O:∀b∈h,dG X f l b)
  (k:∀(d:Ef)(I:Heap),Inv X f r (upd l s2.heap.objs.size (.lst [])) d->Inv (qE X a N h (X.pn++f) d (upd l s2.heap.objs.size (.lst [])) d.heap.objs.size) [] (lQ r fr) (upd l s2.heap.objs.size (.lst [])) { d with heap:=I,toks:=d.toks+0 }->(∀b o,s2.heap.get? b=some o->I.get? b=some o)->(∀b∈h,(upd l s2.heap.objs.size (.lst [])) b=none)->(∀S:Hp,(∀b∈h,S b=none)->∀b∈h,dG (qE X a N h (X.pn++f) d (upd l s2.heap.objs.size (.lst [])) d.heap.objs.size) [] S b)->
   codeAny (Fg X) X.A (.compLoop (.ListComp U [⟨tg,jw,ifs,0⟩] a P) 0 (.ref it) (.ref s2.heap.objs.size) (cy a (a_ X.env.cells a.names []) d.heap.objs.size X.env)) (RR (.ref s2.heap.objs.size) d.heap.objs.size) { d with heap:=I,toks:=d.toks+0 }):
  wpAny (Fg X) X.A (newList []) (λacc d=>wpAny (Fg X) X.A (newFunctionEnv a X.env.globals (a_ X.env.cells a.names []) [] X.env.qual none .none (some X.env)) (λF s4=>
   codeAny (Fg X) X.A (.compStart (.ListComp U [⟨tg,jw,ifs,0⟩] a P) 0 (.ref it) acc { F with scope:=relabel a X.env }) (RR acc F.locals) s4) E d) E s2:=by
 unfold lO at G;simp only[Bool.and_eq_true,beq_iff_eq,List.all_eq_true]at G;obtain⟨⟨⟨⟨⟨k1,k2⟩,k3⟩,k4⟩,k5⟩,k6⟩:=G;have hcf:∀x,(x,NameKind.free)∈a.names->(x,NameKind.cell)∉a.names:=λx hf C=>by have:=k2 _ C;simp only[bne_self_eq_false,Bool.false_or,Bool.not_eq_true',List.contains_eq_mem,decide_eq_false_iff_not]at this;exact this hf
 refine P8 ?_;have g:Inv X f r (upd l s2.heap.objs.size (.lst [])) { s2 with heap:=s2.heap.push { cls:=.type "list",data:=.seq ([]:List Value).toArray } }:=I2.BO (ys:=[]) (its:=[]) (t':=s2.toks) .nil (M7 _);refine dZ ?_;generalize hs3:({ s2 with heap:=s2.heap.push { cls:=.type "list",data:=.seq ([]:List Value).toArray } }:Shared)=d at g ⊢;have D:=(Heap.Ns.new d.heap (.type "dict")).keeps (a17 a.names _);have n:∀b o,d.heap.get? b=some o->(pushCells (d.heap.push { cls:=.type "dict",data:=.dict #[] }) a.names).get? b=some o:=λb o e=>a17 _ _ b o (D2 _ e);have A:∀x c,(cellsFrom (d.heap.objs.size+1) a.names (a_ X.env.cells a.names [])).lookup x=some c->X.env.cells.lookup x=some c\/(d.heap.objs.size+1<=c/\∃v,(pushCells (d.heap.push { cls:=.type "dict",data:=.dict #[] }) a.names).IsCell c v):=λx c e=>by have:=rO (x:=x) (c:=c) a.names (d.heap.push { cls:=.type "dict",data:=.dict #[] }) (a_ X.env.cells a.names []) (by rw[a0k];exact e);rw[a0k]at this;exact this.imp (Ym _ [] λ_ z=>by simp at z) id
 generalize hh1:pushCells (d.heap.push { cls:=.type "dict",data:=.dict #[] }) a.names=I at D n A ⊢;have M:∀b o,s2.heap.get? b=some o->d.heap.get? b=some o:=λb o e=>by rw[<- hs3];exact D2 _ e
 have H:∀b∈h,b<d.heap.objs.size/\(upd l s2.heap.objs.size (.lst [])) b=none:=λb hb=>by obtain⟨o,ho,_⟩:=T.obj _ _ st b hb;refine⟨D9 (M _ _ ho),?_⟩;rw[zm (F1 (D9 ho))];exact(O b hb).1
 have s:(qE X a N h (X.pn++f) d (upd l s2.heap.objs.size (.lst [])) d.heap.objs.size).Ok:=by
  refine⟨g.ok.mod,k1,g.ok.glob,g.ok.blt,D3 _,fW _ _ _ (λx y c e1 B=>g.ok.inj x y c (Ym _ [] (λ_ z=>by simp at z) e1) (Ym _ [] (λ_ z=>by simp at z) B)) (λx c e=>?_),λx hx=>?_,λx c z e=>?_,λ_=>g.ok.hd hc,g.ok.frames,.inl rfl,
   λb hb=>⟨F1 (H b hb).1,λx c e=>?_⟩,g.bs,F2 g.ok.bsz g.sz,λb o e hb=>?_,λb hb z=>?_,g.stack,g.Xi⟩
  .obtain⟨v,hv⟩:=g.cell x c (Ym _ [] (λ_ z=>by simp at z) e);exact a1B hv.lt
  .refine O4.mp (fX _ _ _ ?_);rcases UK hx with hf|hf
   .have R:=k4 _ hf;simp only[bne_self_eq_false,Bool.false_or,Bool.or_eq_true,beq_iff_eq]at R;obtain⟨c,hcx⟩:=g.ok.has x R;exact .inl (Xp _ [] (.inr ⟨hf,by rw[hcx];rfl⟩))
   .exact .inr hf
  .exact fZ a.names (d.heap.objs.size+1) d.heap.objs.size _ (S7 _) (.inl (List.contains_iff_mem.mp z)) e
  .rcases A x c e with z|⟨z,_⟩
   .exact(O b hb).2.2.2.2.1 x c z
   .exact λq=>absurd (P6 (a1A z) (show c<d.heap.objs.size by rw[q];exact(H b hb).1)) (O3 _)
  .rcases(O b hb).2.2.2.1 with z|z
   .exact I2.ok.uf b o e z
   .have:=D9 e;exact absurd (E7 this I2.ok.bsz) (Nat.not_lt.mpr z)
  .rcases G0.mp (g.WO b z)with z|z
   .exact(O b hb).2.1 z
   .exact(O b hb).2.2.1 z
 have lenN:(lQ r fr).length=N.length:=by unfold lQ;rw[D0];exact k5.symm
 have J0:Inv (qE X a N h (X.pn++f) d (upd l s2.heap.objs.size (.lst [])) d.heap.objs.size) [] (lQ r fr) (upd l s2.heap.objs.size (.lst [])) { d with heap:=I,toks:=d.toks+0 }:=by
  have Q:=g.kept (h':=I) (t':=d.toks+0) n;refine⟨s,rfl,g.bare,Un.kept n,⟨_,D,λi x v e1 B _=>?_⟩,λx c e=>(A x c e).elim (Q.cell x c) λz=>z.2,g.hok.fresh (D3 _),λx c e=>(A x c e).elim (Q.QZ x c) λz=>g.hok.fresh (a1A z.1),λp hp=>?_,Q.hok,lenN,g.tk⟩
  .unfold lQ at B;rw[F4]at B;cases L:fr[i]? with
   |none=>rw[L]at B;cases B
   |some o=>
    rw[L]at B;cases o with
    |none=>cases B
    |some j=>
     have Y:(r[j]?).join=some v:=G4 B;have hm:(x,some j)∈N.zip fr:=by refine S8 (i:=i) ?_;rw[List.getElem?_zip_eq_some];exact⟨e1,L⟩
     have R:=k6 _ hm;simp only[Bool.and_eq_true,Bool.or_eq_true,beq_iff_eq,List.contains_iff_mem]at R;obtain⟨⟨g1,g2⟩,g3⟩:=R;have hσ:r[j]?=some (some v):=by
      cases q:r[j]? with
      |none=>rw[q]at Y;cases Y
      |some w=>rw[q]at Y;cases w with
       |none=>cases Y
       |some w=>cases Y;rfl
     have K:=k4 _ g2;simp only[bne_self_eq_false,Bool.false_or,Bool.or_eq_true,beq_iff_eq]at K;obtain⟨m,_,hl⟩:=Q.loc;obtain⟨u,ru,lk⟩:=hl j x v g1 hσ (by rcases K with z|z;exact .inr (.inl z);exact .inr (.inr z));refine⟨u,ru,.inr ⟨g3,?_⟩⟩;rcases lk with⟨z,_⟩|⟨_,c,ec,z⟩
     .rcases K with q|q<;>(rw[z]at q;cases q)
     .obtain⟨c',C⟩:=O4.mp (Xp (cells:=X.env.cells) (x:=x) a.names [] (.inr ⟨g2,by rw[ec];rfl⟩));have:=Ym _ [] (λ_ z=>by simp at z) C;rw[ec]at this;cases this;exact⟨c,(fY _ _ _ (hcf x g2)).trans C,z⟩
  .have W:p∈X.pn++f:=by rw[M5]at hp;exact hp
   obtain⟨q1,q2,q3,q4,q5⟩:=Q.pin p W;refine⟨q1,q2,F1 (D9 (g.pin p W).1),λz=>?_,q5⟩;rcases G0.mp (g.WO _ z)with z|z
   .exact q3 z
   .exact q4 z
 have Z:∀{S:Hp},(∀b∈h,S b=none)->∀b∈h,dG (qE X a N h (X.pn++f) d (upd l s2.heap.objs.size (.lst [])) d.heap.objs.size) [] S b:=λhn b hb=>
  ⟨hn b hb,(s.exf b hb).1,λz=>s.ug b hb z,.inl hb,(s.exf b hb).2,λp hp=>by rw[M5]at hp;exact(O b hb).2.2.2.2.2 p hp⟩
 have loop:=k d I g J0 (λb o e=>n b o (M b o e)) (λb hb=>(H b hb).2) (λ_ hn=>Z hn);exact codeAny_compStart_list loop (T.self _ 0 _ _ _ (T.keep _ _ _ st λb _ o e=>n b o (M b o e)) loop)
def cz{X:Cx}{f:D_}{σ:St}{B:Hp}{s2:Ef}{elt jw tg:Eh}{ifs:Eg}{a:Scope}{pos:Pos}{N:Ea}{fr:Et}{g:TG}{tc:TT}{te:TE}{it:Addr}{w:ES}{tn:Nat->Heap->Prop}{J:It}
  {E:Ec}{RR:Value->Addr->Result->Shared->Prop}{Q:VK}
  (hc:X.calm=true) (hok:lO X a N fr=true) (I2:Inv X f σ B s2) (T:Turn X.prog X.w X.K tg J w it tn) (st:tn 0 s2.heap) (f2:∀b∈w,dG X f B b)
  (hg:∀w pn s H L,PG (qE X a N w pn s H L) tg g) (hi:∀w pn s H L,PTs (qE X a N w pn s H L) ifs tc) (he:∀w pn s H L,PE (qE X a N w pn s H L) elt te)
  (h:∀l,B l=none->∃W:Nat->Nat->St->Hp->Prop,(∃m,W 0 m (lQ σ fr) (upd B l (.lst [])))/\∀i m j q,W i m j q->
   (J.stop i q/\Q (.ref l) q)\/(J.go i q/\∃N:St->Hp->Prop,(∀j q,N j q->∃m',m'<m/\W (i+1) m' j q)/\∀x H3,J.yld i q x H3->g x j H3 λK H4=>tc K H4 λb P=>
    if b=true then te K P λv H6=>∃ys,H6 l=some (.lst ys)/\ys.length<sizeLine/\N K (upd H6 l (.lst (ys++[v])))else N K P))
  (hRR:∀l C m s' q,Inv X f σ q s'->s'.heap.Ns C m->X.s₀.heap.objs.size<=C->q C=none->C≠X.env.locals->(∀x c,X.env.cells.lookup x=some c->c≠C)->(∀p∈X.pn++f,p.1≠C)->Q (.ref l) q->RR (.ref l) C (.ok .next) s'):
  wpAny (Fg X) X.A (newList []) (λl A=>wpAny (Fg X) X.A (newFunctionEnv a X.env.globals (a_ X.env.cells a.names []) [] X.env.qual none .none (some X.env)) (λO s4=>
   codeAny (Fg X) X.A (.compStart (.ListComp elt [⟨tg,jw,ifs,0⟩] a pos) 0 (.ref it) l { O with scope:=relabel a X.env }) (RR l O.locals) s4) E A) E s2:=by
 have hDf:B s2.heap.objs.size=none:=I2.hok.fresh (D3 _);obtain⟨W,⟨m0,w0⟩,turn⟩:=h _ hDf;refine d3 hc hok I2 T st f2 λA h1 I3 J0 kp fpn F=>?_;have hcc:(qE X a N w (X.pn++f) A (upd B s2.heap.objs.size (.lst [])) A.heap.objs.size).calm=true:=hc;refine ba (λn s'=>∃i j q,Inv (qE X a N w (X.pn++f) A (upd B s2.heap.objs.size (.lst [])) A.heap.objs.size) [] j q s'/\tn i s'.heap/\(∀b∈w,q b=none)/\W i n j q) ?_ m0
  ⟨0,_,_,J0,T.keep _ _ _ st λb _ o e=>kp b o e,fpn,w0⟩
 rintro n s5 ⟨i,M,P,I5,st5,fr5,w5⟩
 rcases turn i n M P w5 with⟨stop,qn⟩|⟨go,NN,hNN,step⟩
 .refine thn (T.done (qE X a N w (X.pn++f) A (upd B s2.heap.objs.size (.lst [])) A.heap.objs.size) rfl rfl rfl hcc i [] s5 M P _ I5 (F _ fr5) st5 stop) λr s6 ⟨hr,S⟩=>?_;subst hr;have I7:Inv X f σ P s6:=I3.uC (ch:=w) S.os S.base S.hok S.bare (λb hb=>⟨(f2 b hb).2.2.2.1,(f2 b hb).2.1,(f2 b hb).2.2.2.2.1,(f2 b hb).2.2.2.2.2⟩) S.tk;obtain⟨mm,hmm,_⟩:=S.loc;refine hRR _ _ mm s6 P I7 hmm I3.sz S.free (P4 I3.lt) (λx c e z=>?_) (λp hp z=>?_) qn
  .obtain⟨v,hv⟩:=I3.cell x c e;exact absurd hv.lt (by rw[z];exact O3 _)
  .exact absurd (D9 (I3.pin p hp).1) (by rw[z];exact O3 _)
 .refine thn (T.item (qE X a N w (X.pn++f) A (upd B s2.heap.objs.size (.lst [])) A.heap.objs.size) rfl rfl rfl hcc i [] s5 M P _ I5 (F _ fr5) st5 go) λr s6 ⟨u,hr,h6⟩=>?_;subst hr;refine thn h6 λ_ s7 ⟨x,H7,I7,r7,y7,R,fr7⟩=>?_;have I7':=I7.pinned (F _ fr7) (T.obj _ _ R);have D:∀{G:St}{U:Hp}{Y:Ef},Inv (qE X a N w (X.pn++f) A (upd B s2.heap.objs.size (.lst [])) A.heap.objs.size) ([]++Uo w s7.heap) G U Y->NN G U->
    ∃m,m<n/\∃i j q,Inv (qE X a N w (X.pn++f) A (upd B s2.heap.objs.size (.lst [])) A.heap.objs.size) [] j q Y/\tn i Y.heap/\(∀b∈w,q b=none)/\W i m j q:=λ{G U Y} Z n9=>by
   obtain⟨m',hm,w9⟩:=hNN G U n9;refine⟨m',hm,i+1,G,U,Z.Kr,T.keep _ _ _ R λb hb o e=>(Z.pin (b,o) (L7 _ (L7 _ (Yl hb e)))).1,λb hb=>?_,w9⟩;obtain⟨o,e,d⟩:=T.obj _ _ R b hb;exact(Z.pin (b,o) (L7 _ (L7 _ (Yl hb e)))).2.1
  refine thn (hg _ _ _ _ _ _ s7 M H7 x u _ I7' r7 (step x H7 y7)) λ_ s8 ⟨I,H8,I8,q8⟩=>?_;refine thn (hi _ _ _ _ _ _ s8 I H8 _ I8 q8) λok Y ⟨U,Z,q9⟩=>?_;cases ok with
  |false=>rw[if_neg (by decide)]at q9 ⊢;exact D Z q9
  |true=>rw[if_pos rfl]at q9 ⊢;refine thn (he _ _ _ _ _ _ Y I U _ Z q9) λy s10 ⟨v,H10,I10,r10,ys,h10,l10,q10⟩=>?_;refine thn (KQ (X:=qE X a N w (X.pn++f) A (upd B s2.heap.objs.size (.lst [])) A.heap.objs.size) _ s10 I H10 (.ref s2.heap.objs.size) [v] (.ref s2.heap.objs.size) [y] (λ_ H11=>NN I H11) I10 rfl (.cons r10 .nil) ⟨_,ys,v,rfl,rfl,h10,l10,q10⟩) λ_ s11 ⟨_,H11,I11,_,q11⟩=>?_;exact D I11 q11
def tLC(s:TI)(g:TG)(r:TT)(q:TE)(fr:Et):TE:=λj H Q=>s j H λJ p=>∀c,p c=none->∃W:Nat->Nat->St->Hp->Prop,(∃m,W 0 m (lQ j fr) (upd p c (.lst [])))/\∀i m a e,W i m a e->
 (J.stop i e/\Q (.ref c) e)\/(J.go i e/\∃N:St->Hp->Prop,(∀a e,N a e->∃o,o<m/\W (i+1) o a e)/\∀x l,J.yld i e x l->g x a l λd u=>r d u λb h=>
  if b=true then q d h λv n=>∃f,n c=some (.lst f)/\f.length<sizeLine/\N d (upd n c (.lst (f++[v])))else N d h)
def cA{X:Cx}{d:D_}{i:St}{H:Hp}{s:Ef}{a:Scope}{N:Ea}{fr:Et}(b:lO X a N fr=true)(I:Inv X d i H s):
  a.kind=.function/\(∀y∈a.names,y.2=.local->a.names.lookup y.1=some .local)/\closureFor a X.env=pure (a_ X.env.cells a.names []):=by
 unfold lO at b;simp only[Bool.and_eq_true,beq_iff_eq,List.all_eq_true]at b;obtain⟨⟨⟨⟨⟨h,m⟩,j⟩,l⟩,n⟩,o⟩:=b;refine⟨h,λy e z=>?_,dY λy e z=>?_⟩
 .have:=j y e;rw[z]at this;simpa using this
 .have g:=l y e;rw[z]at g;simp only[bne_self_eq_false,Bool.false_or,Bool.or_eq_true,beq_iff_eq]at g;obtain⟨c,f⟩:=I.ok.has y.1 g;rw[f];rfl
def xo(N:Ea)(fr:Et)(G:X.calm=true)(f:lO X scope N fr=true)(z:PI X tg jw wi)(K:∀d i s H L,PG (qE X scope N d i s H L) tg g)(W:∀d i s H L,PTs (qE X scope N d i s H L) ifs tc)(he:∀d i s H L,PE (qE X scope N d i s H L) elt te)
  (S:∀x,foldedSetIterable jw X.env x=pure x:=by intro _;rfl):PE X (.ListComp elt [⟨tg,jw,ifs,0⟩] scope pos) (tLC wi g tc te fr):=by
 intro a s r H Q I h;obtain⟨B,P,p⟩:=cA f I;rw[eval_ListComp];refine a1R (use:=none) rfl S p B P (thn (z a s r H _ I h) λv s1 n=>thn n λU s2 j=>?_);obtain⟨Z,d,tn,J,H2,e,R,T,l,F,A⟩:=j;subst e;refine cz (Q:=Q) (RR:=λc C=>compPost (Fg X) X.A X.xe none (EP X a r Q) c C) G f R T l F K W he A λc C m E D O M n j Y u y q=>?_;exact⟨m,M,λh' w=>⟨.ref c,D,O.turned (t':=E.toks) (λb o hb e=>(w.2 b hb).trans e) j Y (.inr n) u y,rfl,q⟩⟩
def B5(N:Ea)(fr:Et)(R:X.N.Nodup)(hy:X.N[i]?=some y)(O:X.env.scope.names.lookup y=some .local)(hc:X.calm=true)(j:lO X scope N fr=true)(Z:PI X tg jw wi)(hg:∀f n s H L,PG (qE X scope N f n s H L) tg g)
  (ht:∀f n s H L,PTs (qE X scope N f n s H L) ifs tc) (he:∀f n s H L,PE (qE X scope N f n s H L) elt te) (p:swapsWith (.ListComp elt [⟨tg,jw,ifs,0⟩] scope pos) (some (.Name y py)) fb.line X.env=pure true:=by rfl)
  (hs:∀x,foldedSetIterable jw X.env x=pure x:=by intro _;rfl):PS X (.Assign [.Name y py] (.ListComp elt [⟨tg,jw,ifs,0⟩] scope pos) fb) (ui (tLC wi g tc te fr) (aV i)):=by
 intro c s M H D I h;obtain⟨k1,k3,G⟩:=cA j I;rw[exec_Assign_Name_used _ _ _ _ p];refine f8 (a05 (f8 ?_));show wpAny _ X.A (do let _<-comprehension (.ListComp elt [⟨tg,jw,ifs,0⟩] scope pos) scope X.env _ (newList []) false (eval jw X.env) (some (assign (.Name y py) X.env))) _ _ s;refine f8 (S0 (a1R (use:=some (assign (.Name y py) X.env)) (Q:=λ_ l=>SP X c D .next l) rfl hs G k1 k3
  (thn (Z c s M H _ I h) λv s1 F=>thn F λitv s2 w=>?_)) (λ_ l hq=>v4 (v4 hq)) λ_ _ z=>z)
 obtain⟨it,f,tn,J,H2,e,I2,T,A,f2,hr⟩:=w;subst e;refine cz (Q:=λv H1=>aV i v M H1 D.nx) (RR:=λd C=>compPost (Fg X) X.A X.xe (some (assign (.Name y py) X.env)) (λ_ l=>SP X c D .next l) d C) hc j I2 T A f2 hg ht he hr λd C m l H' I' hn F w P K W q=>?_;show wpAny _ X.A (assign (.Name y py) X.env (.ref d)) _ _ _;refine wpAny_assign_Name (Ul (v:=.ref d) I' R hy (.inl O) rfl (λr E ⟨a,U,ha⟩=>?_) (.inr O));have B:C≠a:=λz=>by
  rcases ha with e|e
  .exact P (z.trans e)
  .exact K y a e z.symm
 obtain⟨o,es,Y,S,rr⟩:=id hn;refine⟨m,⟨o,es,Y,(U.2 C B).trans S,rr⟩,λh' u=>⟨_,H',E.turned (t':=r.toks) (λb o hb e=>(u.2 b hb).trans e) w P (.inr F) K W,q⟩⟩
section
variable {X:Cx}
def DK:V->Option Int->Option Int->Hp->VK->Prop:=λx a b H Q=>∃z,x=.str z/\z.length<=sizeLine/\Q (.str (Txt.slice z a b)) H
def xp:SlR X DK:=by
 intro c s y H x v B C D A w Q I r m f d h;obtain⟨z,rfl,hz,q⟩:=h;obtain⟨t,rfl⟩:=r;have b:∀{a:Value}{o:EJ},IsPart a o->∃p:Option (Int×Tok),a=partValue p/\p.map (·.1)=o:=by
  intro a o h;cases h
  .exact⟨none,rfl,rfl⟩
  .exact⟨some (_,_),rfl,rfl⟩
 obtain⟨g,rfl,rfl⟩:=b f;obtain⟨j,rfl,rfl⟩:=b d;refine⟨"str",_,F.slot_str_getitem.lookup,typeIs_str _ _ _,N5 (n:=X.m) I.tk (wpAny_getItem_str_slice (l:=g) (u:=j) (st:=none) ?_ rfl ?_)⟩
 .exact m
 .exact post_val_or_str ⟨F2 (Txt.slice_le z _ _) hz,λe k i=>⟨.str _,H,I.tok _ i,⟨e,rfl⟩,q⟩⟩
end
def Its(x:Str):It:=⟨λi _=>i<x.cps.size,λi H v a=>a=H/\∃c,x.cps[i]?=some c/\v=.str ⟨#[c]⟩,λi _=>x.cps.size<=i⟩
def rR(a:Addr)(x:Str)(i:Nat)(h:Heap):Prop:=∃t,h.IsStrIter a "str_ascii_iterator" x t i\/h.IsStrIter a "str_iterator" x t i
def mU{P:Eo}{w:Es}{K:EE}{y:Str}{N:Pos}(c:Addr)(x:Str):Turn P w K (.Name y N) (Its x) [c] c (λi h=>i<=x.cps.size/\rR c x i h)where
 mem:=by simp
 obj:=λi h st b hb=>by
  obtain rfl:b=c:=by simpa using hb
  obtain⟨_,t,⟨o,e,_,d⟩|⟨o,e,_,d⟩⟩:=st<;>exact⟨o,e,λv z=>by rw[d]at z;cases z⟩
 keep:=λi h u st k=>by
  obtain⟨J,t,⟨o,e,r⟩|⟨o,e,r⟩⟩:=st
  .exact⟨J,t,.inl ⟨o,k c (by simp) o e,r⟩⟩
  .exact⟨J,t,.inr ⟨o,k c (by simp) o e,r⟩⟩
 item:=by
  intro X hP A G D i n s L H E I hf st F;subst hP A G;have a:i<x.cps.size:=F;have g:x.cps[i]?=some x.cps[i]:=Array.getElem?_eq_getElem a;obtain⟨m,j,M,p,q,l⟩:=hf c (by simp);obtain⟨_,t,st|st⟩:=st
  .refine wpAny_pyNext_ascii_item st g λu f C=>⟨_,rfl,v4 ⟨.str ⟨#[x.cps[i]]⟩,H,I.turned (t':=s.toks+1) (λb o hb e=>(C.2 b hb).trans e) m j p q l,⟨_,rfl⟩,⟨rfl,_,g,rfl⟩,⟨a,t,.inl f⟩,λb hb=>(hf b hb).1⟩⟩
  .refine wpAny_pyNext_wide_item st g λu f C=>⟨_,rfl,v4 ⟨.str ⟨#[x.cps[i]]⟩,H,I.turned (t':=s.toks+1) (λb o hb e=>(C.2 b hb).trans e) m j p q l,⟨_,rfl⟩,⟨rfl,_,g,rfl⟩,⟨a,t,.inr f⟩,λb hb=>(hf b hb).1⟩⟩
 done:=by
  intro X hP A G D i n s L H E I hf st F;subst hP A G;have a:x.cps.size<=i:=F;have g:x.cps[i]?=none:=a2b a;obtain⟨m,j,M,p,q,l⟩:=hf c (by simp);obtain⟨_,t,st|st⟩:=st
  .exact wpAny_pyNext_ascii_end (I.ok.hd D) st g λu B=>⟨rfl,I.turned (t':=s.toks) (λb o hb e=>B b o hb e) m j p q l⟩
  .exact wpAny_pyNext_wide_end (I.ok.hd D) st g λu B=>⟨rfl,I.turned (t':=s.toks) (λb o hb e=>B b o hb e) m j p q l⟩
 self:=λ_ _ _ _ _ st h=>by
  obtain⟨_,t,st|st⟩:=st
  .exact wpAny_pyIter_striter_ascii st h
  .exact wpAny_pyIter_striter_wide st h
def DL(tl:TE):TI:=λa H R=>tl a H λx b=>∃z,x=.str z/\R (Its z) b
def xq(n:PE X l tl):PI X (.Name y py) l (DL tl):=by
 intro c s d H R I h;refine thn (n c s d H _ I h) λv a ⟨x,i,f,p,z,e,q⟩=>?_;subst e;obtain⟨t,rfl⟩:=p;have m:∀o:Obj,(∀h,h.get? a.heap.objs.size=some o->rR a.heap.objs.size z 0 h)->PIE X c d (.Name y py) R (.ref a.heap.objs.size) { a with heap:=a.heap.push o }->PIE X c d (.Name y py) R (.ref a.heap.objs.size) { a with heap:=a.heap.push o }:=λ_ _ h=>h;have mk:∀o:Obj,o.isFreed=false->(∀h:Heap,h.get? a.heap.objs.size=some o->rR a.heap.objs.size z 0 h)->PIE X c d (.Name y py) R (.ref a.heap.objs.size) { a with heap:=a.heap.push o }:=λo hf j=>by
  have r:Inv X c d i { a with heap:=a.heap.push o }:=f.kept (t':=a.toks) λb u e=>D2 _ e;refine⟨a.heap.objs.size,[a.heap.objs.size],_,Its z,i,rfl,r,mU _ z,⟨M7 _,j _ (F8 _ hf)⟩,λb hb=>?_,q⟩;obtain rfl:b=a.heap.objs.size:=by simpa using hb
  exact f.uj (D3 _) (f.hok.fresh (D3 _))
 cases g:z.cps.all (·<128)
 .exact wpAny_pyIter_wide g (mk _ rfl λh e=>⟨t,.inr ⟨_,e,rfl,rfl⟩⟩)
 .exact wpAny_pyIter_ascii g (mk _ rfl λh e=>⟨t,.inl ⟨_,e,rfl,rfl⟩⟩)
abbrev TJ:=St->Hp->Str->(Str->Hp->Prop)->Prop
section
variable {X:Cx}
def xt:R2:=λx y H Q=>∃z i,x=.str z/\y=.int i/\z.length<=16/\-2 ^ 63<=i/\i<=1048576/\Q (.str (Txt.mul z i)) H
def d6:OpR X (binaryOp .Mult) xt:=by intro a s j H x y v u Q I g c h;obtain⟨z,i,rfl,rfl,hz,f,d,q⟩:=h;obtain⟨t,rfl⟩:=g;obtain⟨b,rfl⟩:=c;exact N5 (n:=X.m) (by ac_rfl)<|PySem.W.KXi.mul rfl hz f d λb k _ _ e=>⟨.str _,H,I.tok _ e,⟨_,rfl⟩,q⟩
end
def PE1(X:Cx)(e:Eh)(t:TE):Prop:=
 ∀(a:D_)(s:Ef)(b:St)(H:Hp)(Q:VK),1<=s.toks->Inv X a b H s->t b H Q->wpAny (Fg X) X.A (eval e X.env) (EP X a b Q) X.xe s
def xu{c:Type}{t:Sem c}{Q b:c->Shared->Prop}(f:1<=s.toks)(h:wpAny M A t Q E s)(e:∀a s,1<=s.toks->Q a s->b a s):wpAny M A t b E s:=
 S0 (wpAny_toks_of f h) (λa d ⟨z,q⟩=>e a d z q) λ_ _ x=>x.2
section
variable {X:Cx}{o:Eh}{t:TS}{to:TE}
def B6(y z:Str)(to:TE):TE:=λd H Q=>to d H λx f=>∃w,x=.str w/\(y==z)=false/\w.length+(w.length+1)*z.length<=16777216/\Q (.str (Txt.replace w y z)) f
def bb(ho:PE X o to)
  (JE:attributeBase o "replace" X.env (eval o X.env)=eval o X.env:=by rfl)
  (e_:((backTo jt (starEach [.Constant (.str y) jy py,.Constant (.str z) jz pz] X.env)).all (λx=>!x.1)&&(backToKw jt (keywordEach [] X.env)).all (λx=>x.1.isSome)
   && decide (([.Constant (.str y) jy py,.Constant (.str z) jz pz]:List Expr).length+([]:List Keyword).length+(if([]:List Keyword).isEmpty then 0 else 1)<30))=true:=by rfl)
  (JD:(qH.endLine==jt.line)=true:=by rfl):
  PE1 X (.Call (.Attribute o "replace" qH) [.Constant (.str y) jy py,.Constant (.str z) jz pz] [] jt) (B6 y z to):=by
 intro pins s σ H Q hn I h;refine a19 JE e_ JD rfl (xu hn (ho pins s σ H _ I h) λv s1 hn1 ⟨x,H1,I1,r1,w,ex,hyz,hl,q1⟩=>?_);subst ex;obtain⟨h1,h2⟩:=oN (T:="str") I1 r1 rfl;refine⟨"str","str.replace",PySem.F.plainAttrs_str,PySem.F.slot_str_replace,PySem.F.type_str_replace,h1,h2,?_⟩;refine T4 rfl (a0i ?_);show wpAny _ _ (spliced ((false,eval (.Constant (.str y) jy py) X.env)::backTo jt (starEach [.Constant (.str z) jz pz] X.env))) _ _ s1;refine N6 (a1q ?_);show wpAny _ _ (spliced ((false,eval (.Constant (.str z) jz pz) X.env)::backTo jt (starEach [] X.env))) _ _ _;refine N6 (a1q (a0d ?_));obtain⟨t,rfl⟩:=r1;exact N5 (n:=X.m) (F2 I1.tk (show s1.toks<=s1.toks+1+1 by omega))<|SC.replace (show(s1.toks:Nat)≠0 by omega) (show(s1.toks+1:Nat)≠0 by omega) (show(s1.toks:Nat)≠s1.toks+1 by omega) hyz hl λt' k hn=>⟨.str _,H1,I1.tok _ hn,⟨_,rfl⟩,q1⟩
end
section
variable {X:Cx}
def xw(i j:Int):Prop:=j≠0/\j.natAbs<2 ^ 8192
def mV:OpR X (binaryOp .FloorDiv) (rI xw λi j=>.int (i.fdiv j)):=opI λ_ j _ _ _ _ _ a q=>floordiv_int a.1 q (.inl (PyProof.noPylong_of_log2 (by
 have b:j.natAbs≠0:=by have:=a.1;omega
 have:=(Nat.log2_lt b).mpr a.2;omega)))
theorem f6:∀{b:EB}{c:El},Vals (b.map V.int) c->∃a:List (Int×Tok),c=a.map (λz=>Value.int z.1 z.2)/\a.map Prod.fst=b
 |[],_,.nil=>⟨[],rfl,rfl⟩
 |n::b,_,.cons ⟨t,e⟩ r=>by subst e;obtain⟨a,rfl,rfl⟩:=f6 r;exact⟨(n,t)::a,rfl,rfl⟩
end
def xx(P:Eo)(w:Es)(K:EE)(d:Ed)(a:Heap)(A:Ey)(m:Str)(C:Addr)(sp:Sp):Prop:=
 ∃k f b c,Cls K C/\Meth K C m f/\qV P w K d a (CXe P w) k f b c sp/\vC k A/\Binds K b c []
def xy(b:Addr->Sp->Prop)(m:Str)(E:XK)(i:TE)(t:TA):TE:=λc H Q=>i c H λx e=>∃a h fs C d,b C d/\x=.ref a/\e a=some (.ins C h fs)/\fs.lookup m=none/\t c e λf g=>d (x::f) g Q E
def cB(he:PE X o ta)(hal:∀C sp,alts C sp->xx X.prog X.w X.K X.mg X.base X.A m C sp)(hx:Passes (CXe X.prog X.w) X E)(ha:PA X (e::es) t)
  (hst:starEach (e::es) X.env=(false,eval e X.env)::starEach es X.env:=by rfl) (hpl:(backTo pos (starEach es X.env)).any (·.1)=false:=by rfl)
  (ht:eval (.Call (.Attribute o m qH) (e::es) [] pos) X.env=(do
   let ov<-eval o X.env
   standAt qH.atName
   let(f,first)<-holding [ov] (getMethod ov m pl)
   callWith pos f first (backTo pos (starEach (e::es) X.env)) (backToKw pos (keywordEach [] X.env))):=by rfl):
  PE X (.Call (.Attribute o m qH) (e::es) [] pos) (xy alts m E ta t):=by
 intro pins s σ H Q I h;refine PySem.W.methodCall_KW (pl:=pl) (thn (he pins s σ H _ I h) λu s1 ⟨x,H1,I1,rx,a,dx,fs,C,sp,hin,ex,ea,l,q⟩=>?_) ht;obtain⟨k,f,fd,ps,c,hm,F,hr,hb⟩:=hal C sp hin;subst ex;obtain rfl:u=Value.ref a:=rx;refine dN I1 ea c hm l ?_;refine T5 (first:=[.ref a]) (h₀:=X.base) I.ok.mod.kin hm.kp (thn (ha pos pins s1 σ H1 _ I1 q) λus s2 ⟨vs,H2,I2,r,q2⟩=>⟨I2.kIn,?_⟩) hst hpl;exact fD (us:=.ref a::us) (vs:=.ref a::vs) (dvs:=[]) F hr hb .nil hx I2 (.cons rfl r) (by rwa [M5])
def cC{A:Ey}{xs ys:En}{us ws:El}{e:Fd}(h:Vals xs us)(d:Vals ys ws)(he:∀j x y u v,xs[j]?=some x->ys[j]?=some y->RelV x u->RelV y v->SeqAt.EqAt A s u v (e j)):
  ∀j (b:j<us.toArray.size) (a:j<ws.toArray.size),SeqAt.EqAt A s us.toArray[j] ws.toArray[j] (e j):=by
 intro j b a;rw[F0]at b a;have m:j<xs.length:=by rw[h.length];exact b
 have l:j<ys.length:=by rw[d.length];exact a
 have g:xs[j]?=some xs[j]:=E5 m;have f:ys[j]?=some ys[j]:=E5 l;obtain⟨u,o,p⟩:=h.get g;obtain⟨w,i,c⟩:=d.get f;have n:us.toArray[j]=u:=by have:=E5 b;rw[o]at this;simpa using(G4 this).symm
 have q:ws.toArray[j]=w:=by have:=E5 a;rw[i]at this;simpa using(G4 this).symm
 rw[n,q];exact he j _ _ _ _ g f p c
theorem zz.none(s:zz H H')(h:H' q=Option.none):H q=Option.none:=by
 cases e:H q with
 |none=>rfl
 |some o=>rw[s _ _ e]at h;cases h
inductive PV where
 |i (n:Int)|s (x:Str)|b (c:Bool)|n
 |l (xs:List PV)|t (xs:List PV)|d (kvs:List (Key×PV))|o (c:Nat) (fs:List (Str×PV))|x (c:Nat) (fs:List (Str×PV))|sc (ns:EB)|dt (kvs:EV)
abbrev Er:=(List (Key×PV))
abbrev Ew:=List PV
abbrev Ex:=(List (Str×PV))
abbrev EI:=Option PV
abbrev EK:=(PV->PV->Option Bool)
abbrev E_:=List (Option PV)
def dtV(kvs:EV):List (List Key×V):=kvs.map λq=>(q.1,V.int q.2)
inductive Out(α:Type)where
 |ok (a:α)|exc (c:Nat) (fs:Ex)|wall
abbrev Ep:=(List PV->Out PV)
def Out.bind{d b:Type}:Out d->(d->Out b)->Out b
 |.ok a,f=>f a
 |.exc c fs,_=>.exc c fs
 |.wall,_=>.wall
structure RC where
 K:Frag
 cls:Nat->Addr
def KL(K:EE)(a:Addr)(xs:En):Prop:=∃(o:Obj)(b:EA)(n:Nat),K.lookup a=some o/\o.cls=.type "list"/\o.dict=none/\o.data=.seq b n/\b.size<=sizeLine/\Vals xs b.toList
def bc(K:EE)(N:Ee)(H:Hp)(p:Addr)(vs:En):Prop:=(N p/\Rd H p (.lst vs))\/KL K p vs
def bc.sq{K:EE}{N:Ee}{H:Hp}{p:Addr}{vs:En}(h:bc K N H p vs):SqL K H p vs:=h.elim (λz=>.inl z.2) .inr
mutual
def Rep(W:RC)(M:Ee)(H:Hp):PV->V->Prop
 |.i n,v=>v=.int n
 |.s x,v=>v=.str x
 |.b c,v=>v=.bl c
 |.n,v=>v=.non
 |.l f,v=>∃p d,v=.ref p/\M p/\H p=some (.lst d)/\yc W M H f d
 |.t f,v=>∃p d,v=.ref p/\SqT W.K H p d/\yc W M H f d
 |.d b,v=>∃p a,v=.ref p/\M p/\Rd H p (.dK a)/\qp W M H b a
 |.sc g,v=>∃p,v=.ref p/\bc W.K M H p (g.map V.int)
 |.dt b,v=>∃p,v=.ref p/\M p/\Rd H p (.dT (dtV b))
 |.o c fs,v=>∃p e a,v=.ref p/\M p/\H p=some (.ins (W.cls c) e a)/\ju W M H fs a
 |.x c fs,v=>∃p e a,v=.ref p/\H p=some (XC p (W.cls c) e)/\H e=some (XD e a)/\ju W M H fs a
def yc(W:RC)(M:Ee)(H:Hp):List PV->List V->Prop
 |[],a=>a=[]
 |x::b,a=>∃v r,a=v::r/\Rep W M H x v/\yc W M H b r
def qp(W:RC)(M:Ee)(H:Hp):List (Key×PV)->List (Key×V)->Prop
 |[],a=>a=[]
 |b::r,a=>∃v q,a=(b.1,v)::q/\Rep W M H b.2 v/\qp W M H r q
def ju(W:RC)(M:Ee)(H:Hp):List (Str×PV)->List (Str×V)->Prop
 |[],a=>a=[]
 |b::r,a=>∃v q,a=(b.1,v)::q/\Rep W M H b.2 v/\ju W M H r q
end
def Imm:HO->Prop
 |.lst _=>False | .dK _=>False | .dT _=>False | .set _ _=>False | .ins _ _ _=>False | .tbl _=>False
 |_=>True
def Fr(M:Ee)(H H':Hp):Prop:=∀a o,H a=some o->(M a\/Imm o)->H' a=some o
def Fr.rd(f:Fr M H H')(h:Rd H p u)(m:M p):Rd H' p u:=
 h.elim (λz=>.inl (f _ _ z (.inl m))) λ⟨o,z⟩=>.inr ⟨o,f _ _ z (.inl m)⟩
def Fr.sqT{M:Ee}{K:EE}{H H':Hp}(f:Fr M H H'){p:Addr}{u:En}(h:SqT K H p u):SqT K H' p u:=
 h.elim (λh=>.inl (h.elim (λz=>.inl (f _ _ z (.inr trivial))) λ⟨o,z⟩=>.inr ⟨o,f _ _ z (.inr trivial)⟩)) .inr
def bc.frame{K:EE}{N:Ee}{H H':Hp}(f:Fr N H H'){p:Addr}{vs:En}(h:bc K N H p vs):bc K N H' p vs:=h.elim (λz=>.inl ⟨z.1,f.rd z.2 z.1⟩) .inr
def ja(h:Rd H p u):H p≠none:=by rcases h with z|⟨_,z⟩<;>rw[z]<;>intro e<;>cases e
section
variable {W:RC}{M M':Ee}{H H':Hp}
mutual
theorem Rep.gen(f:Fr M H H')(s:∀a,M a->H a≠none->M' a):∀{x:PV}{v:V},Rep W M H x v->Rep W M' H' x v
 |.i n,v,h=>h
 |.s x,v,h=>h
 |.b c,v,h=>h
 |.n,v,h=>h
 |.l l,v,h=>by unfold Rep at h ⊢;obtain⟨p,b,e,m,r,q⟩:=h;exact⟨p,b,e,s p m (by rw[r];intro e;cases e),f _ _ r (.inl m),yc.gen f s q⟩
 |.sc o,v,h=>by unfold Rep at h ⊢;obtain⟨p,e,r⟩:=h;exact⟨p,e,r.elim (λz=>.inl ⟨s p z.1 (by rcases z.2 with z|⟨_,z⟩<;>rw[z]<;>intro e<;>cases e),f.rd z.2 z.1⟩) .inr⟩
 |.dt g,v,h=>by unfold Rep at h ⊢;obtain⟨p,e,m,r⟩:=h;exact⟨p,e,s p m (ja r),f.rd r m⟩
 |.t l,v,h=>by unfold Rep at h ⊢;obtain⟨p,b,e,r,q⟩:=h;exact⟨p,b,e,f.sqT r,yc.gen f s q⟩
 |.d g,v,h=>by unfold Rep at h ⊢;obtain⟨p,b,e,m,r,q⟩:=h;exact⟨p,b,e,s p m (ja r),f.rd r m,qp.gen f s q⟩
 |.o c fs,v,h=>by unfold Rep at h ⊢;obtain⟨p,d,i,e,m,r,q⟩:=h;exact⟨p,d,i,e,s p m (by rw[r];intro e;cases e),f _ _ r (.inl m),ju.gen f s q⟩
 |.x c fs,v,h=>by unfold Rep at h ⊢;obtain⟨p,d,i,e,r,j,q⟩:=h;exact⟨p,d,i,e,f _ _ r (.inr trivial),f _ _ j (.inr trivial),ju.gen f s q⟩
theorem yc.gen(f:Fr M H H')(s:∀a,M a->H a≠none->M' a):∀{x:Ew}{v:En},yc W M H x v->yc W M' H' x v
 |[],v,h=>h
 |x::g,d,h=>by unfold yc at h ⊢;obtain⟨v,r,e,b,c⟩:=h;exact⟨v,r,e,Rep.gen f s b,yc.gen f s c⟩
theorem qp.gen(f:Fr M H H')(s:∀a,M a->H a≠none->M' a):∀{x:Er}{v:Ei},qp W M H x v->qp W M' H' x v
 |[],v,h=>h
 | (k,x)::g,d,h=>by unfold qp at h ⊢;obtain⟨v,r,e,b,c⟩:=h;exact⟨v,r,e,Rep.gen f s b,qp.gen f s c⟩
theorem ju.gen(f:Fr M H H')(s:∀a,M a->H a≠none->M' a):∀{x:Ex}{v:EF},ju W M H x v->ju W M' H' x v
 |[],v,h=>h
 | (k,x)::g,d,h=>by unfold ju at h ⊢;obtain⟨v,r,e,b,c⟩:=h;exact⟨v,r,e,Rep.gen f s b,ju.gen f s c⟩
end
end
def Fr.refl:Fr M H H:=λ_ _ h _=>h
def zz.fr(s:zz H H'):Fr M H H':=λa o h _=>s a o h
def Rep.same(h:Rep W M H x v)(s:zz H H'):Rep W M H' x v:=Rep.gen s.fr (λ_ m _=>m) h
def yc.same(h:yc W M H x v)(s:zz H H'):yc W M H' x v:=yc.gen s.fr (λ_ m _=>m) h
def qp.same(h:qp W M H x v)(s:zz H H'):qp W M H' x v:=qp.gen s.fr (λ_ m _=>m) h
def Rep.sub(h:Rep W M H x v)(s:∀a,M a->H a≠none->M' a):Rep W M' H x v:=Rep.gen Fr.refl s h
def yc.sub(h:yc W M H x v)(s:∀a,M a->H a≠none->M' a):yc W M' H x v:=yc.gen Fr.refl s h
def qp.sub(h:qp W M H x v)(s:∀a,M a->H a≠none->M' a):qp W M' H x v:=qp.gen Fr.refl s h
def ju.sub(h:ju W M H x v)(s:∀a,M a->H a≠none->M' a):ju W M' H x v:=ju.gen Fr.refl s h
def yj(W:RC)(N M:Ee)(H:Hp):PV->V->Prop
 |.l g,v=>∃p d,v=.ref p/\N p/\H p=some (.lst d)/\yc W M H g d
 |.d a,v=>∃p b,v=.ref p/\N p/\Rd H p (.dK b)/\qp W M H a b
 |.sc e,v=>∃p,v=.ref p/\bc W.K N H p (e.map V.int)
 |.dt a,v=>∃p,v=.ref p/\N p/\Rd H p (.dT (dtV a))
 |.o c fs,v=>∃p f b,v=.ref p/\N p/\H p=some (.ins (W.cls c) f b)/\ju W M H fs b
 |x,v=>Rep W M H x v
def yj.iff:yj W M M H x v↔Rep W M H x v:=by cases x<;>simp only[yj,Rep]
def yj.gen{W:RC}{N M y A:Ee}{H H':Hp}{x:PV}{v:V}(j:Fr N H H')(f:Fr M H H')(g:∀a,N a->H a≠none->y a)(s:∀a,M a->H a≠none->A a)(h:yj W N M H x v):yj W y A H' x v:=by
 cases x with
 |l E=>obtain⟨p,B,e,m,r,q⟩:=h;exact⟨p,B,e,g p m (by rw[r];intro e;cases e),j _ _ r (.inl m),q.gen f s⟩
 |d u=>obtain⟨p,w,e,m,r,q⟩:=h;exact⟨p,w,e,g p m (ja r),j.rd r m,q.gen f s⟩
 |sc D=>obtain⟨p,e,r⟩:=h;exact⟨p,e,r.elim (λz=>.inl ⟨g p z.1 (ja z.2),j.rd z.2 z.1⟩) .inr⟩
 |dt u=>obtain⟨p,e,m,r⟩:=h;exact⟨p,e,g p m (ja r),j.rd r m⟩
 |o c fs=>obtain⟨p,C,w,e,m,r,q⟩:=h;exact⟨p,C,w,e,g p m (by rw[r];intro e;cases e),j _ _ r (.inl m),q.gen f s⟩
 |i n=>exact Rep.gen f s h
 |s n=>exact Rep.gen f s h
 |b n=>exact Rep.gen f s h
 |n=>exact Rep.gen f s h
 |t n=>exact Rep.gen f s h
 |x c n=>exact Rep.gen f s h
def yj.same(h:yj W N M H x v)(s:zz H H'):yj W N M H' x v:=yj.gen s.fr s.fr (λ_ m _=>m) (λ_ m _=>m) h
def yj.sub(h:yj W N M H x v)(b:∀a,N a->H a≠none->N' a)(s:∀a,M a->H a≠none->M' a):yj W N' M' H x v:=yj.gen Fr.refl Fr.refl b s h
def Rep.weak(h:Rep W M H x v):yj W (λ_=>True) M H x v:=yj.sub (yj.iff.mpr h) (λ_ _ _=>trivial) (λ_ m _=>m)
def K0(W:RC)(M:Ee)(H:Hp)(p:Addr):PV->Prop
 |.l f=>∃d,H p=some (.lst d)/\yc W M H f d
 |.d a=>∃b,H p=some (.dK b)/\qp W M H a b
 |.dt a=>H p=some (.dT (dtV a))
 |.o c fs=>∃e b,H p=some (.ins (W.cls c) e b)/\ju W M H fs b
 |_=>False
def K0.Bc(h:K0 W M H p x)(n:N p):yj W N M H x (.ref p):=by
 cases x with
 |l m=>obtain⟨g,e,q⟩:=h;exact⟨p,g,rfl,n,e,q⟩
 |d f=>obtain⟨a,e,q⟩:=h;exact⟨p,a,rfl,n,.inl e,q⟩
 |dt f=>exact⟨p,rfl,n,.inl h⟩
 |o c fs=>obtain⟨j,a,e,q⟩:=h;exact⟨p,j,a,rfl,n,e,q⟩
 |i n=>exact h.elim
 |s n=>exact h.elim
 |b n=>exact h.elim
 |n=>exact h.elim
 |t n=>exact h.elim
 |x c n=>exact h.elim
 |sc n=>exact h.elim
def K0.gen(h:K0 W M H p x)(hp:H' p=H p)(f:Fr M H H')(s:∀a,M a->H a≠none->M' a):K0 W M' H' p x:=by
 cases x with
 |l u=>obtain⟨m,e,q⟩:=h;exact⟨m,hp.trans e,q.gen f s⟩
 |d j=>obtain⟨g,e,q⟩:=h;exact⟨g,hp.trans e,q.gen f s⟩
 |dt j=>exact hp.trans h
 |o c fs=>obtain⟨r,g,e,q⟩:=h;exact⟨r,g,hp.trans e,q.gen f s⟩
 |i n=>exact h.elim
 |s n=>exact h.elim
 |b n=>exact h.elim
 |n=>exact h.elim
 |t n=>exact h.elim
 |x c n=>exact h.elim
 |sc n=>exact h.elim
theorem K0.some{W:RC}{M:Ee}{H:Hp}{p:Addr}{x:PV}(h:K0 W M H p x):∃o,H p=some o/\¬Imm o:=by
 cases x with
 |l m=>obtain⟨g,e,q⟩:=h;exact⟨_,e,id⟩
 |d a=>obtain⟨f,e,q⟩:=h;exact⟨_,e,id⟩
 |dt a=>exact⟨_,h,id⟩
 |o c fs=>obtain⟨j,f,e,q⟩:=h;exact⟨_,e,id⟩
 |i n=>exact h.elim
 |s n=>exact h.elim
 |b n=>exact h.elim
 |n=>exact h.elim
 |t n=>exact h.elim
 |x c n=>exact h.elim
 |sc n=>exact h.elim
def K0.same(h:K0 W M H p x)(s:zz H H'):K0 W M H' p x:=by obtain⟨o,e,_⟩:=h.some;exact h.gen ((s _ _ e).trans e.symm) s.fr λ_ m _=>m
structure Bs where
 H0:Hp
 M0:Addr->Prop
 N0:Addr->Prop
 nz:∀a,N0 a->H0 a≠none
 pin:Option Addr
 xc:Addr->Prop
structure LC where
 W:RC
 E:XK
 fr:Bool
abbrev Sto:=List (Option PV)
def Bs.Mt(B:Bs):Addr->Prop:=λa=>B.M0 a\/B.H0 a=none
def Mof(B:Bs)(S:Eb)(P:Em):Addr->Prop:=λa=>(B.Mt a/\¬B.xc a)/\∀i,S[i]?=some 2->P i≠a
structure Rel(W:RC)(B:Bs)(S:Eb)(P:Em)(H:Hp)(σ:St)(ρ:Sto):Prop where
 same:zz B.H0 H
 len:σ.length=ρ.length
 var:∀(i:Nat) x,ρ[i]?=some (some x)->∃v,σ[i]?=some (some v)/\(S[i]?=some 2->v=.ref (P i)/\K0 W (Mof B S P) H (P i) x)/\(S[i]?=some 1->yj W B.N0 (Mof B S P) H x v)/\(S[i]?≠some 2->S[i]?≠some 1->Rep W (Mof B S P) H x v)
 act:∀i,S[i]?=some 2->B.H0 (P i)=none/\∃o,H (P i)=some o/\¬Imm o
 inj:∀i j,S[i]?=some 2->S[j]?=some 2->P i=P j->i=j
 pin:S[0]?=some 2->∀p,B.pin=some p->P 0=p
 exc:∀a,B.xc a->∃o,H a=some o/\¬Imm o/\B.H0 a=none
 axc:∀i,S[i]?=some 2->¬B.xc (P i)
def Rel.keep{W:RC}{B:Bs}{S:Eb}{P:Em}{H H':Hp}{b:St}{ρ:Sto}(R:Rel W B S P H b ρ)(s:zz H H'):Rel W B S P H' b ρ where
 same:=R.same.trans s
 len:=R.len
 var:=λi x e=>by obtain⟨v,d,c,g,j⟩:=R.var i x e;exact⟨v,d,λz=>⟨(c z).1,(c z).2.same s⟩,λz=>(g z).same s,λz f=>(j z f).same s⟩
 act:=λi h=>⟨(R.act i h).1,let⟨o,e,n⟩:=(R.act i h).2;⟨o,s _ _ e,n⟩⟩
 inj:=R.inj
 pin:=R.pin
 exc:=λa h=>let⟨o,e,n⟩:=R.exc a h;⟨o,s _ _ e,n⟩
 axc:=R.axc
def Rel.wr(R:Rel W B S P H σ ρ)(c:S[i]?=some 2)(D:i<ρ.length)(f:σ[i]?=some (some (.ref (P i))))(w:¬Imm o)(G:K0 W (Mof B S P) (upd H (P i) o) (P i) x'):Rel W B S P (upd H (P i) o) σ (ρ.set i (some x')):=by
 obtain⟨n,K,s,r⟩:=R.act i c;have l:Fr (Mof B S P) H (upd H (P i) o):=λa q e m=>by
  have:a≠P i:=λz=>by
   rcases m with m|m
   .exact m.2 i c z.symm
   .rw[z,s]at e;cases e;exact r m
  rw[zm this];exact e
 have A:Fr B.N0 H (upd H (P i) o):=λa q e m=>by
  have:a≠P i:=λz=>by
   rcases m with m|m
   .exact B.nz a m (z▸n)
   .rw[z,s]at e;cases e;exact r m
  rw[zm this];exact e
 refine⟨λa q e=>?_,by rw[M3];exact R.len,λj x e=>?_,λj y=>?_,R.inj,R.pin,λa h=>?_,R.axc⟩
 .have:a≠P i:=λz=>by rw[z,n]at e;cases e
  rw[zm this];exact R.same a q e
 .by_cases b:i=j
  .subst b;rw[L4 D]at e;cases e;exact⟨_,f,λ_=>⟨rfl,G⟩,(λz=>by rw[c]at z;cases z),λz=>absurd c z⟩
  .rw[G6 b]at e;obtain⟨v,F,u,I,C⟩:=R.var j x e;refine⟨v,F,λz=>⟨(u z).1,?_⟩,λz=>yj.gen A l (λ_ m _=>m) (λ_ m _=>m) (I z),λz E=>Rep.gen l (λ_ m _=>m) (C z E)⟩;have:P j≠P i:=λq=>b (R.inj i j c z q.symm);exact(u z).2.gen (zm this) l λ_ m _=>m
 .by_cases b:j=i
  .subst b;exact⟨n,o,zi,w⟩
  .obtain⟨J,p,g,d⟩:=R.act j y;have:P j≠P i:=λq=>b (R.inj j i y c q);exact⟨J,p,by rw[zm this];exact g,d⟩
 .obtain⟨p,g,d⟩:=R.exc a h;by_cases e:a=P i
  .subst e;exact⟨o,zi,w,d.2⟩
  .exact⟨p,by rw[zm e];exact g,d⟩
def y4{S:Eb}{i j c:Nat}(h:(S.set i 0)[j]?=some 2):S[j]?=some 2/\j≠i:=by
 by_cases e:i=j
 .subst e;rw[List.getElem?_set]at h;rw[if_pos rfl]at h;split at h<;>cases h
 .rw[G6 e]at h;exact⟨h,λz=>e z.symm⟩
def Rel.set(R:Rel W B S P H σ ρ)(l:Rep W (Mof B S P) H x v):Rel W B (S.set i 0) P H (σ.set i (some v)) (ρ.set i (some x)):=by
 have sM:∀a,Mof B S P a->H a≠none->Mof B (S.set i 0) P a:=λa m _=>⟨m.1,λj d=>m.2 j (y4 (c:=0) d).1⟩;refine⟨R.same,by rw[M3,M3];exact R.len,λj y e=>?_,λj d=>R.act j (y4 (c:=0) d).1,λj k d p=>R.inj j k (y4 (c:=0) d).1 (y4 (c:=0) p).1,λo=>R.pin (y4 (c:=0) o).1,R.exc,λj d=>R.axc j (y4 (c:=0) d).1⟩;by_cases b:i=j
 .subst b;have g:i<ρ.length:=by
   have:=(F3.mp e).1
   rwa [M3]at this
  rw[L4 g]at e;cases e;refine⟨v,by rw[L4 (by rw[R.len];exact g)],λz=>absurd rfl (y4 (c:=0) z).2,λz=>?_,λ_ _=>l.sub sM⟩;rw[List.getElem?_set,if_pos rfl]at z;split at z<;>cases z
 .rw[G6 b]at e;obtain⟨w,h,f,q,r⟩:=R.var j y e;rw[G6 b,G6 b];exact⟨w,h,λz=>⟨(f z).1,(f z).2.gen rfl Fr.refl sM⟩,λz=>(q z).sub (λ_ m _=>m) sM,λz n=>(r z n).sub sM⟩
def Rel.DM(R:Rel W B S P H σ ρ)(s:zz H H')(hp:H p=none)(J:i<S.length)(r:i≠0)(D:K0 W (λa=>Mof B S P a/\a≠p) H' p x):Rel W B (S.set i 2) (λj=>if j=i then p else P j) H' (σ.set i (some (.ref p))) (ρ.set i (some x)):=by
 have L:B.H0 p=none:=zz.none R.same hp;have g:∀{j},(S.set i 2)[j]?=some 2->j≠i->S[j]?=some 2:=λ{j} h n=>by rwa [G6 (λz=>n z.symm)]at h
 have sM:∀a,Mof B S P a->a≠p->Mof B (S.set i 2) (λj=>if j=i then p else P j) a:=λa m v=>⟨m.1,λj d=>by
  by_cases e:j=i
  .simp only[e,if_true];exact λz=>v z.symm
  .simp only[e,if_false];exact m.2 j (g d e)⟩
 have l:∀a,Mof B S P a->H a≠none->Mof B (S.set i 2) (λj=>if j=i then p else P j) a:=λa m v=>sM a m λz=>v (z▸hp);have F:∀{j},S[j]?=some 2->P j≠p:=λ{j} d z=>by obtain⟨_,o,e,_⟩:=R.act j d;rw[z,hp]at e;cases e
 refine⟨R.same.trans s,by rw[M3,M3];exact R.len,λj y e=>?_,λj d=>?_,λj k d C e=>?_,λE q K=>?_,λa h=>let⟨o,e,n⟩:=R.exc a h;⟨o,s _ _ e,n⟩,λj d=>?_⟩
 .by_cases b:i=j
  .subst b;have A:i<ρ.length:=by
    have:=(F3.mp e).1
    rwa [M3]at this
   rw[L4 A]at e;cases e;rw[L4 (by rw[R.len];exact A),L4 J];refine⟨.ref p,rfl,λ_=>⟨by simp,?_⟩,(λz=>by cases z),λz=>absurd rfl z⟩;simp only[if_true];exact D.gen rfl Fr.refl λa m _=>sM a m.1 m.2
  .rw[G6 b]at e;obtain⟨w,f,c,M,G⟩:=R.var j y e;rw[G6 b,G6 b];have u:¬j=i:=λz=>b z.symm;simp only[u,if_false];exact⟨w,f,λz=>⟨(c z).1,((c z).2.gen (H':=H) rfl Fr.refl l).same s⟩,λz=>((M z).sub (λ_ m _=>m) l).same s,λz I=>((G z I).sub l).same s⟩
 .by_cases b:j=i
  .subst b;simp only[if_true];exact⟨L,D.some⟩
  .simp only[b,if_false];obtain⟨N,o,e,n⟩:=R.act j (g d b);exact⟨N,o,s _ _ e,n⟩
 .by_cases f:j=i
  .by_cases c:k=i
   .rw[f,c]
   .simp only[f,c,if_true,if_false]at e;exact absurd e.symm (F (g C c))
  .by_cases c:k=i
   .simp only[f,c,if_true,if_false]at e;exact absurd e (F (g d f))
   .simp only[f,c,if_false]at e;exact R.inj j k (g d f) (g C c) e
 .rw[G6 r]at E;rw[if_neg (λz=>r z.symm)];exact R.pin E q K
 .by_cases e:j=i
  .rw[if_pos e];exact λz=>by obtain⟨o,q,_⟩:=R.exc p z;rw[hp]at q;cases q
  .rw[if_neg e];exact R.axc j (g d e)
def Rel.freeze(R:Rel W B S P H σ ρ)(d:S[i]?=some 2):Rel W B (S.set i 0) P H σ ρ:=by
 have sM:∀a,Mof B S P a->H a≠none->Mof B (S.set i 0) P a:=λa m _=>⟨m.1,λj b=>m.2 j (y4 (c:=0) b).1⟩;refine⟨R.same,R.len,λj y e=>?_,λj b=>R.act j (y4 (c:=0) b).1,λj k b p=>R.inj j k (y4 (c:=0) b).1 (y4 (c:=0) p).1,λr=>R.pin (y4 (c:=0) r).1,R.exc,λj b=>R.axc j (y4 (c:=0) b).1⟩;obtain⟨w,h,g,u,l⟩:=R.var j y e;by_cases f:i=j
 .subst f;obtain⟨rfl,s⟩:=g d;have n:i<S.length:=(F3.mp d).1;rw[L4 n];refine⟨_,h,(λz=>by cases z),(λz=>by cases z),λ_ _=>yj.iff.mp ((s.gen (H':=H) rfl Fr.refl sM).Bc ⟨⟨.inr (R.act i d).1,λz=>?_⟩,λj b e=>?_⟩)⟩
  .exact R.axc i d z
  obtain⟨q,v⟩:=y4 (c:=0) b;exact v (R.inj j i q d e)
 .rw[G6 f];exact⟨w,h,λz=>⟨(g z).1,(g z).2.gen rfl Fr.refl sM⟩,λz=>(u z).sub (λ_ m _=>m) sM,λz o=>(l z o).sub sM⟩
def Rel.wrx(R:Rel W B S P H σ ρ)(l:B.xc a)(D:¬Imm o):Rel W B S P (upd H a o) σ ρ:=by
 obtain⟨J,s,p,g⟩:=R.exc a l;have f:Fr (Mof B S P) H (upd H a o):=λc q e m=>by
  have:c≠a:=λz=>by
   rcases m with m|m
   .exact m.1.2 (z▸l)
   .rw[z,s]at e;cases e;exact p m
  rw[zm this];exact e
 have I:Fr B.N0 H (upd H a o):=λc q e m=>by
  have:c≠a:=λz=>by
   rcases m with m|m
   .exact B.nz c m (z▸g)
   .rw[z,s]at e;cases e;exact p m
  rw[zm this];exact e
 have r:∀{i},S[i]?=some 2->P i≠a:=λ{i} C z=>R.axc i C (z▸l);refine⟨λc q e=>?_,R.len,λj x e=>?_,λj w=>?_,R.inj,R.pin,λc h=>?_,R.axc⟩
 .have:c≠a:=λz=>by rw[z,g]at e;cases e
  rw[zm this];exact R.same c q e
 .obtain⟨v,F,u,G,y⟩:=R.var j x e;exact⟨v,F,λz=>⟨(u z).1,(u z).2.gen (zm (r z)) f λ_ m _=>m⟩,λz=>yj.gen I f (λ_ m _=>m) (λ_ m _=>m) (G z),λz A=>Rep.gen f (λ_ m _=>m) (y z A)⟩
 .obtain⟨E,n,b,d⟩:=R.act j w;exact⟨E,n,by rw[zm (r w)];exact b,d⟩
 .by_cases e:c=a
  .subst e;exact⟨o,zi,D,g⟩
  .obtain⟨n,b,d⟩:=R.exc c h;exact⟨n,by rw[zm e];exact b,d⟩
abbrev ME:=Sto->Out PV
abbrev MT:=Sto->Out Bool
abbrev MA:=Sto->Out (List PV)
inductive Fw where
 |nx (ρ:Sto)|rt (x:PV)|bk (ρ:Sto)|ct (ρ:Sto)
abbrev MS:=Sto->Out Fw
def XPo(C:LC)(B:Bs)(c:Nat)(fs:Ex):Prop:=∀e b d a,zz B.H0 a->a e=some (XC e (C.W.cls c) b)->a b=some (XD b d)->ju C.W B.Mt a fs d->C.E (.ref e) (some b) a
def zK(C:LC)(B:Bs)(H:Hp)(R:Hp->PV->V->Prop)(Q:VK):Out PV->Prop
 |.ok r=>∀v a,zz H a->R a r v->Q v a
 |.exc c fs=>XPo C B c fs
 |.wall=>False
def Xq(C:LC)(B:Bs)(H:Hp)(Q:Bool->Hp->Prop):Out Bool->Prop
 |.ok r=>∀a,zz H a->Q r a
 |.exc c fs=>XPo C B c fs
 |.wall=>False
def RV(C:LC)(B:Bs)(S:Eb)(P:Em)(w:Bool)(H:Hp)(x:PV)(v:V):Prop:=yj C.W (if w=true then λ_=>True else Mof B S P) (Mof B S P) H x v
def RV.rep(h:RV C B S P false H x v):Rep C.W (Mof B S P) H x v:=yj.iff.mp h
def RV.of(h:Rep C.W (Mof B S P) H x v):RV C B S P false H x v:=yj.iff.mpr h
def RV.weak(h:RV C B S P w H x v):yj C.W (λ_=>True) (Mof B S P) H x v:=yj.sub h (λ_ _ _=>trivial) λ_ m _=>m
def RV.same(h:RV C B S P w H x v)(s:zz H H'):RV C B S P w H' x v:=yj.same h s
def LE(C:LC)(S:Eb)(w:Bool)(c:TE)(m:ME):Prop:=∀B P H a b,Rel C.W B S P H a b->∀Q,zK C B H (RV C B S P w) Q (m b)->c a H Q
def LT(C:LC)(S:Eb)(c:TT)(m:MT):Prop:=∀B P H a b,Rel C.W B S P H a b->∀Q,Xq C B H Q (m b)->c a H Q
def EM(X:Cx)(C:LC)(S:Eb)(w:Bool)(e:Eh)(m:ME):Prop:=X.K=C.W.K->∃a,PE X e a/\LE C S w a m
def TM(X:Cx)(C:LC)(S:Eb)(e:Eh)(m:MT):Prop:=X.K=C.W.K->∃a,PT X e a/\LT C S a m
def TWM(X:Cx)(C:LC)(S:Eb)(e:Eh)(m:MT):Prop:=X.K=C.W.K->∃a,PW X e a/\LT C S a m
def zK.bind(h:zK C B H R Q (o.bind f))(k:∀r,o=.ok r->∀v a,zz H a->R0 a r v->zK C B a R Q (f r)->Q' v a)(i:∀a,zz H a->∀x v,R a x v->R a x v):zK C B H R0 Q' o:=by
 cases o with
 |ok r=>exact λv a s e=>k r rfl v a s e (by
   show zK C B a R Q (f r);have h:zK C B H R Q (f r):=h;revert h;cases f r with
   |ok x=>exact λh v g b d=>h v g (s.trans b) d
   |exc c fs=>exact id
   |wall=>exact id)
 |exc c fs=>exact h
 |wall=>exact h
def zI(h:zK C B H R Q (o.bind f))(k:∀r v a,zz H a->R0 a r v->zK C B a R Q (f r)->Q' v a):zK C B H R0 Q' o:=
 zK.bind h (λr _ v a s b hp=>k r v a s b hp) λ_ _ _ _ h=>h
def jx(h:zK C B H R Q o)(s:zz H H2):zK C B H2 R Q o:=by
 cases o with
 |ok x=>exact λv d a b=>h v d (s.trans a) b
 |exc c fs=>exact h
 |wall=>exact h
def K1(h:Xq C B H Q o)(s:zz H H2):Xq C B H2 Q o:=by
 cases o with
 |ok x=>exact λb a=>h b (s.trans a)
 |exc c fs=>exact h
 |wall=>exact h
def d7(h:Xq C B H Q (o.bind f))(k:∀r v a,zz H a->R0 a r v->Xq C B a Q (f r)->Q' v a):zK C B H R0 Q' o:=by
 cases o with
 |ok r=>exact λv a s b=>k r v a s b (K1 (o:=f r) h s)
 |exc c fs=>exact h
 |wall=>exact h
def Qb(h:Xq C B H Q (o.bind f))(k:∀r a,zz H a->Xq C B a Q (f r)->Q' r a):Xq C B H Q' o:=by
 cases o with
 |ok r=>exact λa s=>k r a s (K1 (o:=f r) h s)
 |exc c fs=>exact h
 |wall=>exact h
def bf(h:zK C B H R Q (o.bind f))(k:∀r a,zz H a->zK C B a R Q (f r)->Q' r a):Xq C B H Q' o:=by
 cases o with
 |ok r=>exact λa s=>k r a s (jx (o:=f r) h s)
 |exc c fs=>exact h
 |wall=>exact h
def zc(i:Nat):ME:=λa=>match a[i]? with|some (some x)=>.ok x|_=>.wall
def mC(x:PV):ME:=λ_=>.ok x
section
variable {X:Cx}{C:LC}{S:Eb}{e a b:Eh}{w w1 w2:Bool}{m m1 m2:ME}
def EM.weak(h:EM X C S w e m):EM X C S true e m:=λo=>by
 obtain⟨n,i,j⟩:=h o;refine⟨n,i,λB P H g d R Q q=>j B P H g d R Q ?_⟩;revert q;cases m d with
 |ok r=>exact λq v f s l=>q v f s (by unfold RV;rw[if_pos rfl];exact l.weak)
 |exc c fs=>exact id
 |wall=>exact id
def lv(R:Rel C.W B S P H σ ρ)(q:zK C B H R' Q (zc i ρ))(k:∀x v,σ[i]?=some (some v)->ρ[i]?=some (some x)->R' H x v):aU i σ H Q:=by
 unfold zc at q;cases e:ρ[i]? with
 |none=>rw[e]at q;exact q.elim
 |some o=>
  cases o with
  |none=>rw[e]at q;exact q.elim
  |some x=>rw[e]at q;obtain⟨v,c,_⟩:=R.var i x e;exact⟨v,c,q v H (zz.refl _) (k x v c e)⟩
def zq(h:PE X e (aU i))(d:S[i]?≠some 2/\S[i]?≠some 1:=by decide):EM X C S false e (zc i):=λ_=>⟨_,h,λB P H j l R Q q=>lv R q λx v f e=>by
 obtain⟨n,c,_,_,g⟩:=R.var i x e;rw[f]at c;cases c;exact RV.of (g d.1 d.2)⟩
def xA(h:PE X e (aU i)):EM X C S true e (zc i):=λ_=>⟨_,h,λB P H o p R Q q=>lv R q λx v j e=>by
 obtain⟨r,c,l,n,g⟩:=R.var i x e;rw[j]at c;cases c;show yj C.W (if true=true then _ else _) _ _ _ _;rw[if_pos rfl];by_cases d:S[i]?=some 2
 .obtain⟨rfl,z⟩:=l d;exact z.Bc trivial
 .by_cases f:S[i]?=some 1
  .exact(n f).sub (λ_ _ _=>trivial) λ_ m _=>m
  .exact(g d f).weak⟩
def Bd(h:PE X e (tC v))(c:∀M H,Rep C.W M H x v):EM X C S false e (mC x):=λ_=>⟨_,h,λB P H d f R Q q=>q v H (zz.refl _) (RV.of (c _ _))⟩
def UL(h:PE X e (tC (.int i))):EM X C S false e (mC (.i i)):=Bd h λ_ _=>rfl
def Yx(h:PE X e (tC (.str i))):EM X C S false e (mC (.s i)):=Bd h λ_ _=>rfl
def vf(h:PE X e (tC (.bl i))):EM X C S false e (mC (.b i)):=Bd h λ_ _=>rfl
def vi(h:PE X e (tC .non)):EM X C S false e (mC .n):=Bd h λ_ _=>rfl
def mOp(p:PV->PV->Out PV)(m1 m2:ME):ME:=λc=>(m1 c).bind λx=>(m2 c).bind λy=>p x y
def mUn(p:PV->Out PV)(m1:ME):ME:=λc=>(m1 c).bind p
def New(M:Ee)(H:Hp):Prop:=∀p,H p=none->M p
def Rel.new(R:Rel W B S P H σ ρ):New (Mof B S P) H:=λp h=>⟨⟨.inr (zz.none R.same h),λz=>by obtain⟨o,q,_⟩:=R.exc p z;rw[h]at q;cases q⟩,λi c e=>by obtain⟨_,o,q,_⟩:=R.act i c;rw[e,h]at q;cases q⟩
def RV.eq:RV C B S P false=Rep C.W (Mof B S P):=by
 funext H x v;exact propext yj.iff
def Lf2(W:RC)(r:R2)(p:PV->PV->Out PV):Prop:=∀(M:Ee)(C:LC)(B:Bs) H x y v u Q,New M H->yj W (λ_=>True) M H x v->yj W (λ_=>True) M H y u->zK C B H (Rep W M) Q (p x y)->r v u H Q
def Lf1(W:RC)(r:V->Hp->VK->Prop)(p:PV->Out PV):Prop:=∀(M:Ee)(C:LC)(B:Bs) H x v Q,New M H->yj W (λ_=>True) M H x v->zK C B H (Rep W M) Q (p x)->r v H Q
def f7(L:Lf2 C.W r p)(s:LE C S w1 ta m1)(j:LE C S w2 tb m2):LE C S false (tOp r ta tb) (mOp p m1 m2):=λB P H c d R Q q=>
 s B P H c d R _ (zI q λx v l f n o=>j B P l c d (R.keep f) _ (zI o λy u g s2 h i=>L _ C B g x y v u Q ((R.keep f).keep s2).new (n.same s2).weak h.weak (RV.eq▸i)))
def zT(o:OpR X (binaryOp op) r)(L:Lf2 C.W r p)(g:EM X C S w1 a m1)(h:EM X C S w2 b m2):EM X C S false (.BinOp a op b pos) (mOp p m1 m2):=λc=>by obtain⟨n,i,j⟩:=g c;obtain⟨l,d,f⟩:=h c;exact⟨_,BE o i d,f7 L j f⟩
def Xr(o:UnR X (unaryOp op) r)(L:Lf1 C.W r p)(j:EM X C S w1 a m1):EM X C S false (.UnaryOp op a pos) (mUn p m1):=λi=>by obtain⟨u,l,f⟩:=j i;exact⟨_,BF o l,λB P H c d R Q q=>f B P H c d R _ (zI q λx v s n g h=>L _ C B s x v Q (R.keep n).new g.weak (RV.eq▸h))⟩
def UM(o:OpR X (compareOp op) r)(L:Lf2 C.W r p)(g:EM X C S w1 a m1)(h:EM X C S w2 b m2)(i:behindInMarks op b=false):EM X C S false (.Compare a [op] [b] pos) (mOp p m1 m2):=λc=>by obtain⟨q,j,l⟩:=g c;obtain⟨n,d,f⟩:=h c;exact⟨_,aX o j d i,f7 L l f⟩
def asB:PV->Out Bool
 |.b c=>.ok c
 |_=>.wall
def zB(m:ME):MT:=λc=>(m c).bind asB
def K2(h:LE C S w te m):LT C S (uS te) (zB m):=λB P H f g R Q q=>
 h B P H f g R _ (d7 q λx v j l i d=>by
  cases x with
  |b c=>exact⟨c,(show v=.bl c from i),d j (zz.refl _)⟩
  |_=>exact d.elim)
def yX(o:OpR X (compareOp op) r)(L:Lf2 C.W r p)(g:EM X C S w1 a m1)(h:EM X C S w2 b m2)(i:behindInMarks op b=false):TM X C S (.Compare a [op] [b] pos) (zB (mOp p m1 m2)):=λc=>by obtain⟨q,j,l⟩:=g c;obtain⟨n,d,f⟩:=h c;exact⟨_,Xk o j d i,K2 (f7 L l f)⟩
end
def pI(g:Int->Int->PV):PV->PV->Out PV
 |.i a,.i b=>.ok (g a b)
 |_,_=>.wall
def pU(g:Int->PV):PV->Out PV
 |.i a=>.ok (g a)
 |_=>.wall
def B7(e:∀a b M H,Rep W M H (g a b) (gv a b)):Lf2 W (rI0 gv) (pI g):=λM C B H x y v u Q f c d q=>by
 cases x with
 |i a=>
  cases y with
  |i b=>exact⟨a,b,c,d,q _ H (zz.refl _) (e a b _ _)⟩
  |_=>exact q.elim
 |_=>exact q.elim
def DN(c:∀a M H,Rep W M H (g a) (gv a)):Lf1 W (rU gv) (pU g):=λM C B H x v Q d b q=>by
 cases x with
 |i a=>exact⟨a,b,q _ H (zz.refl _) (c a _ _)⟩
 |_=>exact q.elim
abbrev cD:=pI λa b=>.i (a-b)
abbrev pLt:=pI λa b=>.b (decide (a<b))
abbrev pGt:=pI λa b=>.b (decide (b<a))
abbrev d8:=pU λa=>.i (-a)
def WX:Lf2 W (rI0 λi j=>.int (i-j)) cD:=B7 λ_ _ _ _=>rfl
def QA:Lf1 W (rU λi=>.int (-i)) d8:=DN λ_ _ _=>rfl
section
variable {W:RC}{M:Ee}{H:Hp}
def yc.nil:yc W M H [] []:=rfl
def yc.cons(h:Rep W M H x v)(t:yc W M H xs vs):yc W M H (x::xs) (v::vs):=⟨v,vs,rfl,h,t⟩
def yc.len:∀{a:Ew}{b:En},yc W M H a b->b.length=a.length
 |[],_,h=>by cases(show _=_ from h);rfl
 |x::a,_,h=>by obtain⟨v,r,rfl,_,c⟩:=h;rw[D4,D4,yc.len c]
def yc.get:∀{a:Ew}{b:En}{i:Nat}{x:PV},yc W M H a b->a[i]?=some x->∃v,b[i]?=some v/\Rep W M H x v
 |[],_,_,_,_,e=>by simp at e
 |x::a,_,0,y,h,e=>by obtain⟨v,r,rfl,c,d⟩:=h;simp at e;subst e;exact⟨v,rfl,c⟩
 |x::a,_,i+1,y,h,e=>by obtain⟨v,r,rfl,c,d⟩:=h;simp only[List.getElem?_cons_succ]at e ⊢;exact yc.get d e
def yc.rS:∀{a:Ew}{b:En}{i:Nat}{v:V},yc W M H a b->b[i]?=some v->∃x,a[i]?=some x/\Rep W M H x v
 |[],_,_,_,h,e=>by cases(show _=_ from h);simp at e
 |x::a,_,0,y,h,e=>by obtain⟨v,r,rfl,c,d⟩:=h;simp at e;subst e;exact⟨x,rfl,c⟩
 |x::a,_,i+1,y,h,e=>by obtain⟨v,r,rfl,c,d⟩:=h;simp only[List.getElem?_cons_succ]at e ⊢;exact yc.rS d e
def yc.append:∀{a c:Ew}{b d:En},yc W M H a b->yc W M H c d->yc W M H (a++c) (b++d)
 |[],_,_,_,h,k=>by cases(show _=_ from h);exact k
 |x::a,_,_,_,h,k=>by obtain⟨v,r,rfl,e,f⟩:=h;exact⟨v,_,rfl,e,yc.append f k⟩
def yc.take:∀{a:Ew}{b:En}(n:Nat),yc W M H a b->yc W M H (a.take n) (b.take n)
 |[],_,_,h=>by cases(show _=_ from h);simp;exact yc.nil
 |x::a,_,0,h=>yc.nil
 |x::a,_,n+1,h=>by obtain⟨v,r,rfl,c,d⟩:=h;exact⟨v,_,rfl,c,yc.take n d⟩
def yc.drop:∀{a:Ew}{b:En}(n:Nat),yc W M H a b->yc W M H (a.drop n) (b.drop n)
 |[],_,_,h=>by cases(show _=_ from h);simp;exact yc.nil
 |x::a,_,0,h=>h
 |x::a,_,n+1,h=>by obtain⟨v,r,rfl,d,c⟩:=h;exact yc.drop n c
def yc.ints:∀{a:EB},yc W M H (a.map PV.i) (a.map V.int)
 |[]=>rfl
 |n::a=>⟨_,_,rfl,rfl,yc.ints⟩
theorem yc.at(h:yc W M H xs vs)(e:atI xs i=some x):∃v,atI vs i=some v/\Rep W M H x v:=by
 unfold atI at e ⊢;rw[h.len];cases q:ixN xs.length i with
 |none=>rw[q]at e;cases e
 |some j=>rw[q]at e;exact h.get e
def yc.cut{xs:Ew}{vs:En}{a b:EJ}(h:yc W M H xs vs):yc W M H ((xs.drop (HT.sIx xs.length 0 a)).take (HT.sIx xs.length xs.length b-HT.sIx xs.length 0 a)) (lN vs a b):=by unfold lN;rw[h.len];exact(h.drop _).take _
def qp.iff:∀{c:Er}{b:Ei},qp W M H c b↔b.map (·.1)=c.map (·.1)/\yc W M H (c.map (·.2)) (b.map (·.2))
 |[],b=>⟨λh=>by cases(show _=_ from h);exact⟨rfl,rfl⟩,λh=>by cases b with|nil=>rfl|cons a r=>cases h.1⟩
 |i::r,b=>by
  constructor
  .rintro ⟨v,q,rfl,f,g⟩
   obtain⟨e,t⟩:=qp.iff.mp g;exact⟨by simp only[List.map_cons,e],v,_,rfl,f,t⟩
  .rintro ⟨e,v,q,d,f,g⟩
   cases b with
   |nil=>cases d
   |cons a b=>simp only[List.map_cons,List.cons.injEq]at e d;refine⟨a.2,b,by rw[<- e.1],by rw[d.1];exact f,qp.iff.mpr ⟨e.2,by rw[d.2];exact g⟩⟩
def ju.iff:∀{c:Ex}{b:EF},ju W M H c b↔b.map (·.1)=c.map (·.1)/\yc W M H (c.map (·.2)) (b.map (·.2))
 |[],b=>⟨λh=>by cases(show _=_ from h);exact⟨rfl,rfl⟩,λh=>by cases b with|nil=>rfl|cons a r=>cases h.1⟩
 |i::r,b=>by
  constructor
  .rintro ⟨v,q,rfl,f,g⟩
   obtain⟨e,t⟩:=ju.iff.mp g;exact⟨by simp only[List.map_cons,e],v,_,rfl,f,t⟩
  .rintro ⟨e,v,q,d,f,g⟩
   cases b with
   |nil=>cases d
   |cons a b=>simp only[List.map_cons,List.cons.injEq]at e d;refine⟨a.2,b,by rw[<- e.1],by rw[d.1];exact f,ju.iff.mpr ⟨e.2,by rw[d.2];exact g⟩⟩
def ju.lookup:∀{a:Ex}{b:EF}{f:Str}{x:PV},ju W M H a b->a.lookup f=some x->∃v,b.lookup f=some v/\Rep W M H x v
 |[],_,_,_,_,e=>by cases e
 |i::r,_,f,x,h,e=>by
  obtain⟨v,q,rfl,d,g⟩:=h;rw[L5]at e ⊢;by_cases c:(f==i.1)=true
  .simp only[c]at e ⊢;cases e;exact⟨v,rfl,d⟩
  .simp only[c]at e ⊢;exact ju.lookup g e
def ju.f9:∀{a:Ex}{b:EF}{f:Str},ju W M H a b->a.lookup f=none->b.lookup f=none
 |[],_,_,h,_=>by cases(show _=_ from h);rfl
 |g::r,_,f,h,e=>by
  obtain⟨v,q,rfl,i,d⟩:=h;rw[L5]at e ⊢;by_cases c:(f==g.1)=true
  .simp only[c]at e;cases e
  .simp only[c]at e ⊢;exact ju.f9 d e
def f_(n:New M H)(hp:H p=none)(h:yc W M H xs vs):Rep W M (upd H p (.lst vs)) (.l xs) (.ref p):=⟨p,vs,rfl,n p hp,zi,h.same (zz.upd hp)⟩
def gc(hp:H p=none)(h:yc W M H xs vs):Rep W M (upd H p (.tup vs)) (.t xs) (.ref p):=⟨p,vs,rfl,SqT.of zi,h.same (zz.upd hp)⟩
end
def xB:R2:=λx y H Q=>(rI0 (λi j=>.int (i+j)) x y H Q\/∃i j,x=.str i/\y=.str j/\i.length+j.length<=sizeLine/\Q (.str (i++j)) H)\/C1 x y H Q
def zN:OpR X (binaryOp .Add) xB:=(uP.or dJ).or u9
def yk:PV->PV->Out PV
 |.i a,.i b=>.ok (.i (a+b))
 |.s a,.s b=>if a.length+b.length<=sizeLine then .ok (.s (a++b))else .wall
 |.l a,.l b=>if a.length+b.length<=sizeLine then .ok (.l (a++b))else .wall
 |_,_=>.wall
def zO:Lf2 W xB yk:=λM C B H x y v u Q n b c q=>by
 unfold yk at q;split at q
 .exact .inl (.inl ⟨_,_,b,c,q _ H (zz.refl _) rfl⟩)
 .split at q
  .rename_i h;exact .inl (.inr ⟨_,_,b,c,h,q _ H (zz.refl _) rfl⟩)
  .exact q.elim
 .split at q
  .rename_i h;obtain⟨p,f,rfl,_,e,r⟩:=b;obtain⟨i,a,rfl,_,g,d⟩:=c;exact .inr ⟨p,i,f,a,rfl,rfl,e,g,by rw[r.len,d.len];exact h,λz hz=>q _ _ (zz.upd hz) (f_ n hz (r.append d))⟩
  .exact q.elim
 .exact q.elim
def xC:R2:=λx y H Q=>(rI oI (λi j=>.int (i*j)) x y H Q\/rI mT (λi j=>.int (i*j)) x y H Q)\/(xt x y H Q\/C2 x y H Q)
def ZH:OpR X (binaryOp .Mult) xC:=(uQ.or rN).or (d6.or u_)
instance{i j:Int}:Decidable (oI i j):=by unfold oI;infer_instance
instance{i j:Int}:Decidable (uk i j):=by unfold uk;infer_instance
instance{i j:Int}:Decidable (um i j):=by unfold um;infer_instance
def ZI:PV->PV->Out PV
 |.i a,.i b=>if oI a b\/(a.natAbs<2 ^ 8192/\b.natAbs<2 ^ 8192)then .ok (.i (a*b))else .wall
 |.s a,.i b=>if a.length<=16/\-2 ^ 63<=b/\b<=1048576 then .ok (.s (Txt.mul a b))else .wall
 |.l a,.i b=>if -(2 ^ 63)<=b/\b<2 ^ 63/\a.length*b.toNat<=sizeLine then .ok (.l (List.replicate b.toNat a).flatten)else .wall
 |_,_=>.wall
def yc.rep{W:RC}{M:Ee}{H:Hp}{xs:Ew}{vs:En}(h:yc W M H xs vs):∀n,yc W M H (List.replicate n xs).flatten (List.replicate n vs).flatten
 |0=>rfl
 |n+1=>by rw[R7,R7,a0e,a0e];exact h.append (h.rep n)
def ZJ:Lf2 W xC ZI:=λM C B H x y v u Q n a b q=>by
 unfold ZI at q;split at q
 .split at q
  .rename_i h;rcases h with h|h
   .exact .inl (.inl ⟨_,_,a,b,h,q _ H (zz.refl _) rfl⟩)
   .exact .inl (.inr ⟨_,_,a,b,h,q _ H (zz.refl _) rfl⟩)
  .exact q.elim
 .split at q
  .rename_i h;exact .inr (.inl ⟨_,_,a,b,h.1,h.2.1,h.2.2,q _ H (zz.refl _) rfl⟩)
  .exact q.elim
 .split at q
  .rename_i h;obtain⟨p,c,rfl,_,e,r⟩:=a;exact .inr (.inr ⟨p,_,c,rfl,b,e,h.1,h.2.1,by rw[r.len];exact h.2.2,λz hz=>q _ _ (zz.upd hz) (f_ n hz (r.rep _))⟩)
  .exact q.elim
 .exact q.elim
def xD:R2:=λx y H Q=>rI uk (λi j=>.int (i / j)) x y H Q\/rI xw (λi j=>.int (i.fdiv j)) x y H Q
def bg:OpR X (binaryOp .FloorDiv) xD:=p9.or mV
def K3:PV->PV->Out PV
 |.i a,.i b=>if uk a b then .ok (.i (a / b))else if b≠0/\b.natAbs<2 ^ 8192 then .ok (.i (a.fdiv b))else .wall
 |_,_=>.wall
def bh:Lf2 W xD K3:=λM C B H x y v u Q n a b q=>by
 unfold K3 at q;split at q
 .split at q
  .rename_i h;exact .inl ⟨_,_,a,b,h,q _ H (zz.refl _) rfl⟩
  .split at q
   .rename_i h;exact .inr ⟨_,_,a,b,h,q _ H (zz.refl _) rfl⟩
   .exact q.elim
 .exact q.elim
def xE:R2:=λx y H Q=>rI (λ_ j=>0<j) (λi j=>.int (i % j)) x y H Q\/rI (λ_ j=>j≠0) (λi j=>.int (i.fmod j)) x y H Q
def wJ:OpR X (binaryOp .Mod) xE:=uR.or p_
def ZK:PV->PV->Out PV
 |.i a,.i b=>if 0<b then .ok (.i (a % b))else if b≠0 then .ok (.i (a.fmod b))else .wall
 |_,_=>.wall
def wK:Lf2 W xE ZK:=λM C B H x y v u Q n a b q=>by
 unfold ZK at q;split at q
 .split at q
  .rename_i h;exact .inl ⟨_,_,a,b,h,q _ H (zz.refl _) rfl⟩
  .split at q
   .rename_i h;exact .inr ⟨_,_,a,b,h,q _ H (zz.refl _) rfl⟩
   .exact q.elim
 .exact q.elim
def K4:PV->PV->Out PV
 |.i a,.i b=>if um a b then .ok (.i (a ^ b.toNat))else .wall
 |_,_=>.wall
def Xs:Lf2 W (rI um λi j=>.int (i ^ j.toNat)) K4:=λM C B H x y v u Q n a b q=>by
 unfold K4 at q;split at q
 .split at q
  .rename_i h;exact⟨_,_,a,b,h,q _ H (zz.refl _) rfl⟩
  .exact q.elim
 .exact q.elim
def bj:Lf2 W (rI0 λi j=>.bl (decide (i<j))) pLt:=B7 λ_ _ _ _=>rfl
def Xt:Lf2 W (rI0 λi j=>.bl (decide (j<i))) pGt:=B7 λ_ _ _ _=>rfl
def isN:PV->Bool
 |.n=>true
 |_=>false
def K5(a:Bool):PV->PV->Out PV
 |x,.n=>.ok (.b (xor a (isN x)))
 |_,_=>.wall
def xF(h:yj W N M H x v):decide (v=.non)=isN x:=by
 cases x with
 |n=>cases(show v=_ from h);rfl
 |i a=>cases(show v=_ from h);rfl
 |s a=>cases(show v=_ from h);rfl
 |b a=>cases(show v=_ from h);rfl
 |l a=>obtain⟨p,_,rfl,_⟩:=h;rfl
 |t a=>obtain⟨p,_,rfl,_⟩:=h;rfl
 |d a=>obtain⟨p,_,rfl,_⟩:=h;rfl
 |o c a=>obtain⟨p,_,_,rfl,_⟩:=h;rfl
 |x c a=>obtain⟨p,_,_,rfl,_⟩:=h;rfl
 |sc a=>obtain⟨p,rfl,_⟩:=h;rfl
 |dt a=>obtain⟨p,rfl,_⟩:=h;rfl
def K6:Lf2 W (λx y H Q=>y=.non/\Q (.bl (decide (x=.non))) H) (K5 false):=λM C B H x y v u Q n a b q=>by
 unfold K5 at q;split at q
 .refine⟨b,?_⟩;rw[xF a];exact q _ H (zz.refl _) (by rw[M8];rfl)
 .exact q.elim
def gf:Lf2 W (λx y H Q=>y=.non/\Q (.bl (!decide (x=.non))) H) (K5 true):=λM C B H x y v u Q n a b q=>by
 unfold K5 at q;split at q
 .refine⟨b,?_⟩;rw[xF a];exact q _ H (zz.refl _) (by rw[a0Q];rfl)
 .exact q.elim
def aJ.rk(e:Rd H a (.dK kvs)):aJ H a (kV k) (Qy kvs k):=.inl ⟨kvs,k,e,rfl,rfl⟩
def RFr(W:RC)(M:Ee)(H:Hp)(b:Hp)(x:PV)(v:V):Prop:=∃p,v=.ref p/\H p=none/\K0 W (λa=>M a/\a≠p) b p x
def RFr.rep(n:New M H)(h:RFr W M H H2 x v):Rep W M H2 x v:=by obtain⟨p,rfl,hp,h⟩:=h;exact yj.iff.mp ((h.Bc (N:=M) (n p hp)).sub (λ_ m _=>m) λ_ m _=>m.1)
def LFr(C:LC)(S:Eb)(c:TE)(m:ME):Prop:=∀B P H a b,Rel C.W B S P H a b->∀Q,zK C B H (RFr C.W (Mof B S P) H) Q (m b)->c a H Q
def FM(X:Cx)(C:LC)(S:Eb)(e:Eh)(m:ME):Prop:=X.K=C.W.K->∃a,PE X e a/\LFr C S a m
def ZL(h:zK C B H R Q o)(k:∀x v a,zz H a->R' a x v->R a x v):zK C B H R' Q o:=by
 cases o with
 |ok r=>exact λv a s b=>h v a s (k _ _ _ s b)
 |exc c fs=>exact h
 |wall=>exact h
def FM.em(h:FM X C S e m):EM X C S false e m:=λi=>by obtain⟨g,c,d⟩:=h i;exact⟨g,c,λB P H a b R Q q=>d B P H a b R Q (ZL q λx v j s f=>RV.of (f.rep R.new))⟩
def RVs(C:LC)(B:Bs)(S:Eb)(P:Em)(H:Hp):List Bool->List PV->List V->Prop
 |[],b,a=>b=[]/\a=[]
 |w::e,b,a=>∃x v c d,b=x::c/\a=v::d/\RV C B S P w H x v/\RVs C B S P H e c d
def Xu(C:LC)(B:Bs)(H:Hp)(R:Hp->List PV->List V->Prop)(Q:List V->Hp->Prop):Out (List PV)->Prop
 |.ok r=>∀v a,zz H a->R a r v->Q v a
 |.exc c fs=>XPo C B c fs
 |.wall=>False
def LA(C:LC)(S:Eb)(ws:Ek)(d:TA)(m:MA):Prop:=∀B P H b a,Rel C.W B S P H b a->∀Q,Xu C B H (λc=>RVs C B S P c ws) Q (m a)->d b H Q
def AM(X:Cx)(C:LC)(S:Eb)(ws:Ek)(es:Eg)(m:MA):Prop:=X.K=C.W.K->∃a,PA X es a/\LA C S ws a m
def zl:MA:=λ_=>.ok []
def zb(m:ME)(ms:MA):MA:=λa=>(m a).bind λx=>(ms a).bind λb=>.ok (x::b)
def WY{b:Type}{f:PV->Out b}{T:Hp->Out b->Prop}(g:∀H a o,zz H a->T H o->T a o)(e:∀c fs,T H (.exc c fs)->XPo C B c fs)(d:T H .wall->False)
  (h:T H (o.bind f)) (k:∀r v a,zz H a->R a r v->T a (f r)->Q' v a):zK C B H R Q' o:=by
 cases o with
 |ok r=>exact λv a s i=>k r v a s i (g _ _ _ s h)
 |exc c fs=>exact e _ _ h
 |wall=>exact d h
def K7(s:zz H H2)(h:Xu C B H R Q o):Xu C B H2 R Q o:=by
 cases o with
 |ok x=>exact λv d a b=>h v d (s.trans a) b
 |exc c fs=>exact h
 |wall=>exact h
def yK(h:zK C B H R Q (o.bind f))(k:∀r v a,zz H a->R' a r v->zK C B a R Q (f r)->Q' v a):Xu C B H R' Q' o:=by
 cases o with
 |ok r=>exact λv a s b=>k r v a s b (jx (o:=f r) h s)
 |exc c fs=>exact h
 |wall=>exact h
section
variable {X:Cx}{C:LC}{S:Eb}{e a b:Eh}{es:Eg}{w w1:Bool}{ws:Ek}{m m1 m2:ME}{ms:MA}{t1 t2:MT}{pos:Pos}
def ze:AM X C S [] [] zl:=λ_=>⟨_,JG,λB P H c d R Q q=>q [] H (zz.refl _) ⟨rfl,rfl⟩⟩
def za(h:EM X C S w e m)(u:AM X C S ws es ms)(D:starEach (e::es) X.env=(false,eval e X.env)::starEach es X.env:=by rfl):AM X C S (w::ws) (e::es) (zb m ms):=λl=>by
 obtain⟨I,E,r⟩:=h l;obtain⟨J,A,n⟩:=u l;refine⟨_,vD E A D,λB P H j f R Q q=>r B P H j f R _ (WY (T:=λH o=>Xu C B H (λd=>RVs C B S P d (w::ws)) Q o) (λ_ _ _ s h=>K7 s h) (λ_ _ h=>h) (λh=>h) q λx v G F y g=>?_)⟩;refine n B P G j f (R.keep F) _ ?_;revert g;cases ms f with
 |ok z=>exact λg i d s2 p=>g (v::i) d s2 ⟨x,v,z,i,rfl,rfl,y.same s2,p⟩
 |exc c fs=>exact id
 |wall=>exact id
def RVs.Be{B:Bs}{P:Em}{H:Hp}:∀{ws:Ek}{i:Ew}{g:En},RVs C B S P H ws i g->ws.all (!·)=true->yc C.W (Mof B S P) H i g
 |[],_,_,⟨d,f⟩,_=>by subst d;subst f;rfl
 |w::ws,_,_,⟨x,v,n,l,d,f,h,j⟩,c=>by subst d;subst f;simp only[List.all_cons,Bool.and_eq_true,Bool.not_eq_true']at c;rw[c.1]at h;exact⟨v,l,rfl,h.rep,RVs.Be j c.2⟩
def ZD(ms:MA):ME:=λd=>(ms d).bind λc=>if c.length<=sizeLine then .ok (.l c)else .wall
def Xv(ms:MA):ME:=λd=>(ms d).bind λc=>if c.length<=sizeLine then .ok (.t c)else .wall
def jT(h:AM X C S ws es ms)(g:ws.all (!·)=true:=by rfl):FM X C S (.List es pos) (ZD ms):=λs=>by
 obtain⟨y,u,o⟩:=h s;refine⟨_,fC u,λB P H i j R Q q=>o B P H i j R _ (yK q λx f A v r c=>?_)⟩;have d:=r.Be g;split at c
 .rename_i l;exact⟨by rw[d.len];exact l,λp hp=>c _ _ (zz.upd hp) ⟨p,rfl,zz.none v hp,f,zi,(d.sub λa m n=>⟨m,λz=>n (z▸hp)⟩).same (zz.upd hp)⟩⟩
 .exact c.elim
def vj{x1}(h:AM X C S ws es ms)(f:ws.all (!·)=true:=by rfl):EM X C S false (.Tuple es x1 pos) (Xv ms):=λo=>by
 obtain⟨v,r,l⟩:=h o;refine⟨_,WR r,λB P H g i R Q q=>l B P H g i R _ (yK q λu s y x n c=>?_)⟩;have d:=n.Be f;split at c
 .rename_i j;exact⟨by rw[d.len];exact j,λp hp=>c _ _ (zz.upd hp) (RV.of (gc hp d))⟩
 .exact c.elim
def Je(t u:MT):MT:=λd=>(t d).bind λc=>if c=true then u d else .ok false
def mOr(t u:MT):MT:=λd=>(t d).bind λc=>if c=true then .ok true else u d
def lR(t:MT):MT:=λd=>(t d).bind λc=>.ok (!c)
def bo(m1 m2:ME):ME:=λd=>(m1 d).bind λx=>(asB x).bind λc=>if c=true then m2 d else .ok (.b false)
def mIf(t:MT)(m1 m2:ME):ME:=λd=>(t d).bind λc=>if c=true then m1 d else m2 d
def TWM.tm(h:TWM X C S e t1):TM X C S e t1:=λc=>let⟨tt,a1,a2⟩:=h c;⟨tt,a1.pt,a2⟩
def vF(h:TM X C S a t1):TWM X C S (.BoolOp .And [a] pos) t1:=λc=>let⟨tt,a1,a2⟩:=h c;⟨tt,pw_and1 a1,a2⟩
def wY(h:TM X C S a t1):TWM X C S (.BoolOp .Or [a] pos) t1:=λc=>let⟨tt,a1,a2⟩:=h c;⟨tt,pw_or1 a1,a2⟩
variable {rest:Eg}
def wZ(h:TM X C S a t1)(n:TWM X C S (.BoolOp .And (b::rest) pos) t2):TWM X C S (.BoolOp .And (a::b::rest) pos) (Je t1 t2):=λi=>by
 obtain⟨v,r,o⟩:=h i;obtain⟨u,p,l⟩:=n i;refine⟨_,pw_and r p,λB P H d f R Q q=>o B P H d f R _ (Qb q λc j s g=>?_)⟩;cases c with
 |true=>exact rL (l B P j d f (R.keep s) _ g)
 |false=>exact rK (g j (zz.refl _))
def QB(h:TM X C S a t1)(n:TWM X C S (.BoolOp .Or (b::rest) pos) t2):TWM X C S (.BoolOp .Or (a::b::rest) pos) (mOr t1 t2):=λi=>by
 obtain⟨v,r,o⟩:=h i;obtain⟨u,p,l⟩:=n i;refine⟨_,pw_or r p,λB P H d f R Q q=>o B P H d f R _ (Qb q λc j s g=>?_)⟩;cases c with
 |true=>exact rL (g j (zz.refl _))
 |false=>exact rK (l B P j d f (R.keep s) _ g)
def K8(h:TM X C S a t1):TM X C S (.UnaryOp .Not a pos) (lR t1):=λd=>by obtain⟨o,j,l⟩:=h d;exact⟨_,uG j,λB P H f g R Q q=>l B P H f g R _ (Qb q λc n p i=>i n (zz.refl _))⟩
def Yy(h:EM X C S w e m)(he:∀c,isTrue e X.env c=(do let v<-c;standAt e.pos;holding [v] (truthy v)):=by intro _;rfl):TM X C S e (zB m):=λg=>by obtain⟨i,d,f⟩:=h g;exact⟨_,uF d he,K2 f⟩
def oS{op}(h:EM X C S w a m):EM X C S w (.BoolOp op [a] pos) m:=λc=>let⟨tt,a1,a2⟩:=h c;⟨tt,uH a1,a2⟩
def cE(h:EM X C S w1 a m1)(n:EM X C S false (.BoolOp .And (b::rest) pos) m2):EM X C S false (.BoolOp .And (a::b::rest) pos) (bo m1 m2):=λi=>by
 obtain⟨z,s,o⟩:=h i;obtain⟨y,r,l⟩:=n i;refine⟨_,uI s r,λB P H f g R Q q=>o B P H f g R _ (zI q λx v j u p d=>?_)⟩;cases x with
 |b c=>
  refine⟨c,(show v=.bl c from p),?_⟩;cases c with
  |true=>exact rL (l B P j f g (R.keep u) _ d)
  |false=>exact rK (d _ j (zz.refl _) (RV.of rfl))
 |_=>exact d.elim
def B8(h:TM X C S c t1)(v:EM X C S w a m1)(p:EM X C S w b m2):EM X C S w (.IfExp c a b pos) (mIf t1 m1 m2):=λg=>by
 obtain⟨A,y,r⟩:=h g;obtain⟨z,u,n⟩:=v g;obtain⟨D,s,o⟩:=p g;refine⟨_,l6 y u s,λB P H d f R Q q=>r B P H d f R _ (bf q λx l j i=>?_)⟩;cases x with
 |true=>exact rL (n B P l d f (R.keep j) _ i)
 |false=>exact rK (o B P l d f (R.keep j) _ i)
end
def zr{a b:Type}[DecidableEq a](kvs:List (a×b))(k:a):Option b:=(kvs.find? λc=>decide (c.1=k)).map (·.2)
def qp.get{W:RC}{M:Ee}{H:Hp}:∀{a:Er}{b:Ei}{k:Key}{x:PV},qp W M H a b->zr a k=some x->∃v,Qy b k=some v/\Rep W M H x v
 |[],_,_,_,_,e=>by cases e
 |g::r,_,k,x,h,e=>by
  obtain⟨v,q,rfl,d,f⟩:=h;unfold zr at e;unfold Qy;rw[R4]at e ⊢;by_cases c:g.1=k
  .simp only[c,decide_true]at e ⊢;cases e;exact⟨v,rfl,d⟩
  .simp only[c,decide_false]at e ⊢;exact qp.get f e
def qp.uq{W:RC}{M:Ee}{H:Hp}:∀{a:Er}{b:Ei}{k:Key},qp W M H a b->zr a k=none->Qy b k=none
 |[],_,_,h,_=>by cases(show _=_ from h);rfl
 |f::r,_,k,h,e=>by
  obtain⟨v,q,rfl,g,d⟩:=h;unfold zr at e;unfold Qy;rw[R4]at e ⊢;by_cases c:f.1=k
  .simp only[c,decide_true]at e;cases e
  .simp only[c,decide_false]at e ⊢;exact qp.uq d e
def qp.DO(h:qp W M H kvs es):(Qy es k).isSome=(zr kvs k).isSome:=by
 cases e:zr kvs k with
 |none=>rw[h.uq e];rfl
 |some x=>obtain⟨v,q,_⟩:=h.get e;rw[q];rfl
def pk:PV->Option Key
 |.i n=>some (.inl n)
 |.s x=>some (.inr x)
 |_=>none
def QC(h:yj W N M H x v)(e:pk x=some k):v=kV k:=by
 cases x with
 |i n=>cases e;exact h
 |s n=>cases e;exact h
 |_=>cases e
def C3:R2:=λx y H Q=>∃a v,x=.ref a/\aJ H a y (some v)/\Q v H
def Xw(w:X.A.units+1<cLine):IxR X C3:=by
 intro e d f s o H x y v u Q I A p h z;obtain⟨a,n,rfl,g,q⟩:=h;cases A;have l:=aZ I g;unfold subscriptTail;refine f8 ?_;rw[a2l l.not_modules];refine f8 (a0U l PySem.F.slot_dict_getitem.lookup ?_);have c:wpAny (Fg X) X.A (subscripted d false (.ref a) u) (λr b=>wpAny (Fg X) X.A (letTemporaryGo e (.ref a) r >>= λ_=>pure r) (EP X f o Q) X.xe b) X.xe s:=by rw[z];exact wpAny_operating (S0 (fJ w I g p λn B m j=>⟨_,H,m,j,q⟩) (λr b i=>f8 (a2u (v4 i))) λ_ _ x=>x)
 first
  |exact v4 (f8 c)
  |exact f8 (v4 (f8 c))
  |exact f8 c
def C4(K:EE):R2:=λx y H Q=>rIx K x y H Q\/C3 x y H Q
def vk{b:Type}:Option b->Out b
 |some a=>.ok a
 |none=>.wall
def pIx:PV->PV->Out PV
 |.l b,.i k=>vk (atI b k)
 |.t b,.i k=>vk (atI b k)
 |.sc d,.i k=>vk ((atI d k).map PV.i)
 |.s z,.i k=>if z.length<=sizeLine then vk ((atI z.cps.toList k).map λc=>.s ⟨#[c]⟩)else .wall
 |.d a,y=>vk ((pk y).bind λk=>zr a k)
 |_,_=>.wall
def qr(h:zK C B H R Q (vk o)):∃x,o=some x/\∀v a,zz H a->R a x v->Q v a:=by
 cases o with
 |none=>exact h.elim
 |some x=>exact⟨x,rfl,h⟩
def rT:Lf2 W (C4 W.K) pIx:=λM C B H x y v u Q n f g q=>by
 unfold pIx at q;split at q
 .obtain⟨x,e,q⟩:=qr q;obtain⟨p,h,rfl,_,a,r⟩:=f;obtain⟨v,b,d⟩:=r.at e;exact .inl (.inl ⟨p,h,_,v,rfl,g,SqL.of a,b,q v H (zz.refl _) d⟩)
 .obtain⟨x,e,q⟩:=qr q;obtain⟨p,h,rfl,a,r⟩:=f;obtain⟨v,b,d⟩:=r.at e;exact .inl (.inr (.inl ⟨p,h,_,v,rfl,g,a,b,q v H (zz.refl _) d⟩))
 .obtain⟨x,e,q⟩:=qr q;obtain⟨p,rfl,a⟩:=f;obtain⟨z,hz,rfl⟩:=u8.mp e;refine .inl (.inl ⟨p,_,_,.int z,rfl,g,a.sq,?_,q _ H (zz.refl _) rfl⟩);unfold atI at hz ⊢;rw[D0];cases c:ixN _ _ with
  |none=>rw[c]at hz;cases hz
  |some j=>rw[c,Option.bind_some]at hz;show(List.map V.int _)[j]?=_;rw[F4,hz];rfl
 .split at q
  .rename_i a;obtain⟨x,e,q⟩:=qr q;obtain⟨z,hz,rfl⟩:=u8.mp e;exact .inl (.inr (.inr ⟨_,_,z,f,g,a,hz,q _ H (zz.refl _) rfl⟩))
  .exact q.elim
 .obtain⟨x,e,q⟩:=qr q;obtain⟨p,l,rfl,_,a,r⟩:=f;obtain⟨k,i,e⟩:=F5.mp e;obtain⟨v,b,d⟩:=r.get e;exact .inr ⟨p,v,rfl,by rw[QC g i,<- b];exact aJ.rk a,q v H (zz.refl _) d⟩
 .exact q.elim
def B9(f:X.A.units+1<cLine)(h:EM X C S w1 a m1)(i:EM X C S w2 b m2)(g:Y_ b:=by intro _ _;rfl):EM X C S false (.Subscript a b pos) (mOp pIx m1 m2):=λc=>by obtain⟨n,j,l⟩:=h c;obtain⟨m,d,e⟩:=i c;exact⟨_,my (fH.or (Xw f)) j d g,f7 (by rw[c];exact rT) l e⟩
def toV:PV->Option V
 |.i a=>some (.int a)
 |.s a=>some (.str a)
 |.b a=>some (.bl a)
 |.n=>some .non
 |_=>none
def K9(h:yj W N M H x v)(e:toV x=some u):v=u/\J_ u=true:=by cases x<;>first|(cases e;exact⟨h,rfl⟩)|cases e
def rV:Option Bool->Option Bool->Option Bool
 |some a,some b=>some (a&&b)
 |_,_=>none
def cF(f:EK):List PV->List PV->Option Bool
 |[],[]=>some true
 |x::a,y::b=>rV (f x y) (cF f a b)
 |_,_=>some false
def bp(f:EK)(b:Er):List (Key×PV)->Option Bool
 |[]=>some true
 |a::r=>match zr b a.1 with
  |none=>some false
  |some y=>rV (f a.2 y) (bp f b r)
def xG(x y:PV):Option Bool:=match toV x,toV y with|some a,some b=>some (eqV a b)|_,_=>none
def Ja:Nat->PV->PV->Option Bool
 |n+1,.l a,.l b=>cF (Ja n) a b
 |n+1,.t a,.t b=>cF (Ja n) a b
 |_,x,y=>xG x y
def Bf(n:Nat):PV->PV->Option Bool
 |.d a,.d b=>if a.length=b.length then bp (Ja n) b a else some false
 |x,y=>Ja n x y
def wb(h:rV a b=some c):∃p q,a=some p/\b=some q/\c=(p&&q):=by cases a<;>cases b<;>first|(cases h;done)|(cases h;exact⟨_,_,rfl,rfl,rfl⟩)
theorem Xx{f:EK}:∀{c a:Ew}{b:Bool},cF f c a=some b->c.length≠a.length->b=false
 |[],[],_,_,h=>absurd rfl h
 |[],_::_,_,h,_=>by cases h;rfl
 |_::_,[],_,h,_=>by cases h;rfl
 |x::c,y::a,b,h,n=>by obtain⟨p,q,_,d,rfl⟩:=wb h;rw[Xx d (λz=>n (by rw[D4,D4,z])),a0F]
theorem Xy{f:EK}:∀{g d:Ew}{b:Bool},cF f g d=some b->∃e:Nat->Bool,(∀j x y,g[j]?=some x->d[j]?=some y->f x y=some (e j))/\b=((List.range (min g.length d.length)).all e&&g.length==d.length)
 |[],[],b,h=>⟨λ_=>true,(λj x y h=>by simp at h),by cases h;rfl⟩
 |[],_::_,b,h=>⟨λ_=>true,(λj x y h=>by simp at h),by cases h;simp⟩
 |_::_,[],b,h=>⟨λ_=>true,(λj x y _ h=>by simp at h),by cases h;simp⟩
 |x::g,y::d,b,h=>by
  obtain⟨p,q,m,n,rfl⟩:=wb h;obtain⟨e,o,rfl⟩:=Xy n;refine⟨λj=>match j with|0=>p|j+1=>e j,λj a c l i=>?_,?_⟩
  .cases j with
   |zero=>simp only[List.getElem?_cons_zero,Option.some.injEq]at l i;subst l;subst i;exact m
   |succ j=>simp only[List.getElem?_cons_succ]at l i;exact o j a c l i
  .simp only[List.length_cons,Nat.add_min_add_right,List.range_succ_eq_map,List.all_cons,List.all_map,Bool.and_assoc];congr 1;simp[Function.comp_def]
section
variable {X:Cx}{pins:D_}{σ:St}{H:Hp}{s:Ef}{W:RC}
def mW(I:Inv X pins σ H s)(h:Rd H p (.dK a)):(a.map (·.1)).Nodup:=by
 obtain⟨_,_,b,c,g⟩:=wI I.hok h;obtain⟨_,_,_,_,_,_,_,hp,d⟩:=g;have e:∀{a:Ei}{b:EL},KV a b->a.map (·.1)=b.map (·.1):=by
  intro a b r
  induction r with
  |nil=>rfl
  |cons h _ f=>rw[E6,E6,h.1,f]
 rw[e c];exact d
theorem Xz{c:Type}:∀{b:List (Key×c)},(b.map (·.1)).Nodup->∀{j:Nat}{k:Key}{x:c},b[j]?=some (k,x)->zr b k=some x
 |[],_,j,k,x,e=>by simp at e
 |f::r,a,0,k,x,e=>by simp only[List.getElem?_cons_zero,Option.some.injEq]at e;subst e;unfold zr;rw[R4];simp
 |f::r,a,j+1,k,x,e=>by simp only[List.getElem?_cons_succ]at e;rw[E6,O7]at a;have:f.1≠k:=λz=>a.1 (z▸G7.mpr ⟨_,S8 e,rfl⟩);have d:=Xz a.2 e;unfold zr at d ⊢;rw[R4];simp only[this,decide_false];exact d
def Jf(I:Inv X pins σ H s)(P:W.K=X.K):∀{n:Nat}{x y:PV}{b:Bool}{v:V}{N M o g:Ee},Ja n x y=some b->yj W N M H x v->yj W o g H y v->b=true:=by
 have A:∀{x y:PV}{b:Bool}{v:V}{N M o g:Ee},xG x y=some b->yj W N M H x v->yj W o g H y v->b=true:=by
  intro x y b v N M o g h f d;unfold xG at h;cases B:toV x with
  |none=>rw[B]at h;cases h
  |some a=>
   cases G:toV y with
   |none=>rw[B,G]at h;cases h
   |some c=>rw[B,G]at h;obtain⟨K,J⟩:=K9 f B;obtain⟨w,_⟩:=K9 d G;cases h;rw[<- K]at J ⊢;rw[<- w];cases v<;>first|rfl|(cases J;done)|(simp[eqV];done)
 intro n
 induction n with
 |zero=>intro x y b v N M o g h;exact A (by cases x<;>cases y<;>exact h)
 |succ n S=>
  have u:∀{j i:Ew}{m:En}{b:Bool}{M g:Ee},cF (Ja n) j i=some b->yc W M H j m->yc W g H i m->b=true:=by
   intro j
   induction j with
   |nil=>intro i m b M g h f d;cases(show _=_ from f);cases i with
    |nil=>cases h;rfl
    |cons y i=>obtain⟨_,_,e,_⟩:=d;cases e
   |cons x j F=>
    intro i m b M g h f d;obtain⟨v,r,rfl,Q,L⟩:=f;cases i with
    |nil=>cases(show _=_ from d)
    |cons y i=>obtain⟨U,C,e,T,D⟩:=d;cases e;obtain⟨p,q,hp,O,rfl⟩:=wb h;rw[S hp (yj.iff.mpr Q) (yj.iff.mpr T),F O L D];rfl
  intro x y b v N M o g h f d;cases x with
  |l j=>
   cases y with
   |l i=>obtain⟨p,m,rfl,_,e,r⟩:=f;obtain⟨R,E,w,_,z,C⟩:=d;cases w;rw[e]at z;cases z;exact u h r C
   |_=>exact A h f d
  |t j=>
   cases y with
   |t i=>obtain⟨p,m,rfl,e,r⟩:=f;obtain⟨R,E,w,z,C⟩:=d;cases w;rw[P]at e z;cases I.Um e z;exact u h r C
   |_=>exact A h f d
  |_=>exact A (by cases y<;>exact h) f d
def oU(e:RelV y u)(d:RelV x v)(g:J_ y=true)(f:J_ x=true):SeqAt.RcAt A s u v (eqV y x)/\SeqAt.RcNeAt A s u v (!eqV y x):=by
 cases y with
 |non=>
  cases e;cases x with
  |non=>cases d;exact⟨SeqAt.RcAt.none_none,SeqAt.RcNeAt.none_none⟩
  |bl b=>cases d;exact⟨SeqAt.RcAt.none_bool b,SeqAt.RcNeAt.none_bool b⟩
  |int b=>obtain⟨t,rfl⟩:=d;exact⟨SeqAt.RcAt.none_int b t,SeqAt.RcNeAt.none_int b t⟩
  |str b=>obtain⟨t,rfl⟩:=d;exact⟨SeqAt.RcAt.none_str b t,SeqAt.RcNeAt.none_str b t⟩
  |_=>exact absurd (show false=true from f) F6
 |bl a=>
  cases e;cases x with
  |non=>cases d;exact⟨SeqAt.RcAt.bool_none a,SeqAt.RcNeAt.bool_none a⟩
  |bl b=>cases d;exact⟨SeqAt.RcAt.bool_bool a b,SeqAt.RcNeAt.bool_bool a b⟩
  |int b=>obtain⟨t,rfl⟩:=d;exact⟨SeqAt.RcAt.bool_int a b t,SeqAt.RcNeAt.bool_int a b t⟩
  |str b=>obtain⟨t,rfl⟩:=d;exact⟨SeqAt.RcAt.bool_str a b t,SeqAt.RcNeAt.bool_str a b t⟩
  |_=>exact absurd (show false=true from f) F6
 |int a=>
  obtain⟨c,rfl⟩:=e;cases x with
  |non=>cases d;exact⟨SeqAt.RcAt.int_none a c,SeqAt.RcNeAt.int_none a c⟩
  |bl b=>cases d;exact⟨SeqAt.RcAt.int_bool a c b,SeqAt.RcNeAt.int_bool a c b⟩
  |int b=>obtain⟨t,rfl⟩:=d;exact⟨SeqAt.RcAt.int_int a c b t,SeqAt.RcNeAt.int_int a c b t⟩
  |str b=>obtain⟨t,rfl⟩:=d;exact⟨SeqAt.RcAt.int_str a c b t,SeqAt.RcNeAt.int_str a c b t⟩
  |_=>exact absurd (show false=true from f) F6
 |str a=>
  obtain⟨c,rfl⟩:=e;cases x with
  |non=>cases d;exact⟨SeqAt.RcAt.str_none a c,SeqAt.RcNeAt.str_none a c⟩
  |bl b=>cases d;exact⟨SeqAt.RcAt.str_bool a c b,SeqAt.RcNeAt.str_bool a c b⟩
  |int b=>obtain⟨t,rfl⟩:=d;exact⟨SeqAt.RcAt.str_int a c b t,SeqAt.RcNeAt.str_int a c b t⟩
  |str b=>obtain⟨t,rfl⟩:=d;exact⟨SeqAt.RcAt.str_str a c b t,SeqAt.RcNeAt.str_str a c b t⟩
  |_=>exact absurd (show false=true from f) F6
 |_=>exact absurd (show false=true from g) F6
def XA(h:xG x y=some b)(l:yj W N M H x xv)(m:yj W N' M' H y yv)(i:RelV xv u)(e:RelV yv v):
  SeqAt.EqAt A s u v b/\SeqAt.RcAt A s u v b/\SeqAt.RcNeAt A s u v (!b):=by
 unfold xG at h;cases d:toV x with
 |none=>rw[d]at h;cases h
 |some a=>
  cases j:toV y with
  |none=>rw[d,j]at h;cases h
  |some c=>rw[d,j]at h;cases h;obtain⟨rfl,f⟩:=K9 l d;obtain⟨rfl,g⟩:=K9 m j;exact⟨oK i e f g,(oU i e f g).1,(oU i e f g).2⟩
def mX(I:Inv X pins σ H s)(hK:W.K=X.K):∀(n:Nat){A:Ey}{x y:PV}{b:Bool}{K O:V}{u v:Value}{N M N' Y:Ee},Ja n x y=some b->yj W N M H x K->yj W N' Y H y O->RelV K u->RelV O v->A.units+n<cLine->
  SeqAt.EqAt A s u v b/\SeqAt.RcAt A s u v b/\SeqAt.RcNeAt A s u v (!b):=by
 intro n
 induction n with
 |zero=>intro A x y b K O u v N M N' Y h i g a d _;exact XA (by cases x<;>cases y<;>exact h) i g a d
 |succ n ih=>
  intro A x y b K O u v N M N' Y h i g a d hu;have top:∀{p q:Addr},u=.ref p->v=.ref q->K=.ref p->O=.ref q->SeqAt.RcAt A s u v b/\SeqAt.RcNeAt A s u v (!b)->SeqAt.EqAt A s u v b/\SeqAt.RcAt A s u v b/\SeqAt.RcNeAt A s u v (!b):=λ{p q} e1 e2 e3 e4 Z=>by
   refine⟨?_,Z⟩;by_cases c:p=q
   .subst c;rw[e1,e2];rw[Jf I hK h (e3▸i) (e4▸g)];exact a16 _
   .rw[e1,e2]at Z ⊢;exact SeqAt.EqAt.of_refs c Z.1
  cases x with
  |l R=>
   cases y with
   |l S=>
    obtain⟨p,vs,rfl,_,e,r⟩:=i;obtain⟨p',vs',rfl,_,Q,P⟩:=g;cases a;cases d;refine top rfl rfl rfl rfl ?_;obtain⟨us,L,B,_⟩:=I.list (SqL.of e);obtain⟨ws,J,C,_⟩:=I.list (SqL.of Q);have o:us.toArray.size=R.length:=by rw[F0,<- L.length,r.len]
    have F:ws.toArray.size=S.length:=by rw[F0,<- J.length,P.len]
    by_cases w:R.length=S.length
    .obtain⟨f,hf,rfl⟩:=Xy h;rw[w,T2,a2C,Nat.min_self,<- w,<- o];have G:=cC (A:=A.in1) (e:=f) (s:=s) L J λj x y u v hx hy a d=>by obtain⟨U,z,E⟩:=r.rS hx;obtain⟨T,m,D⟩:=P.rS hy;exact(ih (A:=A.in1) (hf j U T z m) (yj.iff.mpr E) (yj.iff.mpr D) a d (by show A.units+1+n<cLine;omega)).1
     exact⟨SeqAt.RcAt.lists B.isList C.isList (by rw[o,F,w]) (by omega) G,SeqAt.RcNeAt.lists B.isList C.isList (by rw[o,F,w]) (by omega) G⟩
    .rw[Xx h w];exact⟨a1S B.isList C.isList (by rw[o,F];simpa using w) (by omega),SeqAt.RcNeAt.lists_lengths B.isList C.isList (by rw[o,F];simpa using w) (by omega)⟩
   |_=>exact XA h i g a d
  |t R=>
   cases y with
   |t S=>
    obtain⟨p,vs,rfl,e,r⟩:=i;obtain⟨p',vs',rfl,Q,P⟩:=g;cases a;cases d;refine top rfl rfl rfl rfl ?_;rw[hK]at e Q;obtain⟨us,L,B,_⟩:=I.tuple e;obtain⟨ws,J,C,_⟩:=I.tuple Q;have o:us.toArray.size=R.length:=by rw[F0,<- L.length,r.len]
    have F:ws.toArray.size=S.length:=by rw[F0,<- J.length,P.len]
    obtain⟨f,hf,rfl⟩:=Xy h;have G:=cC (A:=A.in1) (e:=f) (s:=s) L J λj x y u v hx hy a d=>by obtain⟨U,z,E⟩:=r.rS hx;obtain⟨T,m,D⟩:=P.rS hy;exact(ih (A:=A.in1) (hf j U T z m) (yj.iff.mpr E) (yj.iff.mpr D) a d (by show A.units+1+n<cLine;omega)).1
    rw[<- o,<- F];exact⟨SeqAt.RcAt.tuples B C (by omega) G,SeqAt.RcNeAt.tuples B C (by omega) G⟩
   |_=>exact XA h i g a d
  |_=>exact XA (by cases y<;>exact h) i g a d
def xH{es:Ei}{vs:EL}(r:KV es vs){k:Key}{v:V}(h:Qy es k=some v):∃u,valueAt vs k=some u/\RelV v u:=JF.some_of (v:=v) (o:=valueAt vs k) (by rw[<- h];exact KV.val r k)
def rW{es:Ei}{vs:EL}(r:KV es vs){k:Key}(h:Qy es k=none):valueAt vs k=none:=by
 have:=KV.val r k;rw[h]at this;cases e:valueAt vs k with
 |none=>rfl
 |some u=>rw[e]at this;exact this.elim
theorem XB(I:Inv X pins σ H s)(z:W.K=X.K){n:Nat}{A:Ey}(w:A.units+n<cLine){b:Er}{o:Ei}{x:EL}{M F:Ee}(d:qp W F H b o)(f:KV o x):
  ∀{a:Er}{m:Ei}{l:EL}{r:Bool},qp W M H a m->KV m l->bp (Ja n) b a=some r->KeqHits A s x l r
 |[],_,_,_,h,k,e=>by cases(show _=_ from h);cases k;cases e;exact .nil
 |B::a,_,_,r,h,k,e=>by
  obtain⟨v,q,rfl,N,D⟩:=h;cases k with
  |@cons _ u _ O L K=>
   obtain⟨P,u⟩:=u;obtain⟨E,J⟩:=L;cases E;unfold bp at e;cases c:zr b B.1 with
   |none=>rw[c]at e;cases e;exact .miss (rW f (d.uq c))
   |some y=>rw[c]at e;obtain⟨p,q,hp,G,rfl⟩:=wb e;obtain⟨Q,j,C⟩:=d.get c;obtain⟨R,i,g⟩:=xH f j;exact .hit i (mX I z n hp (yj.iff.mpr N) (yj.iff.mpr C) J g w).1 (XB I z w d f D K G)
end
def B_(W:RC)(a:Bool):R2:=λd c H Q=>∃M x y b,yj W (λ_=>True) M H x d/\yj W (λ_=>True) M H y c/\Bf 8 x y=some b/\Q (.bl (xor a b)) H
def gg:(∃a b,x=.d a/\y=.d b)\/Bf n x y=Ja n x y:=by
 cases x with
 |d a=>cases y with
  |d b=>exact .inl ⟨a,b,rfl,rfl⟩
  |_=>exact .inr rfl
 |_=>exact .inr rfl
def oV(F:W.K=X.K)(S:X.A.units+64<cLine):OpR X (compareOp .Eq) (B_ W false):=by
 intro E s R H P U u v Q I C G h;obtain⟨M,x,y,b,J,w,e,q⟩:=h;rw[M8]at q;rcases gg (n:=8) (x:=x) (y:=y)with⟨a,c,rfl,rfl⟩|z
 .obtain⟨p,T,rfl,_,O,D⟩:=J;obtain⟨Y,L,rfl,_,hb,j⟩:=w;cases C;cases G;obtain⟨_,na,K,o,g⟩:=wI I.hok O;obtain⟨_,l,N,m,B⟩:=wI I.hok hb;have i:K.length=a.length:=by rw[<- O2 o];have:=M4 List.length (qp.iff.mp D).1;simpa using this
  have f:N.length=c.length:=by rw[<- O2 m];have:=M4 List.length (qp.iff.mp j).1;simpa using this
  have e:(if a.length=c.length then bp (Ja 8) c a else some false)=some b:=e;by_cases d:a.length=c.length
  .rw[if_pos d]at e;refine keq_eq na l g B (by omega) (λ_=>XB I F (A:=X.A.in1) (by show X.A.units+1+8<cLine;omega) j m D o e) ?_;rw[i,f,d,T2,a0b];exact⟨.bl b,H,I,rfl,q⟩
  .rw[if_neg d]at e;cases e;refine keq_eq (r:=false) na l g B (by omega) (λz=>absurd (by rw[<- i,<- f,z]) d) ?_;rw[a0F];exact⟨.bl false,H,I,rfl,q⟩
 .rw[z]at e;exact(mX I F 8 e J w C G (by omega)).2.1 _ _ _ _ ⟨.bl b,H,I,rfl,q⟩
def xI(F:W.K=X.K)(S:X.A.units+64<cLine):OpR X (compareOp .NotEq) (B_ W true):=by
 intro E s R H P U u v Q I C G h;obtain⟨M,x,y,b,J,w,e,q⟩:=h;rw[a0Q]at q;rcases gg (n:=8) (x:=x) (y:=y)with⟨a,c,rfl,rfl⟩|z
 .obtain⟨p,T,rfl,_,O,D⟩:=J;obtain⟨Y,L,rfl,_,hb,j⟩:=w;cases C;cases G;obtain⟨_,na,K,o,g⟩:=wI I.hok O;obtain⟨_,l,N,m,B⟩:=wI I.hok hb;have i:K.length=a.length:=by rw[<- O2 o];have:=M4 List.length (qp.iff.mp D).1;simpa using this
  have f:N.length=c.length:=by rw[<- O2 m];have:=M4 List.length (qp.iff.mp j).1;simpa using this
  have e:(if a.length=c.length then bp (Ja 8) c a else some false)=some b:=e;by_cases d:a.length=c.length
  .rw[if_pos d]at e;refine keq_ne na l g B (by omega) (λ_=>XB I F (A:=X.A.in1) (by show X.A.units+1+8<cLine;omega) j m D o e) ?_;rw[i,f,d,T2,a0b];exact⟨.bl (!b),H,I,rfl,q⟩
  .rw[if_neg d]at e;cases e;refine keq_ne (r:=false) na l g B (by omega) (λz=>absurd (by rw[<- i,<- f,z]) d) ?_;rw[a0F];exact⟨.bl (!false),H,I,rfl,q⟩
 .rw[z]at e;exact(mX I F 8 e J w C G (by omega)).2.2 _ _ _ _ ⟨.bl (!b),H,I,rfl,q⟩
def yP(a:Bool)(x y:PV):Out PV:=match Bf 8 x y with|some b=>.ok (.b (xor a b))|none=>.wall
def gh:Lf2 W (B_ W neg) (yP neg):=λM C B H x y v u Q n a c q=>by
 unfold yP at q;cases e:Bf 8 x y with
 |none=>rw[e]at q;exact q.elim
 |some b=>rw[e]at q;exact⟨M,x,y,b,a,c,e,q _ H (zz.refl _) rfl⟩
def gi(d:X.A.units+64<cLine)(e:EM X C S w1 a m1)(f:EM X C S w2 b m2):EM X C S false (.Compare a [.Eq] [b] pos) (mOp (yP false) m1 m2):=λc=>UM (oV c.symm d) gh e f (Kq _ (by decide) (by decide)) c
def kj(d:X.A.units+64<cLine)(e:EM X C S w1 a m1)(f:EM X C S w2 b m2):TM X C S (.Compare a [.Eq] [b] pos) (zB (mOp (yP false) m1 m2)):=λc=>yX (oV c.symm d) gh e f (Kq _ (by decide) (by decide)) c
def XE(d:X.A.units+64<cLine)(e:EM X C S w1 a m1)(f:EM X C S w2 b m2):TM X C S (.Compare a [.NotEq] [b] pos) (zB (mOp (yP true) m1 m2)):=λc=>yX (xI c.symm d) gh e f (Kq _ (by decide) (by decide)) c
def inP(v:V):List PV->Option Bool
 |[]=>some false
 |y::r=>match toV y,inP v r with
  |some u,some b=>some (eqV u v||b)
  |_,_=>none
theorem gj{W:RC}{M:Ee}{H:Hp}{v:V}:∀{a:Ew}{d:En}{b:Bool},yc W M H a d->inP v a=some b->d.all J_=true/\inV v d=b
 |[],_,_,h,e=>by cases(show _=_ from h);cases e;exact⟨rfl,rfl⟩
 |y::a,_,b,h,e=>by
  obtain⟨u,r,rfl,l,m⟩:=h;unfold inP at e;cases c:toV y with
  |none=>rw[c]at e;cases e
  |some o=>
   cases g:inP v a with
   |none=>rw[c,g]at e;cases e
   |some n=>rw[c,g]at e;cases e;obtain⟨rfl,f⟩:=K9 (yj.iff.mpr l) c;obtain⟨j,i⟩:=gj m g;exact⟨by rw[a0a,f,j];rfl,by unfold inV at i ⊢;rw[P7,i]⟩
def Bg(K:EE)(b:Bool):R2:=λx y H Q=>(rIn K b x y H Q\/∃i j,x=.str i/\y=.str j/\Q (.bl (xor b (!(Builtin.Str.occurrences j i 0 j.length 1).isEmpty))) H)\/∃a o,y=.ref a/\aJ H a x o/\Q (.bl (xor b o.isSome)) H
def oW(f:X.A.units+1<cLine):OpR X (compareOp .In) (Bg X.K false):=by
 intro b s e H x y v u Q I d c h;rcases h with(h|⟨i,j,e1,e2,q⟩)|⟨a,o,rfl,g,q⟩
 .exact fI b s e H x y v u Q I d c h
 .exact fu b s e H x y v u Q I d c ⟨i,j,e1,e2,by rw[M8]at q;exact q⟩
 .obtain rfl:u=Value.ref a:=c;exact DI f I g d λm l=>⟨.bl o.isSome,H,l,rfl,by rw[M8]at q;exact q⟩
def QD(f:X.A.units+1<cLine):OpR X (compareOp .NotIn) (Bg X.K true):=by
 intro b s e H x y v u Q I d c h;rcases h with(h|⟨i,j,e1,e2,q⟩)|⟨a,o,rfl,g,q⟩
 .exact Ux b s e H x y v u Q I d c h
 .exact Uy b s e H x y v u Q I d c ⟨i,j,e1,e2,by rw[a0Q]at q;exact q⟩
 .obtain rfl:u=Value.ref a:=c;exact rF f I g d λm l=>⟨.bl (!o.isSome),H,l,rfl,by rw[a0Q]at q;exact q⟩
def pIn(a:Bool):PV->PV->Out PV
 |x,.l c=>vk (((toV x).bind λv=>inP v c).map λb=>.b (xor a b))
 |x,.t c=>vk (((toV x).bind λv=>inP v c).map λb=>.b (xor a b))
 |.s i,.s j=>.ok (.b (xor a (!(Builtin.Str.occurrences j i 0 j.length 1).isEmpty)))
 |x,.d d=>vk ((pk x).map λk=>.b (xor a (zr d k).isSome))
 |_,_=>.wall
def gk:(if neg=true then !b else b)=xor neg b:=by cases neg<;>simp
def rX:Lf2 W (Bg W.K neg) (pIn neg):=λM C B H x y v u Q n d g q=>by
 unfold pIn at q;split at q
 .obtain⟨z,e,q⟩:=qr q;obtain⟨b,hb,rfl⟩:=u8.mp e;obtain⟨l,a,hb⟩:=F5.mp hb;obtain⟨p,h,rfl,_,c,r⟩:=g;obtain⟨rfl,f⟩:=K9 d a;obtain⟨j,i⟩:=gj r hb;exact .inl (.inl ⟨p,h,rfl,.inl (SqL.of c),f,j,by rw[i,gk];exact q _ H (zz.refl _) rfl⟩)
 .obtain⟨z,e,q⟩:=qr q;obtain⟨b,hb,rfl⟩:=u8.mp e;obtain⟨l,a,hb⟩:=F5.mp hb;obtain⟨p,h,rfl,c,r⟩:=g;obtain⟨rfl,f⟩:=K9 d a;obtain⟨j,i⟩:=gj r hb;exact .inl (.inl ⟨p,h,rfl,.inr c,f,j,by rw[i,gk];exact q _ H (zz.refl _) rfl⟩)
 .exact .inl (.inr ⟨_,_,d,g,q _ H (zz.refl _) rfl⟩)
 .obtain⟨z,e,q⟩:=qr q;obtain⟨k,m,rfl⟩:=u8.mp e;obtain⟨p,o,rfl,_,c,r⟩:=g;exact .inr ⟨p,_,rfl,by rw[QC d m];exact aJ.rk c,by rw[r.DO];exact q _ H (zz.refl _) rfl⟩
 .exact q.elim
section
variable {X:Cx}{C:LC}{S:Eb}{e a b:Eh}{es:Eg}{w w1 w2:Bool}{ws:Ek}{m1 m2:ME}{ms:MA}{pos p:Pos}{x:Str}
def cG(d:X.A.units+1<cLine)(f:EM X C S w1 a m1)(h:EM X C S w2 b m2)(g:behindInMarks .NotIn b=false:=by with_unfolding_all rfl):EM X C S false (.Compare a [.NotIn] [b] pos) (mOp (pIn true) m1 m2):=λc=>UM (QD d) (by rw[c];exact rX) f h g c
def bq(d:X.A.units+1<cLine)(f:EM X C S w1 a m1)(h:EM X C S w2 b m2)(g:behindInMarks .In b=false:=by with_unfolding_all rfl):TM X C S (.Compare a [.In] [b] pos) (zB (mOp (pIn false) m1 m2)):=λc=>yX (oW d) (by rw[c];exact rX) f h g c
def vm(d:X.A.units+1<cLine)(f:EM X C S w1 a m1)(h:EM X C S w2 b m2)(g:behindInMarks .NotIn b=false:=by with_unfolding_all rfl):TM X C S (.Compare a [.NotIn] [b] pos) (zB (mOp (pIn true) m1 m2)):=λc=>yX (QD d) (by rw[c];exact rX) f h g c
def mY(W:RC)(M:Ee)(H:Hp):List PV->List V->Prop
 |[],c=>c=[]
 |x::d,c=>∃v r,c=v::r/\yj W (λ_=>True) M H x v/\mY W M H d r
def RVs.weak{B:Bs}{P:Em}{H:Hp}:∀{ws:Ek}{g:Ew}{f:En},RVs C B S P H ws g f->mY C.W (Mof B S P) H g f
 |[],_,_,⟨c,d⟩=>by subst c;subst d;rfl
 |w::ws,_,_,⟨x,v,l,j,c,d,h,i⟩=>by subst c;subst d;exact⟨v,j,rfl,h.weak,RVs.weak i⟩
def LfC(W:RC)(r:List V->Hp->VK->Prop)(p:Ep):Prop:=∀(M:Ee)(C:LC)(B:Bs) H xs vs Q,New M H->mY W M H xs vs->zK C B H (Rep W M) Q (p xs)->r vs H Q
def LfF(W:RC)(r:List V->Hp->VK->Prop)(p:Ep):Prop:=∀(M:Ee)(C:LC)(B:Bs) H xs vs Q,New M H->mY W M H xs vs->zK C B H (RFr W M H) Q (p xs)->r vs H Q
def zh(g:Ep)(ms:MA):ME:=λc=>(ms c).bind g
def xJ(L:LfC C.W r g)(h:LA C S ws ta ms):LE C S false (tCB r ta) (zh g ms):=λB P H d f R Q q=>
 h B P H d f R _ (yK q λn c o l i j=>L _ C B o n c Q (R.keep l).new i.weak (RV.eq▸j))
def K_(h:zK C B H (RFr W M H) Q o)(s:zz H H2):zK C B H2 (RFr W M H2) Q o:=by
 cases o with
 |ok x=>exact λv g d f=>h v g (s.trans d) (let⟨p,e,hp,hr⟩:=f;⟨p,e,zz.none s hp,hr⟩)
 |exc c fs=>exact h
 |wall=>exact h
def wL(h:zK C B H (RFr W M H) Q (o.bind f))(k:∀r v d,zz H d->R' d r v->zK C B d (RFr W M d) Q (f r)->Q' v d):Xu C B H R' Q' o:=by
 cases o with
 |ok r=>exact λv d s g=>k r v d s g (K_ (o:=f r) h s)
 |exc c fs=>exact h
 |wall=>exact h
def br(h:zK C B H (RFr W M H) Q (o.bind f))(k:∀r v d,zz H d->R' d r v->zK C B d (RFr W M d) Q (f r)->Q' v d):zK C B H R' Q' o:=by
 cases o with
 |ok r=>exact λv d s g=>k r v d s g (K_ (o:=f r) h s)
 |exc c fs=>exact h
 |wall=>exact h
def xK(L:LfF C.W r g)(h:LA C S ws ta ms):LFr C S (tCB r ta) (zh g ms):=λB P H d f R Q q=>
 h B P H d f R _ (wL q λn c o l i j=>L _ C B o n c Q (R.keep l).new i.weak j)
def cH{id:String}{r:List V->Hp->VK->Prop}{g:Ep}(j:X.K=C.W.K->Zz X (.builtin id) r)(L:LfC C.W r g)(l:Gl X x)(i:X.mg x=none)(h:bootBuiltins x=some (.builtin id))(o:AM X C S ws (e::es) ms)(s:x≠"__name__":=by decide)(d:(x==("__debug__":Str))=false:=by decide)
  (he:starEach (e::es) X.env=(false,eval e X.env)::starEach es X.env:=by rfl) (c:(backTo pos (starEach es X.env)).any (·.1)=false:=by rfl):EM X C S false (.Call (.Name x p) (e::es) [] pos) (zh g ms):=λf=>by
 obtain⟨u,n,q⟩:=o f;exact⟨_,ck (j f) l i h n s d he c,xJ L q⟩
def mZ{id:String}{r:List V->Hp->VK->Prop}{g:Ep}(j:X.K=C.W.K->Zz X (.type id) r)(L:LfC C.W r g)(l:Gl X x)(i:X.mg x=none)(h:bootBuiltins x=some (.type id))(o:AM X C S ws (e::es) ms)(s:x≠"__name__":=by decide)(d:(x==("__debug__":Str))=false:=by decide)
  (he:starEach (e::es) X.env=(false,eval e X.env)::starEach es X.env:=by rfl) (c:(backTo pos (starEach es X.env)).any (·.1)=false:=by rfl):EM X C S false (.Call (.Name x p) (e::es) [] pos) (zh g ms):=λf=>by
 obtain⟨u,n,q⟩:=o f;exact⟨_,Uv (j f) l i h n s d he c,xJ L q⟩
def cI{id:String}{r:List V->Hp->VK->Prop}{g:Ep}(j:X.K=C.W.K->Zz X (.type id) r)(L:LfF C.W r g)(l:Gl X x)(i:X.mg x=none)(h:bootBuiltins x=some (.type id))(o:AM X C S ws (e::es) ms)(s:x≠"__name__":=by decide)(d:(x==("__debug__":Str))=false:=by decide)
  (he:starEach (e::es) X.env=(false,eval e X.env)::starEach es X.env:=by rfl) (c:(backTo pos (starEach es X.env)).any (·.1)=false:=by rfl):FM X C S (.Call (.Name x p) (e::es) [] pos) (zh g ms):=λf=>by
 obtain⟨u,n,q⟩:=o f;exact⟨_,Uv (j f) l i h n s d he c,xK L q⟩
end
def kf:List PV->Out PV
 |[.l a]=>.ok (.i a.length)
 |[.t a]=>.ok (.i a.length)
 |[.sc a]=>.ok (.i a.length)
 |[.d a]=>.ok (.i a.length)
 |[.s z]=>if z.length<=sizeLine then .ok (.i z.length)else .wall
 |_=>.wall
def qp.len(h:qp W M H a es):es.length=a.length:=by have:=M4 List.length (qp.iff.mp h).1;simpa using this
def xM(K:EE):List V->Hp->VK->Prop:=λc H Q=>(∃x n,c=[x]/\CV K x H n/\Q (.int n) H)\/∃a b,c=[V.ref a]/\Rd H a (.dK b)/\Q (.int b.length) H
def gm:Zz X (.builtin "len") (λc H Q=>∃a b,c=[V.ref a]/\Rd H a (.dK b)/\Q (.int b.length) H):=by intro d s i H c l Q I r h;obtain⟨a,b,rfl,e,q⟩:=h;obtain⟨u,rfl,g⟩:=vals1 r;cases g;exact BS I e λt j f=>⟨.int _,H,f,⟨t,rfl⟩,q⟩
def xN:LfC W (xM W.K) kf:=λM C B H g c Q n h q=>by
 unfold kf at q;split at q
 .obtain⟨v,r,rfl,⟨p,c,rfl,_,b,d⟩,a⟩:=h;cases(show _=_ from a);exact .inl ⟨_,c.length,rfl,.inl ⟨c,SqL.of b,rfl⟩,q _ H (zz.refl _) (by rw[d.len];rfl)⟩
 .obtain⟨v,r,rfl,⟨p,c,rfl,b,d⟩,a⟩:=h;cases(show _=_ from a);exact .inl ⟨_,c.length,rfl,.inr ⟨c,b,rfl⟩,q _ H (zz.refl _) (by rw[d.len];rfl)⟩
 .obtain⟨v,r,rfl,⟨p,rfl,b⟩,a⟩:=h;cases(show _=_ from a);exact .inl ⟨_,_,rfl,.inl ⟨_,b.sq,rfl⟩,q _ H (zz.refl _) (by rw[D0];rfl)⟩
 .obtain⟨v,r,rfl,⟨p,e,rfl,_,b,d⟩,a⟩:=h;cases(show _=_ from a);exact .inr ⟨_,e,rfl,b,q _ H (zz.refl _) (by rw[d.len];rfl)⟩
 .split at q
  .rename_i hz;obtain⟨v,r,rfl,f,a⟩:=h;cases(show _=_ from a);cases(show _=_ from f);exact .inl ⟨_,_,rfl,⟨hz,rfl⟩,q _ H (zz.refl _) rfl⟩
  .exact q.elim
 .exact q.elim
def qW(a:Gl X "len")(b:X.mg "len"=none)(c:AM X C S ws [e] ms)(he:starEach [e] X.env=[(false,eval e X.env)]:=by rfl):EM X C S false (.Call (.Name "len" p) [e] [] pos) (zh kf ms):=
 cH (r:=xM C.W.K) (λd=>d▸mj.or gm) xN a b PySem.boot_len c (he:=he)
def rY:List PV->Out PV
 |[.l a]=>.ok (.l a)
 |[.t a]=>.ok (.l a)
 |[.sc a]=>.ok (.l (a.map PV.i))
 |_=>.wall
def Va(r:yc W M H xs vs)(b:H l=none):RFr W M H (upd H l (.lst vs)) (.l xs) (.ref l):=
 ⟨l,rfl,b,vs,zi,(r.sub λa m n=>⟨m,λz=>n (z▸b)⟩).same (zz.upd b)⟩
def rZ(r:qp W M H xs vs)(b:H l=none):RFr W M H (upd H l (.dK vs)) (.d xs) (.ref l):=
 ⟨l,rfl,b,vs,zi,(r.sub λa m n=>⟨m,λz=>n (z▸b)⟩).same (zz.upd b)⟩
def r8:LfF W (λf H Q=>∃p d,f=[.ref p]/\(SqL W.K H p d\/SqT W.K H p d)/\∀l,H l=none->Q (.ref l) (upd H l (.lst d))) rY:=λM C B H f c Q n h q=>by
 unfold rY at q;split at q
 .obtain⟨v,r,rfl,⟨p,c,rfl,_,a,e⟩,b⟩:=h;cases(show _=_ from b);exact⟨p,c,rfl,.inl (SqL.of a),λl a=>q _ _ (zz.upd a) (Va e a)⟩
 .obtain⟨v,r,rfl,⟨p,c,rfl,a,e⟩,b⟩:=h;cases(show _=_ from b);exact⟨p,c,rfl,.inr a,λl a=>q _ _ (zz.upd a) (Va e a)⟩
 .obtain⟨v,r,rfl,⟨p,rfl,a⟩,b⟩:=h;cases(show _=_ from b);exact⟨p,_,rfl,.inl a.sq,λl a=>q _ _ (zz.upd a) (Va yc.ints a)⟩
 .exact q.elim
def toI:PV->Option Int
 |.i a=>some a
 |_=>none
def oX:List PV->Option (List Int)
 |[]=>some []
 |x::r=>match toI x,oX r with|some a,some b=>some (a::b)|_,_=>none
theorem gp{W:RC}{M:Ee}{H:Hp}:∀{c:Ew}{g:En}{d:EB},yc W M H c g->oX c=some d->g=d.map V.int
 |[],_,_,h,e=>by cases(show _=_ from h);cases e;rfl
 |x::c,_,d,h,e=>by
  obtain⟨v,r,rfl,j,l⟩:=h;unfold oX at e;cases x with
  |i a=>
   cases f:oX c with
   |none=>rw[f]at e;cases e
   |some b=>rw[f]at e;cases e;rw[E6,<- gp l f,(show v=_ from j)]
  |_=>cases e
def jb(W:RC)(M:Ee)(H:Hp):List Bool->List PV->List V->Prop
 |[],b,a=>b=[]/\a=[]
 |w::e,b,a=>∃x v d c,b=x::d/\a=v::c/\yj W (if w=true then λ_=>True else M) M H x v/\jb W M H e d c
def RVs.args{C:LC}{B:Bs}{S:Eb}{P:Em}{H:Hp}:∀{a:Ek}{c:Ew}{b:En},RVs C B S P H a c b->jb C.W (Mof B S P) H a c b
 |[],_,_,h=>h
 |w::a,_,_,⟨x,v,e,j,g,i,d,f⟩=>⟨x,v,e,j,g,i,d,RVs.args f⟩
def jb.len{W:RC}{M:Ee}{H:Hp}:∀{a:Ek}{f:Ew}{d:En},jb W M H a f d->d.length=a.length/\f.length=a.length
 |[],_,_,⟨b,c⟩=>by subst b;subst c;exact⟨rfl,rfl⟩
 |w::a,_,_,⟨x,v,h,i,b,c,g,e⟩=>by subst b;subst c;exact⟨by rw[D4,D4,(jb.len e).1],by rw[D4,D4,(jb.len e).2]⟩
def jb.same{W:RC}{M:Ee}{H H':Hp}(s:zz H H'):∀{a:Ek}{c:Ew}{b:En},jb W M H a c b->jb W M H' a c b
 |[],_,_,h=>h
 |w::a,_,_,⟨x,v,e,j,g,i,d,f⟩=>⟨x,v,e,j,g,i,d.same s,jb.same s f⟩
def RtV(W:RC)(fr:Bool)(M:Ee)(H b:Hp)(r:PV)(v:V):Prop:=if fr=true then RFr W (λa=>M a\/H a=none) H b r v else Rep W (λa=>M a\/H a=none) b r v
def Ca(W:RC)(fr:Bool)(M:Ee)(H:Hp)(Q:VK)(E:XK):Out PV->Prop
 |.ok r=>∀v b,zz H b->RtV W fr M H b r v->Q v b
 |.exc c fs=>∀e d f b,zz H b->b e=some (XC e (W.cls c) d)->b d=some (XD d f)->ju W (λa=>M a\/H a=none) b fs f->E (.ref e) (some d) b
 |.wall=>False
def lsp(W:RC)(fr:Bool)(ws:Ek)(g:Ep):Sp:=λb H Q E=>∃M a,jb W M H ws a b/\Ca W fr M H Q E (g a)
def gq{W:RC}{fr:Bool}{ws:Ek}{g:Ep}{n:Nat}(h:ws.length=n):∀b H Q E,lsp W fr ws g b H Q E->b.length=n:=λb H Q E ⟨M,c,a,_⟩=>a.len.1.trans h
def RFr.sub(h:RFr W M H H2 x v)(s:∀a,M a->M' a):RFr W M' H H2 x v:=by obtain⟨p,e,hp,h⟩:=h;exact⟨p,e,hp,h.gen rfl Fr.refl λa m _=>⟨s a m.1,m.2⟩⟩
section
variable {X:Cx}{C:LC}{S:Eb}{e a b o:Eh}{es:Eg}{w fr:Bool}{ws:Ek}{m:ME}{ms:MA}{pos p qH:Pos}{x mn:Str}{k:Nat}{f:Addr}{fd:Eu}{ps:Ea}{g:Ep}
def gu(R:Rel C.W B S P H σ ρ)(q:XPo C B c fs):∀e h es d,zz H d->d e=some (XC e (C.W.cls c) h)->d h=some (XD h es)->ju C.W (λa=>Mof B S P a\/H a=none) d fs es->C.E (.ref e) (some h) d:=
 λe h es d s i j l=>q e h es d (R.same.trans s) i j (l.sub λa m _=>m.elim (λm=>m.1.1) λn=>.inr (zz.none R.same n))
def cJ{B:Bs}{P:Em}{H:Hp}{i:St}{ρ:Sto}{Q:VK}{o:Out PV}(R:Rel C.W B S P H i ρ)(q:zK C B H (RV C B S P false) Q o):Ca C.W fr (Mof B S P) H Q C.E o:=by
 have sM:∀a,(Mof B S P a\/H a=none)->Mof B S P a:=λa m=>m.elim id λn=>R.new a n;cases o with
 |ok r=>
  intro v h s d;refine q v h s (RV.of ?_);unfold RtV at d;cases fr with
  |true=>rw[if_pos rfl]at d;exact(d.sub sM).rep R.new
  |false=>rw[if_neg F6]at d;exact d.sub λa m _=>sM a m
 |exc c fs=>exact gu R q
 |wall=>exact q
def gw{B:Bs}{P:Em}{H:Hp}{i:St}{ρ:Sto}{Q:VK}{o:Out PV}(R:Rel C.W B S P H i ρ)(q:zK C B H (RFr C.W (Mof B S P) H) Q o):Ca C.W true (Mof B S P) H Q C.E o:=by
 have sM:∀a,(Mof B S P a\/H a=none)->Mof B S P a:=λa m=>m.elim id λn=>R.new a n;cases o with
 |ok r=>intro v h s d;unfold RtV at d;rw[if_pos rfl]at d;exact q v h s (d.sub sM)
 |exc c fs=>exact gu R q
 |wall=>exact q
def bt(F:qV X.prog X.w X.K X.mg X.base (CXe X.prog X.w) k f fd ps (lsp C.W fr ws g))(n:vC k X.A)(s:Gl X x)(A:X.mg x=some (.ref f))(l:keepIn X.K (.ref f)=true)(hb:Binds X.K fd ps [])(z:Passes (CXe X.prog X.w) X C.E)(E:AM X C S ws (e::es) ms)
  (c:(x==("__debug__":Str))=false:=by decide) (he:starEach (e::es) X.env=(false,eval e X.env)::starEach es X.env:=by rfl) (d:(backTo pos (starEach es X.env)).any (·.1)=false:=by rfl):EM X C S false (.Call (.Name x p) (e::es) [] pos) (zh g ms):=λy=>by
 obtain⟨J,D,j⟩:=E y;refine⟨_,fE F n s A l hb .nil z D c he d,λB P H h i R Q q=>j B P H h i R _ (yK q λu I K G r v=>?_)⟩;rw[M5];exact⟨_,u,r.args,cJ (R.keep G) v⟩
def XF(F:qV X.prog X.w X.K X.mg X.base (CXe X.prog X.w) k f fd ps (lsp C.W true ws g))(n:vC k X.A)(s:Gl X x)(A:X.mg x=some (.ref f))(l:keepIn X.K (.ref f)=true)(hb:Binds X.K fd ps [])(z:Passes (CXe X.prog X.w) X C.E)(E:AM X C S ws (e::es) ms)
  (c:(x==("__debug__":Str))=false:=by decide) (he:starEach (e::es) X.env=(false,eval e X.env)::starEach es X.env:=by rfl) (d:(backTo pos (starEach es X.env)).any (·.1)=false:=by rfl):FM X C S (.Call (.Name x p) (e::es) [] pos) (zh g ms):=λy=>by
 obtain⟨J,D,j⟩:=E y;refine⟨_,fE F n s A l hb .nil z D c he d,λB P H h i R Q q=>j B P H h i R _ (wL q λu I K G r v=>?_)⟩;rw[M5];exact⟨_,u,r.args,gw (R.keep G) v⟩
def aK(cs:Eb)(f:Str)(m:ME):ME:=λd=>(m d).bind λx=>match x with
 |.o c fs=>if c∈cs then vk (fs.lookup f)else .wall
 |_=>.wall
def Vb(h:EM X C S w e m)(l:∀c∈cs,Cls X.K (C.W.cls c)/\ZG X.K (C.W.cls c) fn)(hb:attributeBase e fn X.env (eval e X.env)=eval e X.env:=by rfl):EM X C S false (.Attribute e fn pos) (aK cs fn m):=λD=>by
 obtain⟨G,F,z⟩:=h D;refine⟨_,uT F hb,λB P H r s R Q q=>z B P H r s R _ (zI q λx v j I A d=>?_)⟩;cases x with
 |o c fs=>
  obtain⟨p,u,es,rfl,_,hp,hf⟩:=A;by_cases i:c∈cs
  .have d:zK C B j (RV C B S P false) Q (if c∈cs then vk (fs.lookup fn)else .wall):=d;rw[if_pos i]at d;obtain⟨y,e,d⟩:=qr d;obtain⟨v,n,E⟩:=hf.lookup e;exact⟨p,_,u,es,v,rfl,hp,(l c i).1,(l c i).2,n,d v j (zz.refl _) (RV.of E)⟩
  .have d:zK C B j (RV C B S P false) Q (if c∈cs then vk (fs.lookup fn)else .wall):=d;rw[if_neg i]at d;exact d.elim
 |_=>exact d.elim
def XG(tab:List (Nat×(List PV->Out PV)))(mn:Str)(m:ME)(ms:MA):ME:=λd=>(m d).bind λx=>match x with
 |.o c fs=>match tab.lookup c with
  |some g=>if(fs.lookup mn).isSome=true then .wall else(ms d).bind λh=>g (x::h)
  |none=>.wall
 |_=>.wall
def Bh(W:RC)(fr:Bool)(ws:Ek)(tab:List (Nat×(List PV->Out PV)))(K:Addr)(sp:Sp):Prop:=∃q∈tab,K=W.cls q.1/\sp=lsp W fr (true::ws) q.2
theorem lookup_mem{i:Type}:∀{d:List (Nat×i)}{c:Nat}{g:i},d.lookup c=some g->(c,g)∈d
 |[],_,_,h=>by cases h
 |q::r,c,g,h=>by
  rw[L5]at h;by_cases e:(c==q.1)=true
  .simp only[e]at h;cases h;rw[I0.mp e];exact D8
  .simp only[e]at h;exact D5 _ (lookup_mem h)
def gx{B:Bs}{P:Em}{H:Hp}{j:St}{ρ:Sto}{Q:VK}{c:Nat}{fs:Ex}{v:V}{tab:List (Nat×(List PV->Out PV))}{t:TA}(R:Rel C.W B S P H j ρ)(y:RV C B S P w H (.o c fs) v)
  (u:∀g,tab.lookup c=some g->fs.lookup mn=none->t j H λd i=>lsp C.W fr (true::ws) g (v::d) i Q C.E)
  (q:(∃g,tab.lookup c=some g/\fs.lookup mn=none)):∃a l es K s,Bh C.W fr ws tab K s/\v=.ref a/\H a=some (.ins K l es)/\es.lookup mn=none/\t j H λd i=>s (v::d) i Q C.E:=by
 obtain⟨g,n,r⟩:=q;have h:=u g n r;obtain⟨p,l,es,rfl,_,hp,hf⟩:=y;exact⟨p,l,es,_,_,⟨(c,g),lookup_mem n,rfl,rfl⟩,rfl,hp,hf.f9 r,h⟩
def RVs.consW{B:Bs}{P:Em}{H:Hp}{x:PV}{v:V}{xs:Ew}{vs:En}(h:RV C B S P w H x v)(t:RVs C B S P H ws xs vs):jb C.W (Mof B S P) H (true::ws) (x::xs) (v::vs):=⟨x,v,xs,vs,rfl,rfl,by rw[if_pos rfl];exact h.weak,t.args⟩
def gy(h:EM X C S w o m)(n:∀K G,Bh C.W fr ws tab K G->xx X.prog X.w X.K X.mg X.base X.A mn K G)(O:Passes (CXe X.prog X.w) X C.E)(U:AM X C S ws (e::es) ms)
  (u:starEach (e::es) X.env=(false,eval e X.env)::starEach es X.env:=by rfl) (s:(backTo pos (starEach es X.env)).any (·.1)=false:=by rfl)
  (W:eval (.Call (.Attribute o mn qH) (e::es) [] pos) X.env=(do
   let ov<-eval o X.env
   standAt qH.atName
   let(f,first)<-holding [ov] (getMethod ov mn pl)
   callWith pos f first (backTo pos (starEach (e::es) X.env)) (backToKw pos (keywordEach [] X.env))):=by rfl):EM X C S false (.Call (.Attribute o mn qH) (e::es) [] pos) (XG tab mn m ms):=λF=>by
 obtain⟨to,Y,N⟩:=h F;obtain⟨ta,T,M⟩:=U F;refine⟨_,cB (pl:=pl) Y n O T u s W,λB P H A l R Q q=>N B P H A l R _ (zI q λx v I y D d=>?_)⟩;cases x with
 |o c fs=>
  dsimp only at d;cases j:tab.lookup c with
  |none=>rw[j]at d;exact d.elim
  |some g=>
   rw[j]at d;dsimp only at d;cases r:fs.lookup mn with
   |some z=>rw[r]at d;exact d.elim
   |none=>rw[r]at d;have d:zK C B I (RV C B S P false) Q ((ms l).bind λE=>g (.o c fs::E)):=d;refine gx (R.keep y) D (λg' i _=>?_) ⟨g,j,r⟩;rw[j]at i;cases i;exact M B P I A l (R.keep y) _ (yK d λE Z H2 s2 J L=>⟨_,_,RVs.consW (RV.same D s2) J,cJ ((R.keep y).keep s2) L⟩)
 |_=>exact d.elim
def r9(h:EM X C S w o m)(n:∀K I,Bh C.W true ws tab K I->xx X.prog X.w X.K X.mg X.base X.A mn K I)(O:Passes (CXe X.prog X.w) X C.E)(U:AM X C S ws (e::es) ms)
  (u:starEach (e::es) X.env=(false,eval e X.env)::starEach es X.env:=by rfl) (s:(backTo pos (starEach es X.env)).any (·.1)=false:=by rfl)
  (W:eval (.Call (.Attribute o mn qH) (e::es) [] pos) X.env=(do
   let ov<-eval o X.env
   standAt qH.atName
   let(f,first)<-holding [ov] (getMethod ov mn pl)
   callWith pos f first (backTo pos (starEach (e::es) X.env)) (backToKw pos (keywordEach [] X.env))):=by rfl):FM X C S (.Call (.Attribute o mn qH) (e::es) [] pos) (XG tab mn m ms):=λG=>by
 obtain⟨to,Y,N⟩:=h G;obtain⟨ta,T,M⟩:=U G;refine⟨_,cB (pl:=pl) Y n O T u s W,λB P H D l R Q q=>N B P H D l R _ (br q λx v A y E d=>?_)⟩;cases x with
 |o c fs=>
  dsimp only at d;cases j:tab.lookup c with
  |none=>rw[j]at d;exact d.elim
  |some g=>
   rw[j]at d;dsimp only at d;cases r:fs.lookup mn with
   |some z=>rw[r]at d;exact d.elim
   |none=>rw[r]at d;have d:zK C B A (RFr C.W (Mof B S P) A) Q ((ms l).bind λF=>g (.o c fs::F)):=d;refine gx (R.keep y) E (λg' i _=>?_) ⟨g,j,r⟩;rw[j]at i;cases i;exact M B P A D l (R.keep y) _ (wL d λF Z H2 s2 J L=>⟨_,_,RVs.consW (RV.same E s2) J,gw ((R.keep y).keep s2) L⟩)
 |_=>exact d.elim
def erase(H:Hp)(x:Addr):Hp:=λa=>if a=x then none else H a
def C5(W:RC)(M:Ee)(H:Hp)(x:Addr)(Q:VK)(E:XK):Out PV->Prop
 |.ok r=>∀d,zz (erase H x) d->K0 W (λa=>(M a\/erase H x a=none)/\a≠x) d x r->Q .non d
 |.exc c fs=>∀e h es d,zz (erase H x) d->d e=some (XC e (W.cls c) h)->d h=some (XD h es)->ju W (λa=>M a\/erase H x a=none) d fs es->E (.ref e) (some h) d
 |.wall=>False
def Bi(W:RC)(c:Nat)(ws:Ek)(g:Ep):Sp:=λi H Q E=>∃M x j h d,i=.ref x::d/\H x=some (.ins (W.cls c) j [])/\jb W M (erase H x) ws h d/\C5 W M H x Q E (g h)
def m4(h:ws.length+1=n):∀d H Q E,Bi W c ws g d H Q E->d.length=n:=λd H Q E ⟨M,x,j,l,i,e,_,a,_⟩=>by rw[e,D4,a.len.1,h]
def gz{H:Hp}{x c K:Addr}(i:H x=none)(j:H c=none)(h:c≠x):zz H (erase (upd (upd H c (.own x)) x (.ins K c [])) x):=λb o hb=>by unfold erase;have d:b≠x:=zR hb i;rw[if_neg d,zm d,zm (zR hb j)];exact hb
def gA{H:Hp}{x c K a:Addr}(i:H x=none)(h:erase (upd (upd H c (.own x)) x (.ins K c [])) x a=none):H a=none:=by
 by_cases e:a=x
 .rw[e];exact i
 .unfold erase at h;rw[if_neg e,zm e]at h;by_cases d:a=c
  .subst d;rw[zi]at h;cases h
  .rwa [zm d]at h
def r_(M:Mk X.K (C.W.cls c) f)(F:qV X.prog X.w X.K X.mg X.base (CXe X.prog X.w) k f fd ps (Bi C.W c ws g))(u:vC (k+1) X.A)(T:Gl X x)(Y:X.mg x=some (.ref (C.W.cls c)))(hb:Binds X.K fd ps [])(h:Passes (CXe X.prog X.w) X C.E)(ha:AM X C S ws (e::es) ms)
  (j:(x==("__debug__":Str))=false:=by decide) (he:starEach (e::es) X.env=(false,eval e X.env)::starEach es X.env:=by rfl) (y:(backTo pos (starEach es X.env)).any (·.1)=false:=by rfl):FM X C S (.Call (.Name x p) (e::es) [] pos) (zh g ms):=λU=>by
 obtain⟨ta,Z,L⟩:=ha U;refine⟨_,rl M F u T Y hb .nil h Z j he y,λB P H G I R Q q=>L B P H G I R _ (wL q λD E H1 s1 O d=>?_)⟩;intro x l h N s;rw[M5];have A:=R.keep s1;have z:=gz (K:=C.W.cls c) h N s;refine⟨_,x,l,D,E,rfl,zi,O.args.same z,?_⟩;have sM:∀a,(Mof B S P a\/erase (upd (upd H1 l (.own x)) x (.ins (C.W.cls c) l [])) x a=none)->Mof B S P a:=λa m=>m.elim id λn=>A.new a (gA h n);revert d;cases g D with
 |ok r=>exact λd i s2 u=>⟨rfl,d _ i (z.trans s2) ⟨x,rfl,h,u.gen rfl Fr.refl λa m _=>⟨sM a m.1,m.2⟩⟩⟩
 |exc c fs=>exact λd e v es i s2 W J h3=>d e v es i ((A.same.trans z).trans s2) W J (h3.sub λa m _=>(sM a m).1.1)
 |wall=>exact id
inductive Kd where
 |int|str|bool|none|list|tuple|dict|obj (c:Nat)|exc (c:Nat)
 deriving DecidableEq
def kd:PV->Option Kd
 |.i _=>some .int | .s _=>some .str | .b _=>some .bool | .n=>some .none | .l _=>some .list | .t _=>some .tuple | .d _=>some .dict | .o c _=>some (.obj c) | .x c _=>some (.exc c)
 |.sc _=>Option.none
 |.dt _=>Option.none
def tyK(W:RC):Kd->Value
 |.int=>.type "int" | .str=>.type "str" | .bool=>.type "bool" | .none=>.type "NoneType" | .list=>.type "list" | .tuple=>.type "tuple" | .dict=>.type "dict" | .obj c=>.ref (W.cls c) | .exc c=>.ref (W.cls c)
def Bj(W:RC):Kd->Prop
 |.obj c=>Cls W.K (W.cls c)/\findIn W.K (.ref (W.cls c)) "__class__"=some (some (.builtin "object.__class__"))/\specialIn W.K (.builtin "object.__class__") "__get__"=some (some (.builtin "getset_descriptor.__get__"))/\takesIn W.K (.builtin "object.__class__")=some true/\mroIn W.K (W.cls c) (.type "object")=some true
 |.exc c=>Ku W.K (W.cls c)/\XIs W.K (W.cls c)
 |_=>True
def gB(W:RC)(f:Fb):List (Kd×Bool)->Prop
 |[]=>True
 |q::r=>(Bj W q.1/\f (tyK W q.1)=some q.2)/\gB W f r
def gB.get{W:RC}{f:Fb}:∀{c:List (Kd×Bool)}{k:Kd}{b:Bool},gB W f c->c.lookup k=some b->Bj W k/\f (tyK W k)=some b
 |[],_,_,_,h=>by cases h
 |q::r,k,b,t,h=>by
  rw[L5]at h;by_cases e:(k==q.1)=true
  .simp only[e]at h;cases h;rw[I0.mp e];exact t.1
  .simp only[e]at h;exact gB.get t.2 h
def C6(tab:List (Kd×Bool))(x:PV):Out PV:=vk (((kd x).bind λk=>tab.lookup k).map PV.b)
def DP(W:RC)(f:Fb)(d:V):List V->Hp->VK->Prop:=λc H Q=>∃(M:Ee)(x:PV)(v:V)(k:Kd)(b:Bool),c=[v,d]/\yj W (λ_=>True) M H x v/\kd x=some k/\Bj W k/\f (tyK W k)=some b/\Q (.bl b) H
def xO{A:D_}{R:St}{H:Hp}{s:Ef}{W:RC}{N M:Ee}{x:PV}{v:V}{u:Value}{k:Kd}(E:X.K=W.K)(I:Inv X A R H s)(h:yj W N M H x v)(r:RelV v u)(j:kd x=some k)(ok:Bj W k):∃P,KitX X.K u (tyK W k) P/\P s.heap/\u≠.builtin "__main__.__loader__#opaque":=by
 cases x with
 |i a=>cases j;exact a9 I r (.inl (by rw[(show v=_ from h)];exact .int a))
 |s a=>cases j;exact a9 I r (.inl (by rw[(show v=_ from h)];exact .str a))
 |b a=>cases j;exact a9 I r (.inl (by rw[(show v=_ from h)];exact .bl a))
 |n=>cases j;exact a9 I r (.inl (by rw[(show v=_ from h)];exact .non))
 |l a=>cases j;obtain⟨p,G,rfl,_,q,_⟩:=h;exact a9 I r (.inl (.lst q))
 |t a=>cases j;obtain⟨p,G,rfl,q,_⟩:=h;cases(show u=Value.ref p from r);rw[<- E]at q;obtain⟨Q,_,⟨o,F,D,_⟩,_⟩:=I.tuple q;exact⟨_,kitx_tuple,⟨o,F,D⟩,λz=>nomatch z⟩
 |d a=>cases j;obtain⟨p,G,rfl,_,q,_⟩:=h;cases(show u=Value.ref p from r);obtain⟨_,_,ws,_,U⟩:=wI I.hok q;obtain⟨o,es,Y,F,D,_⟩:=U;exact⟨_,kitx_dict,⟨o,F,D.1⟩,λz=>nomatch z⟩
 |o c a=>cases j;obtain⟨p,O,es,rfl,_,q,_⟩:=h;obtain⟨B,y,J,K,L⟩:=ok;rw[<- E]at B y J K L;exact a9 I r (.inl (.ins q B y J K L))
 |x c a=>cases j;obtain⟨p,O,es,rfl,q,T,_⟩:=h;obtain⟨B,y⟩:=ok;rw[<- E]at B y;exact a9 I r (.inr ⟨p,_,O,es,rfl,rfl,B,y,.inl q,T⟩)
 |sc a=>cases j
 |dt a=>cases j
def m5(hK:X.K=W.K)(hc:B4 cv=some cl):Zz X (.builtin "isinstance") (DP W (λt=>kitOne W.K t cl) cv):=by intro pins s σ H xs us Q I r h;obtain⟨M,x,v,k,b,rfl,hx,hk,ok,hb,q⟩:=h;obtain⟨u,c,rfl,rx,rc⟩:=vals2 r;obtain⟨P,kx,hP,hne⟩:=xO hK I hx rx hk ok;rw[mS rc hc];rw[<- hK]at hb;exact N5 (n:=X.m) (by ac_rfl)<|kia_one kx I.kIn hP hb hne λtk hn=>⟨.bl b,H,I.tok _ hn,rfl,q⟩
def xP(F:Gl X "isinstance")(G:X.mg "isinstance"=none)(h:EM X C S w e m)(E:PE X ce (tC cv))(i:B4 cv=some cl)(l:gB C.W (λt=>kitOne C.W.K t cl) tab)
  (he:starEach [e,ce] X.env=[(false,eval e X.env),(false,eval ce X.env)]:=by rfl) (c:starEach [ce] X.env=[(false,eval ce X.env)]:=by rfl):EM X C S false (.Call (.Name "isinstance" p) [e,ce] [] pos) (mUn (C6 tab) m):=λj=>by
 obtain⟨K,I,y⟩:=h j;refine⟨_,ck (m5 j i) F G PyProof.Rows.boot_isinstance (vD I (vD E JG c) (by rw[he,c])) (by decide) (by decide) (by rw[he,c]) (by rw[c];rfl),λB P H r s R Q q=>y B P H r s R _ (zI q λx v J L D d=>?_)⟩;obtain⟨z,u,d⟩:=qr d;obtain⟨b,hb,rfl⟩:=u8.mp u;obtain⟨k,A,hb⟩:=F5.mp hb;obtain⟨ok,n⟩:=l.get hb;exact⟨_,x,v,k,b,rfl,D.weak,A,ok,n,d _ J (zz.refl _) (RV.of rfl)⟩
abbrev MO:=Sto->Out (Option Int)
def LO(C:LC)(S:Eb)(j:TO)(m:MO):Prop:=∀B P H d h,Rel C.W B S P H d h->∀Q:Option Int->Hp->Prop,(match m h with | .ok r=>∀i,zz H i->Q r i | .exc c fs=>XPo C B c fs | .wall=>False)->j d H Q
def OM(X:Cx)(C:LC)(S:Eb)(e:EX)(m:MO):Prop:=X.K=C.W.K->∃c,PO X e c/\LO C S c m
def aL:MO:=λ_=>.ok none
def asI:PV->Out (Option Int)
 |.i a=>.ok (some a)
 |_=>.wall
def wM(m:ME):MO:=λc=>(m c).bind asI
def Jg:OM X C S none aL:=λ_=>⟨_,rq,λB P H c d R Q q=>q H (zz.refl _)⟩
def Jh(h:EM X C S w e m):OM X C S (some e) (wM m):=λy=>by
 obtain⟨z,n,u⟩:=h y;refine⟨_,rA n,λB P H l d R Q q=>u B P H l d R _ ?_⟩;unfold wM at q;revert q;cases m d with
 |ok x=>
  intro q v j s r;cases x with
  |i a=>exact⟨a,r,q j s⟩
  |_=>exact q.elim
 |exc c fs=>exact id
 |wall=>exact id
def Wh{c:Type}(xs:List c)(d h:EJ):List c:=(xs.drop (HT.sIx xs.length 0 d)).take (HT.sIx xs.length xs.length h-HT.sIx xs.length 0 d)
def pSl:PV->Option Int->Option Int->Out PV
 |.l i,d,c=>.ok (.l (Wh i d c))
 |.sc h,d,c=>.ok (.l ((Wh h d c).map PV.i))
 |.s z,d,c=>if z.length<=sizeLine then .ok (.s (Txt.slice z d c))else .wall
 |_,_,_=>.wall
def mSl(d:PV->Option Int->Option Int->Out PV)(m:ME)(i j:MO):ME:=λc=>(m c).bind λx=>(i c).bind λl=>(j c).bind λh=>d x l h
def m6{ns:EB}{d c:EJ}:lN (ns.map V.int) d c=(Wh ns d c).map V.int:=by unfold lN Wh;rw[D0,a2D,a2E]
variable {lo hi:EX}{ml mh:MO}{p2:Pos}
def QE(h:EM X C S w e m)(K:OM X C S lo ml)(I:OM X C S hi mh):EM X C S false (.Subscript e (.Slice lo hi none p2) pos) (mSl pSl m ml mh):=λj=>by
 obtain⟨Z,W,L⟩:=h j;obtain⟨tl,U,G⟩:=K j;obtain⟨th,O,J⟩:=I j;refine⟨_,cm (rC.or xp) W U O,λB P H n i R Q q=>L B P H n i R _ (zI q λx v D y N d=>G B P D n i (R.keep y) _ ?_)⟩;revert d;cases ml i with
 |exc c fs=>exact id
 |wall=>exact id
 |ok l=>
  intro d F s2;refine J B P F n i ((R.keep y).keep s2) _ ?_;have d:zK C B D (RV C B S P false) Q ((mh i).bind λh=>pSl x l h):=d;have d:=jx d s2;revert d;cases mh i with
  |exc c fs=>exact id
  |wall=>exact id
  |ok h=>
   intro d M r;have d:=jx (o:=pSl x l h) d r;have u:=(N.same s2).same r;have A:=(((R.keep y).keep s2).keep r).new;cases x with
   |l xs=>obtain⟨p,E,rfl,_,hp,T⟩:=u;exact .inl ⟨p,E,rfl,SqL.of hp,λz hz=>d _ _ (zz.upd hz) (RV.of ((Va T.cut hz).rep A))⟩
   |sc Y=>obtain⟨p,rfl,hp⟩:=u;exact .inl ⟨p,_,rfl,j▸hp.sq,λz hz=>d _ _ (zz.upd hz) (by rw[m6];exact RV.of ((Va yc.ints hz).rep A))⟩
   |s z=>
    unfold pSl at d;by_cases hz:z.length<=sizeLine
    .simp only[hz,if_true]at d;exact .inr ⟨z,u,hz,d _ M (zz.refl _) (RV.of rfl)⟩
    .simp only[hz,if_false]at d;exact d.elim
   |_=>exact d.elim
end
def sd(C:LC)(B:Bs)(H:Hp)(x:PV)(v:V):Prop:=if C.fr=true then RFr C.W B.Mt B.H0 H x v else Rep C.W B.Mt H x v
def wc(C:LC)(B:Bs)(S' Sb Sc:Eb)(D:Ends):Out Fw->Prop
 |.ok (.nx d)=>∀e b a,Rel C.W B S' e b a d->D.nx a b
 |.ok (.rt x)=>∀v b,zz B.H0 b->sd C B b x v->D.rt v b
 |.ok (.bk d)=>∀e b a,Rel C.W B Sb e b a d->D.bk a b
 |.ok (.ct d)=>∀e b a,Rel C.W B Sc e b a d->D.ct a b
 |.exc c fs=>XPo C B c fs
 |.wall=>False
def LS(C:LC)(S S' Sb Sc:Eb)(c:TS)(m:MS):Prop:=∀B P H a b,Rel C.W B S P H a b->∀D,wc C B S' Sb Sc D (m b)->c D a H
def SM(X:Cx)(C:LC)(S S' Sb Sc:Eb)(st:ER)(m:MS):Prop:=X.K=C.W.K->∃a,PS X st a/\LS C S S' Sb Sc a m
def SsM(X:Cx)(C:LC)(S S' Sb Sc:Eb)(st:EC)(m:MS):Prop:=X.K=C.W.K->∃a,PSs X st a/\LS C S S' Sb Sc a m
def zP:MS:=λa=>.ok (.nx a)
def zZ(a b:MS):MS:=λd=>(a d).bind λf=>match f with
 |.nx c=>b c
 |.rt x=>.ok (.rt x)
 |.bk c=>.ok (.bk c)
 |.ct c=>.ok (.ct c)
def qu(i:Nat)(m:ME):MS:=λa=>(m a).bind λx=>.ok (.nx (a.set i (some x)))
def Yu(m:ME):MS:=λa=>(m a).bind λ_=>.ok (.nx a)
def jc(m:ME):MS:=λa=>(m a).bind λx=>.ok (.rt x)
def sIf(t:MT)(a b:MS):MS:=λd=>(t d).bind λc=>if c=true then a d else b d
section
variable {X:Cx}{C:LC}{S S' S1 Sb Sc:Eb}{e a o:Eh}{w:Bool}{m:ME}{t1:MT}{s1 s2:MS}{pos p pos':Pos}{x:Str}{st:ER}{sts stt:EC}{i:Nat}
def zJ:SsM X C S S Sb Sc [] zP:=λ_=>⟨_,fj,λB P H c d R D q=>q P H c R⟩
def oY(r:LS C S S1 Sb Sc t s1)(s:LS C S1 S' Sb Sc u s2):LS C S S' Sb Sc (By t u) (zZ s1 s2):=λB P H j h R D q=>by
 refine r B P H j h R _ ?_;unfold zZ at q;revert q;cases s1 h with
 |ok f=>
  cases f with
  |nx d=>exact λq n l g v=>s B n l g d v D q
  |rt x=>exact id
  |bk d=>exact id
  |ct d=>exact id
 |exc c fs=>exact id
 |wall=>exact id
def zf(g:SM X C S S1 Sb Sc st s1)(h:SsM X C S1 S' Sb Sc sts s2):SsM X C S S' Sb Sc (st::sts) (zZ s1 s2):=λc=>by obtain⟨t,j,l⟩:=g c;obtain⟨u,d,f⟩:=h c;exact⟨_,cb j d,oY l f⟩
def zk(c:SM X C S S' Sb Sc st s1):SsM X C S S' Sb Sc [st] s1:=λg=>by obtain⟨t,d,f⟩:=c g;exact⟨_,Y7 d,f⟩
def xQ(i:Nat)(h:SsM X C (S.set i 0) S' Sb Sc sts s1)(f:S[i]?=some 2:=by rfl):SsM X C S S' Sb Sc sts s1:=λl=>by obtain⟨t,g,j⟩:=h l;exact⟨t,g,λB P H c d R D q=>j B P H c d (R.freeze f) D q⟩
def gC(h:LE C S false te m):LS C S (S.set i 0) Sb Sc (ui te (aV i)) (qu i m):=λB P H f d R D q=>by
 refine h B P H f d R _ ?_;unfold qu at q;revert q;cases m d with
 |ok x=>exact λq v g s r=>q P g _ ((R.keep s).set r.rep)
 |exc c fs=>exact id
 |wall=>exact id
def oZ(c:X.N.Nodup)(l:X.N[i]?=some x)(f:Loc X.env.scope x)(h:EM X C S false e m)(d:swapsWith e (some (.Name x pos')) pos.line X.env=pure false:=by rfl)(hf:X.fn x=true\/X.env.scope.names.lookup x=some .local:=by first|exact .inl rfl|exact .inr rfl|assumption):
  SM X C S (S.set i 0) Sb Sc (.Assign [.Name x pos'] e pos) (qu i m):=λn=>by
 obtain⟨q,g,j⟩:=h n;exact⟨_,fk c l f g d hf,gC j⟩
def sf(h:LFr C S te m)(j:i<S.length)(l:i≠0):LS C S (S.set i 2) Sb Sc (ui te (aV i)) (qu i m):=λB P H g d R D q=>by
 refine h B P H g d R _ ?_;unfold qu at q;revert q;cases m d with
 |ok x=>exact λq v f s ⟨p,e,hp,r⟩=>by subst e;exact q _ f _ (R.DM s hp j l r)
 |exc c fs=>exact id
 |wall=>exact id
def ZM(c:X.N.Nodup)(q:X.N[i]?=some x)(f:Loc X.env.scope x)(h:FM X C S e m)(g:i<S.length:=by decide)(j:i≠0:=by decide)(d:swapsWith e (some (.Name x pos')) pos.line X.env=pure false:=by rfl)(hf:X.fn x=true\/X.env.scope.names.lookup x=some .local:=by first|exact .inl rfl|exact .inr rfl|assumption):
  SM X C S (S.set i 2) Sb Sc (.Assign [.Name x pos'] e pos) (qu i m):=λr=>by
 obtain⟨s,l,n⟩:=h r;exact⟨_,fk c q f l d hf,sf n g j⟩
def jZ(h:EM X C S w e m)(j:swapsWith e none pos.line X.env=pure false:=by rfl):SM X C S S Sb Sc (.Expr e pos) (Yu m):=λu=>by
 obtain⟨y,l,n⟩:=h u;refine⟨_,Jc l j,λB P H d f R D q=>n B P H d f R _ ?_⟩;unfold Yu at q;revert q;cases m f with
 |ok x=>exact λq v g s r=>q P g d (R.keep s)
 |exc c fs=>exact id
 |wall=>exact id
def zS(h:EM X C S false e m)(hf:C.fr=false:=by rfl):SM X C S S' Sb Sc (.Return (some e) pos) (jc m):=λn=>by
 obtain⟨u,j,l⟩:=h n;refine⟨_,cf j,λB P H g d R D q=>l B P H g d R _ ?_⟩;unfold jc at q;revert q;cases m d with
 |ok x=>exact λq v f s r=>q v f (R.same.trans s) (by unfold sd;rw[hf,if_neg F6];exact r.rep.sub λa m _=>m.1.1)
 |exc c fs=>exact id
 |wall=>exact id
def sg(h:FM X C S e m)(hf:C.fr=true:=by rfl):SM X C S S' Sb Sc (.Return (some e) pos) (jc m):=λn=>by
 obtain⟨u,j,l⟩:=h n;refine⟨_,cf j,λB P H g d R D q=>l B P H g d R _ ?_⟩;unfold jc at q;revert q;cases m d with
 |ok x=>exact λq v f s r=>q v f (R.same.trans s) (by
   unfold sd;rw[if_pos hf];obtain⟨p,e,hp,r⟩:=r;exact⟨p,e,zz.none R.same hp,r.gen rfl Fr.refl λa m _=>⟨m.1.1.1,m.2⟩⟩)
 |exc c fs=>exact id
 |wall=>exact id
def XH(h:PE X e (aU i))(d:S[i]?=some 2:=by rfl)(hf:C.fr=true:=by rfl):SM X C S S' Sb Sc (.Return (some e) pos) (jc (zc i)):=λr=>by
 refine⟨_,cf h,λB P H n g R D q=>?_⟩;unfold jc zc at q;cases c:g[i]? with
 |none=>rw[c]at q;exact q.elim
 |some o=>
  cases o with
  |none=>rw[c]at q;exact q.elim
  |some y=>rw[c]at q;obtain⟨v,f,j,_,_⟩:=R.var i y c;obtain⟨rfl,l⟩:=j d;refine⟨_,f,q _ H R.same ?_⟩;unfold sd;rw[if_pos hf];exact⟨P i,rfl,(R.act i d).1,l.gen rfl Fr.refl λa m _=>⟨m.1.1,λz=>m.2 i d z.symm⟩⟩
def yw(h:TM X C S c t1)(A:SsM X C S S' Sb Sc sts s1)(r:SsM X C S S' Sb Sc stt s2):SM X C S S' Sb Sc (.If c sts stt pos) (sIf t1 s1 s2):=λg=>by
 obtain⟨F,E,v⟩:=h g;obtain⟨t,z,l⟩:=A g;obtain⟨u,y,n⟩:=r g;refine⟨_,uJ E z y,λB P H f d R D q=>v B P H f d R _ ?_⟩;unfold sIf at q;revert q;cases t1 d with
 |ok k=>
  intro q j s;cases k with
  |true=>exact rL (l B P j f d (R.keep s) D q)
  |false=>exact rK (n B P j f d (R.keep s) D q)
 |exc c fs=>exact id
 |wall=>exact id
def Rel.at2(R:Rel W B S P H σ ρ)(g:S[i]?=some 2)(e:ρ[i]?=some (some y)):σ[i]?=some (some (.ref (P i)))/\K0 W (Mof B S P) H (P i) y/\i<ρ.length:=by obtain⟨v,c,d,_,_⟩:=R.var i y e;obtain⟨rfl,f⟩:=d g;exact⟨c,f,(F3.mp e).1⟩
def Mof.wr{W:RC}{B:Bs}{P:Em}{H:Hp}{d:St}{ρ:Sto}{o:HO}(R:Rel W B S P H d ρ)(c:S[i]?=some 2):Fr (Mof B S P) H (upd H (P i) o):=λa q e m=>by
 obtain⟨_,h,g,f⟩:=R.act i c;have:a≠P i:=λz=>by
  rcases m with m|m
  .exact m.2 i c z.symm
  .rw[z,g]at e;cases e;exact f m
 rw[zm this];exact e
def o6(i:Nat)(m:ME):MS:=λc=>match c[i]? with
 |some (some (.l d))=>(m c).bind λy=>if d.length<sizeLine then .ok (.nx (c.set i (some (.l (d++[y])))))else .wall
 |_=>.wall
def Vc(F:PE X o (aU i))(h:EM X C S false e m)(l:S[i]?=some 2:=by rfl)(O:attributeBase o "append" X.env (eval o X.env)=eval o X.env:=by rfl)
  (J:((backTo p (starEach [e] X.env)).all (λx=>!x.1)&&(backToKw p (keywordEach [] X.env)).all (λx=>x.1.isSome)&&decide ([e].length+([]:List Keyword).length+(if([]:List Keyword).isEmpty then 0 else 1)<30))=true:=by rfl)
  (K:(qH.endLine==p.line)=true:=by rfl) (E:starEach [e] X.env=[(false,eval e X.env)]:=by rfl) (g:swapsWith (.Call (.Attribute o "append" qH) [e] [] p) none pos.line X.env=pure false:=by rfl):
  SM X C S S Sb Sc (.Expr (.Call (.Attribute o "append" qH) [e] [] p) pos) (o6 i m):=λL=>by
 obtain⟨T,N,I⟩:=h L;refine⟨_,Jc (mz a0t a1T a1U KQ F (vD N JG E) O J K E rfl) g,λB P H u j R D q=>?_⟩;unfold o6 at q;split at q
 .rename_i A M;obtain⟨d,⟨n,hp,z⟩,G⟩:=R.at2 l M;refine⟨_,d,.inl ⟨rfl,_,SqL.of hp⟩,I B P H u j R _ ?_⟩;revert q;cases m j with
  |ok y=>
   intro q v Q s r;have q:wc C B S Sb Sc D (if A.length<sizeLine then .ok (.nx (j.set i (some (.l (A++[y])))))else .wall):=q;split at q
   .rename_i hz;have R2:=R.keep s;refine⟨_,n,v,rfl,rfl,s _ _ hp,by rw[z.len];exact hz,q P _ u (R2.wr l G d (by exact id) ?_)⟩;have f:=Mof.wr (o:=.lst (n++[v])) R2 l;exact⟨_,zi,((z.same s).append (.cons r.rep .nil)).gen f λ_ m _=>m⟩
   .exact q.elim
  |exc c fs=>exact id
  |wall=>exact id
 .exact q.elim
def dput{d f:Type}[DecidableEq d](kvs:List (d×f))(k:d)(v:f):List (d×f):=
 if kvs.any (λc=>decide (c.1=k))=true then kvs.map (λc=>if c.1=k then(c.1,v)else c)else kvs++[(k,v)]
end
def qp.put(h:qp W M H a c)(l:Rep W M H x v):qp W M H (dput a k x) (putK c k v):=by
 have i:∀{a:Er}{c:Ei},qp W M H a c->a.any (λb=>decide (b.1=k))=c.any (λb=>decide (b.1=k))/\qp W M H (a.map λb=>if b.1=k then(b.1,x)else b) (c.map λb=>if b.1=k then(b.1,v)else b)/\qp W M H (a++[(k,x)]) (c++[(k,v)]):=by
  intro a
  induction a with
  |nil=>intro c h;cases(show _=_ from h);exact⟨rfl,rfl,v,[],rfl,l,rfl⟩
  |cons n a o=>
   intro c h;obtain⟨u,q,rfl,j,m⟩:=h;obtain⟨f,d,g⟩:=o m;refine⟨by rw[P7,P7,f],?_,⟨u,_,rfl,j,g⟩⟩;rw[E6,E6];by_cases e:n.1=k
   .rw[if_pos e,if_pos e];exact⟨v,_,rfl,l,d⟩
   .rw[if_neg e,if_neg e];exact⟨u,_,rfl,j,d⟩
 obtain⟨f,d,g⟩:=i h;unfold dput putK;rw[f];split
 .exact d
 .exact g
section
variable {X:Cx}{C:LC}{S Sb Sc:Eb}{e a o:Eh}{es:Eg}{w:Bool}{m m1 m2:ME}{pos pos':Pos}{i:Nat}
def cK(i:Nat)(mk mv:ME):MS:=λd=>(mv d).bind λv=>match d[i]? with
 |some (some (.d c))=>(mk d).bind λy=>match pk y with
  |some k=>if c.length<sizeLine then .ok (.nx (d.set i (some (.d (dput c k v)))))else .wall
  |none=>.wall
 |_=>.wall
def UN(O:X.A.units+1<cLine)(K:PE X o (aU i))(n:EM X C S w a m1)(J:EM X C S false e m2)(r:S[i]?=some 2:=by rfl)(W:swapsWith e (some (.Subscript o a pos')) pos.line X.env=pure false:=by rfl):
  SM X C S S Sb Sc (.Assign [.Subscript o a pos'] e pos) (cK i m1 m2):=λG=>by
 obtain⟨ta,Z,N⟩:=n G;obtain⟨tv,U,I⟩:=J G;refine⟨_,fL O K Z U W,λB P H l h R D q=>I B P H l h R _ ?_⟩;unfold cK at q;revert q;cases m2 h with
 |ok y=>
  intro q v M E T;have A:=R.keep E;have q:wc C B S Sb Sc D (match h[i]? with
   |some (some (.d d))=>(m1 h).bind λz=>match pk z with
    |some k=>if d.length<sizeLine then .ok (.nx (h.set i (some (.d (dput d k y)))))else .wall
    |none=>.wall
   |_=>.wall):=q
  split at q
  .rename_i d Y;obtain⟨j,⟨es,hp,F⟩,L⟩:=A.at2 r Y;refine⟨_,j,N B P M l h A _ ?_⟩;revert q;cases m1 h with
   |ok z=>
    intro q u H2 g Q;have R2:=A.keep g;have q:wc C B S Sb Sc D (match pk z with
     |some k=>if d.length<sizeLine then .ok (.nx (h.set i (some (.d (dput d k y)))))else .wall
     |none=>.wall):=q
    split at q
    .rename_i k n;split at q
     .rename_i hz;have s:=g _ _ hp;refine⟨_,_,rfl,by rw[QC Q.weak n];exact oO.k s (by rw[qp.len F];exact hz),q P _ l (R2.wr r L j (by exact id) ?_)⟩;have f:=Mof.wr (o:=.dK (putK es k v)) R2 r;exact⟨_,zi,((F.same g).put (T.rep.same g)).gen f λ_ m _=>m⟩
     .exact q.elim
    .exact q.elim
   |exc c fs=>exact id
   |wall=>exact id
  .exact q.elim
 |exc c fs=>exact id
 |wall=>exact id
def lS(fs:Ex)(f:Str)(v:PV):List (Str×PV):=match fs with
 |[]=>[(f,v)]
 |c::r=>if c.1=f then(f,v)::r else c::lS r f v
end
def ju.put{W:RC}{M:Ee}{H:Hp}{f:Str}{x:PV}{v:V}(b:Rep W M H x v):∀{a:Ex}{c:EF},ju W M H a c->ju W M H (lS a f x) (Wj f v c)
 |[],_,h=>by cases(show _=_ from h);exact⟨v,[],rfl,b,rfl⟩
 |i::a,_,h=>by
  obtain⟨u,q,rfl,g,d⟩:=h;unfold lS Wj;by_cases e:i.1=f
  .rw[if_pos e,if_pos e,e];exact⟨v,q,rfl,b,d⟩
  .rw[if_neg e,if_neg e];exact⟨u,_,rfl,g,ju.put b d⟩
def ju.len(h:ju W M H a es):es.length=a.length:=by have:=M4 List.length (ju.iff.mp h).1;simpa using this
section
variable {X:Cx}{C:LC}{S S' S1 Sb Sc:Eb}{e a b o:Eh}{es:Eg}{w:Bool}{m:ME}{pos p pos':Pos}{x:Str}{i:Nat}
def bu(i:Nat)(cs:Eb)(f:Str)(m:ME):MS:=λd=>(m d).bind λv=>match d[i]? with
 |some (some (.o c fs))=>if c∈cs/\fs.length<1000 then .ok (.nx (d.set i (some (.o c (lS fs f v)))))else .wall
 |_=>.wall
def gD(E:PE X o (aU i))(A:EM X C S false e m)(s:∀c∈cs,Cls X.K (C.W.cls c)/\ZG X.K (C.W.cls c) fn)(j:S[i]?=some 2:=by rfl)(K:swapsWith e (some (.Attribute o fn pos')) pos.line X.env=pure false:=by rfl):
  SM X C S S Sb Sc (.Assign [.Attribute o fn pos'] e pos) (bu i cs fn m):=λG=>by
 obtain⟨M,J,z⟩:=A G;refine⟨_,uU E J K,λB P H r g R D q=>z B P H r g R _ ?_⟩;unfold bu at q;revert q;cases m g with
 |ok y=>
  intro q v N n I;have l:=R.keep n;have q:wc C B S Sb Sc D (match g[i]? with
   |some (some (.o c fs))=>if c∈cs/\fs.length<1000 then .ok (.nx (g.set i (some (.o c (lS fs fn y)))))else .wall
   |_=>.wall):=q
  split at q
  .rename_i c fs L;split at q
   .rename_i hz;obtain⟨d,⟨h,es,hp,u⟩,F⟩:=l.at2 j L;refine⟨_,d,_,_,h,es,rfl,hp,(s c hz.1).1,(s c hz.1).2,by rw[u.len];exact hz.2,q P _ r (l.wr j F d (by exact id) ?_)⟩;have f:=Mof.wr (o:=.ins (C.W.cls c) h (Wj fn v es)) l j;exact⟨h,_,zi,(ju.put I.rep u).gen f λ_ m _=>m⟩
   .exact q.elim
  .exact q.elim
 |exc c fs=>exact id
 |wall=>exact id
def xR(i:Nat)(g:PV->PV->Out PV)(m:ME):MS:=λc=>match c[i]? with
 |some (some x)=>(m c).bind λy=>(g x y).bind λz=>.ok (.nx (c.set i (some z)))
 |_=>.wall
def si(l:X.N.Nodup)(I:X.N[i]?=some x)(K:Loc X.env.scope x)(h:EM X C S w e m)(E:PIp X op (ipI f))(g:S[i]?≠some 2/\S[i]?≠some 1:=by decide)(hf:X.fn x=true\/X.env.scope.names.lookup x=some .local:=by first|exact .inl rfl|exact .inr rfl|assumption):
  SM X C S (S.set i 0) Sb Sc (.AugAssign (.Name x pos') op e pos) (xR i (pI λa b=>.i (f a b)) m):=λJ=>by
 obtain⟨O,N,G⟩:=h J;refine⟨_,uM l I K N E hf,λB P H F d R D q=>?_⟩;unfold xR at q;split at q
 .rename_i y M;obtain⟨v,A,_,_,n⟩:=R.var i y M;refine⟨v,A,G B P H F d R _ ?_⟩;have L:=n g.1 g.2;revert q;cases m d with
  |ok z=>
   intro q u j s r;have R2:=R.keep s;have q:wc C B (S.set i 0) Sb Sc D ((pI (λa b=>.i (f a b)) y z).bind λz=>.ok (.nx (d.set i (some z)))):=q;cases y with
   |i a=>
    cases z with
    |i b=>exact⟨a,b,L,r,q P j _ (R2.set (x:=.i (f a b)) (v:=.int (f a b)) rfl)⟩
    |_=>exact q.elim
   |_=>exact q.elim
  |exc c fs=>exact id
  |wall=>exact id
 .exact q.elim
abbrev MG:=PV->Sto->Option Sto
def LG(C:LC)(S S':Eb)(g:TG)(j:MG):Prop:=∀B P H f h x v,Rel C.W B S P H f h->Rep C.W (Mof B S P) H x v->∀Q:St->Hp->Prop,(∃d,j x h=some d/\∀c,Rel C.W B S' P H c d->Q c H)->g v f H Q
def GM(X:Cx)(C:LC)(S S':Eb)(d:Eh)(c:MG):Prop:=X.K=C.W.K->∃g,PG X d g/\LG C S S' g c
def gNm(i:Nat):MG:=λx c=>some (c.set i (some x))
def kB(c:X.N.Nodup)(f:X.N[i]?=some x)(d:Loc X.env.scope x)(hf:X.fn x=true\/X.env.scope.names.lookup x=some .local:=by first|exact .inl rfl|exact .inr rfl|assumption):GM X C S (S.set i 0) (.Name x pos) (gNm i):=
 λ_=>⟨_,p7 c f d hf,λB P H h j x v R r Q ⟨g,e,k⟩=>by cases e;exact k _ (R.set r)⟩
abbrev MGs:=List PV->Sto->Option Sto
def LGs(C:LC)(S S':Eb)(g:TGs)(n:MGs):Prop:=∀B P H h j l f,Rel C.W B S P H h j->yc C.W (Mof B S P) H l f->∀Q:St->Hp->Prop,(∃d,n l j=some d/\∀c,Rel C.W B S' P H c d->Q c H)->g f h H Q
def GsM(X:Cx)(C:LC)(S S':Eb)(c:Eg)(d:MGs):Prop:=X.K=C.W.K->∃g,PGs X c g/\LGs C S S' g d
def Vd:MGs:=λc d=>match c with
 |[]=>some d
 |_=>none
def yE(g:MG)(d:MGs):MGs:=λh f=>match h with
 |x::r=>(g x f).bind λc=>d r c
 |[]=>none
def QF:GsM X C S S [] Vd:=λ_=>⟨_,p8,λB P H g h c f R r Q ⟨d,e,k⟩=>by
 cases c with
 |nil=>cases e;cases(show _=_ from r);exact⟨rfl,k _ R⟩
 |cons x c=>cases e⟩
def Mof.le{B:Bs}{S S':Eb}{P:Em}(h:∀j:Nat,S'[j]?=some 2->S[j]?=some 2){a:Addr}(m:Mof B S P a):Mof B S' P a:=⟨m.1,λj c=>m.2 j (h j c)⟩
def yg(K:GM X C S S1 e g)(A:GsM X C S1 S' es gs)(F:∀j:Nat,S1[j]?=some 2->S[j]?=some 2)(J:(assignEach (e::es) X.env).map (·.2)=assign e X.env::(assignEach es X.env).map (·.2):=by rfl):GsM X C S S' (e::es) (yE g gs):=λs=>by
 obtain⟨t,L,D⟩:=K s;obtain⟨u,I,y⟩:=A s;refine⟨_,l8 L I J,λB P H z l f N R r Q ⟨c,e,k⟩=>?_⟩;cases f with
 |nil=>cases e
 |cons x f=>
  obtain⟨v,q,rfl,M,G⟩:=r;have e:(g x l).bind (λc=>gs f c)=some c:=e;cases n:g x l with
  |none=>rw[n]at e;cases e
  |some d=>rw[n]at e;exact⟨v,q,rfl,D B P H z l x v R M _ ⟨d,n,λh E=>y B P H h d f q E (G.sub λa m _=>Mof.le F m) Q ⟨c,e,k⟩⟩⟩
def gTp(n:Nat)(d:MGs):MG:=λx f=>match x with
 |.t c=>if c.length=n then d c f else none
 |_=>none
def QG(z:X.calm=true)(h:GsM X C S S' es gs)(A:(assignEach es X.env).length=n:=by rfl)(g:(assignEach es X.env).findIdx? (·.1)=none:=by rfl):GM X C S S' (.Tuple es k pos) (gTp n gs):=λs=>by
 obtain⟨t,D,y⟩:=h s;refine⟨_,uK z D A g,λB P H u l x v R r Q ⟨c,e,k⟩=>?_⟩;cases x with
 |t d=>
  obtain⟨p,j,rfl,hp,q⟩:=r;have e:(if d.length=n then gs d l else none)=some c:=e;by_cases f:d.length=n
  .rw[if_pos f]at e;exact⟨p,j,rfl,s▸hp,by rw[q.len];exact f,y B P H u l d j R q Q ⟨c,e,k⟩⟩
  .rw[if_neg f]at e;cases e
 |_=>cases e
def xS(g:MG)(m:ME):MS:=λd=>(m d).bind λx=>(vk (g x d)).bind λc=>.ok (.nx c)
def xT(h:EM X C S false e m)(I:GM X C S S' tg g)(K:swapsWithSole [tg] e pos.line X.env=pure false:=by rfl)(A:swappedStores [tg] e X.env=pure none:=by rfl)(L:(assignEach [tg] X.env).map (·.2)=[assign tg X.env]:=by rfl):SM X C S S' Sb Sc (.Assign [tg] e pos) (xS g m):=λz=>by
 obtain⟨N,M,F⟩:=h z;obtain⟨t,J,E⟩:=I z;refine⟨_,oG M J K A L,λB P H y f R D q=>F B P H y f R _ ?_⟩;unfold xS at q;revert q;cases m f with
 |ok x=>
  intro q v u s r;have q:wc C B S' Sb Sc D ((vk (g x f)).bind λn=>.ok (.nx n)):=q;cases d:g x f with
  |some l=>rw[d]at q;exact E B P u y f x v (R.keep s) r.rep _ ⟨l,d,λj G=>q P u j G⟩
  |none=>rw[d]at q;exact q.elim
 |exc c fs=>exact id
 |wall=>exact id
def NA(B:Bs)(S:Eb)(P:Em):Addr->Prop:=λa=>¬B.xc a/\∀i,S[i]?=some 2->P i≠a
def sj(W:RC)(M N:Ee)(f:Hp)(J:It)(xs:Ew):Prop:=∀d,Fr N f d->
 (∀i x,xs[i]?=some x->J.go i d/\∀v c,J.yld i d v c->zz d c/\∀g:Addr->Prop,(∀a,M a->f a≠none->g a)->Rep W g c x v)/\J.stop xs.length d
abbrev MI:=Sto->Out (List PV)
def NAc(c:Bool)(B:Bs)(S:Eb)(P:Em):Addr->Prop:=if c=true then λ_=>True else NA B S P
def gE(C:LC)(B:Bs)(S:Eb)(P:Em)(c:Bool)(H:Hp)(R:It->Hp->Prop):Out (List PV)->Prop
 |.ok f=>∀J d,zz H d->sj C.W (Mof B S P) (NAc c B S P) d J f->R J d
 |.exc c fs=>XPo C B c fs
 |.wall=>False
def LI(C:LC)(S:Eb)(c:Bool)(g:TI)(mi:MI):Prop:=∀B P H d f,Rel C.W B S P H d f->∀R:It->Hp->Prop,gE C B S P c H R (mi f)->g d H R
def IM(X:Cx)(C:LC)(S:Eb)(c:Bool)(f g:Eh)(mi:MI):Prop:=X.K=C.W.K->∃d,PI X f g d/\LI C S c d mi
def vd(g:MG)(b:MS):List PV->Sto->Out Fw
 |[],d=>.ok (.nx d)
 |x::j,d=>(vk (g x d)).bind λh=>(b h).bind λf=>match f with
  |.nx c=>vd g b j c
  |.ct c=>vd g b j c
  |.bk c=>.ok (.nx c)
  |.rt v=>.ok (.rt v)
def JJ(mi:MI)(g:MG)(b:MS):MS:=λc=>(mi c).bind λd=>vd g b d c
end
open Classical in
def Bs.loop(B:Bs)(S:Eb)(P:Em)(H:Hp)(hz:∀a,B.N0 a->(¬((∃i,S[i]?=some 2/\P i=a)\/B.xc a))/\H a≠none):Bs where
 H0:=λa=>if(∃i,S[i]?=some 2/\P i=a)\/B.xc a then none else H a
 M0:=B.Mt
 N0:=B.N0
 nz:=λa h=>by rw[if_neg (hz a h).1];exact(hz a h).2
 pin:=B.pin
 xc:=B.xc
section
variable {W:RC}{B:Bs}{S S':Eb}{P P':Em}{H H':Hp}{σ σ':St}{ρ ρ':Sto}
def Rel.hz(R:Rel W B S P H σ ρ):∀a,B.N0 a->(¬((∃i,S[i]?=some 2/\P i=a)\/B.xc a))/\H a≠none:=λa h=>by
 have b:=B.nz a h;refine⟨λz=>z.elim (λ⟨i,c,e⟩=>b (e▸(R.act i c).1)) (λz=>b (R.exc a z).choose_spec.2.2),λz=>?_⟩;cases q:B.H0 a with
 |none=>exact b q
 |some o=>rw[R.same a o q]at z;cases z
def QH(R:Rel W B S P H σ ρ)(h:(B.loop S P H R.hz).H0 a=none):B.H0 a=none:=by
 cases q:B.H0 a with
 |none=>rfl
 |some o=>have n:¬((∃i,S[i]?=some 2/\P i=a)\/B.xc a):=λz=>z.elim (λ⟨i,b,e⟩=>by rw[<- e,(R.act i b).1]at q;cases q) (λz=>by rw[(R.exc a z).choose_spec.2.2]at q;cases q);unfold Bs.loop at h;dsimp only at h;rw[if_neg n,R.same a o q]at h;cases h
def Ve(R:Rel W B S P H σ ρ):zz B.H0 (B.loop S P H R.hz).H0:=λa o h=>by have n:¬((∃i,S[i]?=some 2/\P i=a)\/B.xc a):=λz=>z.elim (λ⟨i,b,e⟩=>by rw[<- e,(R.act i b).1]at h;cases h) (λz=>by rw[(R.exc a z).choose_spec.2.2]at h;cases h);unfold Bs.loop;dsimp only;rw[if_neg n];exact R.same a o h
def Vf(R:Rel W B S P H σ ρ)(h:(B.loop S P H R.hz).Mt a):B.Mt a:=h.elim id λz=>.inr (QH R z)
def Rel.loop(R:Rel W B S P H σ ρ):Rel W (B.loop S P H R.hz) S P H σ ρ:=by
 have sM:∀a,Mof B S P a->H a≠none->Mof (B.loop S P H R.hz) S P a:=λa m _=>⟨⟨.inl m.1.1,m.1.2⟩,m.2⟩;refine⟨λa o h=>?_,R.len,λi x e=>?_,λi c=>⟨?_,(R.act i c).2⟩,R.inj,R.pin,λa h=>?_,R.axc⟩
 .unfold Bs.loop at h;dsimp only at h;split at h
  .cases h
  .exact h
 .obtain⟨v,d,b,g,j⟩:=R.var i x e;exact⟨v,d,λz=>⟨(b z).1,(b z).2.gen rfl Fr.refl sM⟩,λz=>(g z).sub (λ_ m _=>m) sM,λz f=>(j z f).sub sM⟩
 .unfold Bs.loop;dsimp only;rw[if_pos (.inl ⟨i,c,rfl⟩)]
 .obtain⟨o,e,n,_⟩:=R.exc a h;exact⟨o,e,n,by unfold Bs.loop;dsimp only;rw[if_pos (.inr h)]⟩
def Rel.o7(R:Rel W B S P H σ ρ)(b:Rel W (B.loop S P H R.hz) S' P' H' σ' ρ'):Rel W B S' P' H' σ' ρ':=by have sM:∀a,Mof (B.loop S P H R.hz) S' P' a->H' a≠none->Mof B S' P' a:=λa m _=>⟨⟨Vf R m.1.1,m.1.2⟩,m.2⟩;refine⟨(Ve R).trans b.same,b.len,λi x e=>?_,λi d=>⟨QH R (b.act i d).1,(b.act i d).2⟩,b.inj,b.pin,λa h=>let⟨o,e,n⟩:=b.exc a h;⟨o,e,n.1,QH R n.2⟩,b.axc⟩;obtain⟨v,f,c,j,l⟩:=b.var i x e;exact⟨v,f,λz=>⟨(c z).1,(c z).2.gen rfl Fr.refl sM⟩,λz=>(j z).sub (λ_ m _=>m) sM,λz g=>(l z g).sub sM⟩
def so(R:Rel W B S P H σ ρ)(s:zz (B.loop S P H R.hz).H0 H'):Fr (NA B S P) H H':=λa o h m=>by
 have n:¬((∃i,S[i]?=some 2/\P i=a)\/B.xc a):=λz=>by
  rcases z with⟨i,d,e⟩|z
  .rcases m with m|m
   .exact m.2 i d e
   .obtain⟨_,f,b,c⟩:=R.act i d;rw[e,h]at b;cases b;exact c m
  .rcases m with m|m
   .exact m.1 z
   .obtain⟨f,b,c,_⟩:=R.exc a z;rw[h]at b;cases b;exact c m
 refine s a o ?_;unfold Bs.loop;dsimp only;rw[if_neg n];exact h
def m7(j:C.W=W)(R:Rel W B S P H σ ρ)(q:XPo C B c fs):XPo C (B.loop S P H R.hz) c fs:=λe d g b s f h i=>q e d g b ((Ve R).trans s) f h (i.sub λa m _=>Vf R m)
def sr(b:C.W=W)(R:Rel W B S P H σ ρ)(h:sd C (B.loop S P H R.hz) H' x v):sd C B H' x v:=by
 unfold sd at h ⊢;by_cases f:C.fr=true
 .rw[if_pos f]at h ⊢;obtain⟨p,e,hp,r⟩:=h;exact⟨p,e,QH R hp,r.gen rfl Fr.refl λa m _=>⟨Vf R m.1,m.2⟩⟩
 .rw[if_neg f]at h ⊢;exact h.sub λa m _=>Vf R m
end
section
variable {X:Cx}{C:LC}{S S1 Sb Sc:Eb}{pos:Pos}
def m8(Z:∀R:It->Hp->Prop,gE C B S P false H R (mi ρ)->wi σ H R)(hg:LG C S S1 g mg)(hb:LS C S1 S S S tb mb)(R:Rel C.W B S P H σ ρ)(D:Ends)(q:wc C B S Sb Sc D (JJ mi mg mb ρ)):BC wi g tb D σ H:=by
 refine Z _ ?_;unfold JJ at q;revert q;cases mi ρ with
 |exc c fs=>exact id
 |wall=>exact id
 |ok o=>
  intro q J O s2 U;have R2:=R.keep s2;have q:wc C B S Sb Sc D (vd mg mb o ρ):=q;refine⟨λi n r N=>n=o.length-i/\i<=o.length/\∃l u,Rel C.W (B.loop S P O R2.hz) S u N r l/\wc C B S Sb Sc D (vd mg mb (o.drop i) l),⟨_,rfl,M7 _,ρ,P,R2.loop,q⟩,?_⟩
  rintro i n r N ⟨rfl,hle,l,u,M,d⟩
  have G:=U N (so R2 M.same);by_cases s:i<o.length
  .have hx:o[i]?=some o[i]:=E5 s;obtain⟨go,yl⟩:=G.1 i _ hx;refine .inr ⟨go,λK F=>i+1<=o.length/\∃l u,Rel C.W (B.loop S P O R2.hz) S u F K l/\wc C B S Sb Sc D (vd mg mb (o.drop (i+1)) l),λK F h=>⟨o.length-(i+1),by omega,rfl,h.1,h.2⟩,λv y hy=>?_⟩;obtain⟨sy,W⟩:=yl v y hy;have Ry:=M.keep sy;have rx:=W (Mof (B.loop S P O R2.hz) S u) λa m hn=>⟨⟨.inl m.1.1,m.1.2⟩,λj Y e=>by
    have z:=(M.act j Y).1;rw[e]at z;unfold Bs.loop at z;dsimp only at z;rw[if_neg (λz=>z.elim (λ⟨k,hk,T⟩=>m.2 k hk T) m.1.2)]at z;exact hn z⟩
   rw[a1G s]at d;have d:wc C B S Sb Sc D ((vk (mg o[i] l)).bind λp=>(mb p).bind λf=>match f with
    |.nx b=>vd mg mb (o.drop (i+1)) b
    |.ct b=>vd mg mb (o.drop (i+1)) b
    |.bk b=>.ok (.nx b)
    |.rt v=>.ok (.rt v)):=d
   cases A:mg o[i] l with
   |none=>rw[A]at d;exact d.elim
   |some p=>
    rw[A]at d;refine hg _ u y r l _ v Ry rx _ ⟨p,A,λQ R1=>hb _ u y Q p R1 _ ?_⟩;have d:wc C B S Sb Sc D ((mb p).bind λf=>match f with
     |.nx b=>vd mg mb (o.drop (i+1)) b
     |.ct b=>vd mg mb (o.drop (i+1)) b
     |.bk b=>.ok (.nx b)
     |.rt v=>.ok (.rt v)):=d
    revert d;cases mb p with
    |exc c fs=>exact λd=>m7 rfl R2 d
    |wall=>exact id
    |ok f=>
     cases f with
     |nx b=>exact λd E I w L=>⟨s,b,E,L,d⟩
     |ct b=>exact λd E I w L=>⟨s,b,E,L,d⟩
     |bk b=>exact λd E I w L=>d E I w (R2.o7 L)
     |rt x=>exact λd v I s3 h3=>d v I ((Ve R2).trans s3) (sr rfl R2 h3)
  .have e:i=o.length:=by omega
   subst e;rw[List.drop_length]at d;exact .inl ⟨G.2,d u N r (R2.o7 M)⟩
def xU(d:LI C S false wi mi)(c:LG C S S1 g mg)(hb:LS C S1 S S S tb mb):LS C S S Sb Sc (BC wi g tb) (JJ mi mg mb):=λB P H a b R D q=>m8 (d B P H a b R) c hb R D q
def jv(hp:PassesOwn (Fg X) X.A X.env X.xe)(f:X.calm=true)(m:IM X C S false tg jw mi)(h:GM X C S S1 tg mg)(hb:SsM X C S1 S S S body mb)(e:∀x,foldedSetIterable jw X.env x=pure x:=by intro _;rfl):
  SM X C S S Sb Sc (.For tg jw body [] pos) (JJ mi mg mb):=λa=>by
 obtain⟨n,i,l⟩:=m a;obtain⟨g,c,d⟩:=h a;obtain⟨o,b,j⟩:=hb a;exact⟨_,uO hp f i c b e,xU l d j⟩
def qF(c:MT)(b:MS):Nat->Sto->Out Fw
 |0,_=>.wall
 |n+1,d=>(c d).bind λt=>if t=true then(b d).bind λf=>match f with
   |.nx a=>qF c b n a
   |.ct a=>qF c b n a
   |.bk a=>.ok (.nx a)
   |.rt v=>.ok (.rt v)
  else .ok (.nx d)
open Classical in
def Vg(c:MT)(b:MS):MS:=λa=>if h:∃n,qF c b n a≠.wall then qF c b (choose h) a else .wall
def m9(A:LT C S tc c)(hb:LS C S S S S tb b):LS C S S Sb Sc (oH tc tb) (Vg c b):=λB P H E y R D q=>by
 unfold Vg at q;split at q
 .rename_i h;generalize Classical.choose h=n0 at q;refine⟨λn g p=>∃a i,Rel C.W B S i p g a/\wc C B S Sb Sc D (qF c b n a),⟨n0,y,P,R,q⟩,?_⟩
  rintro n g p ⟨a,i,o,e⟩
  cases n with
  |zero=>exact e.elim
  |succ n=>
   refine A B i p g a o _ ?_;unfold qF at e;revert e;cases c a with
   |exc c fs=>exact id
   |wall=>exact id
   |ok k=>
    intro e w u;cases k with
    |false=>exact rK (e i w g (o.keep u))
    |true=>
     refine rL ⟨λj s=>∃a i,Rel C.W B S i s j a/\wc C B S Sb Sc D (qF c b n a),λj s h=>⟨n,a0l n,h⟩,hb B i w g a (o.keep u) _ ?_⟩;have e:wc C B S Sb Sc D ((b a).bind λf=>match f with
      |.nx d=>qF c b n d
      |.ct d=>qF c b n d
      |.bk d=>.ok (.nx d)
      |.rt v=>.ok (.rt v)):=e
     revert e;cases b a with
     |exc c fs=>exact id
     |wall=>exact id
     |ok f=>
      cases f with
      |nx d=>exact λe m z l r=>⟨d,m,r,e⟩
      |ct d=>exact λe m z l r=>⟨d,m,r,e⟩
      |bk d=>exact λe=>e
      |rt x=>exact λe=>e
 .exact q.elim
def cL(hp:PassesOwn (Fg X) X.A X.env X.xe)(d:TM X C S c mc)(hb:SsM X C S S S S body mb):SM X C S S Sb Sc (.While c body [] pos) (Vg mc mb):=λa=>by obtain⟨h,e,f⟩:=d a;obtain⟨i,b,g⟩:=hb a;exact⟨_,l9 hp e b,m9 f g⟩
end
def LEn(C:LC)(S:Eb)(d:TE)(m:ME):Prop:=∀B P H b a,Rel C.W B S P H b a->∀Q,zK C B H (λc=>yj C.W (NA B S P) (Mof B S P) c) Q (m a)->d b H Q
def EN(X:Cx)(C:LC)(S:Eb)(e:Eh)(m:ME):Prop:=X.K=C.W.K->∃a,PE X e a/\LEn C S a m
section
variable {X:Cx}{C:LC}{S:Eb}{e a b o tg:Eh}{w:Bool}{ws:Ek}{m:ME}{ms:MA}{s1:MS}{pos p:Pos}{x:Str}{i:Nat}
def Mof.na{B:Bs}{P:Em}{a:Addr}(m:Mof B S P a):NA B S P a:=⟨m.1.2,m.2⟩
def EM.en(h:EM X C S false e m):EN X C S e m:=λn=>by obtain⟨f,g,j⟩:=h n;exact⟨f,g,λB P H c d R Q q=>j B P H c d R Q (ZL q λx v r s l=>yj.sub l (λa m _=>Mof.na m) λ_ m _=>m)⟩
def wd(h:PE X e (aU i))(g:S[i]?=some 1:=by rfl):EN X C S e (zc i):=λ_=>⟨_,h,λB P H s u R Q q=>lv R q λx v f e=>by
 obtain⟨y,c,_,r,_⟩:=R.var i x e;rw[f]at c;cases c;refine yj.sub (r g) (λa n _=>?_) λ_ m _=>m;have d:=B.nz a n;exact⟨λz=>d (R.exc a z).choose_spec.2.2,λj l e=>d (e▸(R.act j l).1)⟩⟩
def C7(K:EE)(tl:TE):TI:=λf H R=>tl f H λx c=>(∃a,x=.ref a/\(∃d,SqL K c a d)/\R (Itl K a) c)\/∃a,x=.ref a/\(∃d,SqT K c a d)/\R (Itt K a) c
def o8(y:PE X l tl):PI X tg l (C7 X.K tl):=by
 intro f s r H R I h;refine thn (y f s r H _ I h) λv s1 ⟨x,n,c,j,A⟩=>?_;rcases A with⟨a,e,⟨z,g⟩,q⟩|⟨a,e,⟨z,g⟩,q⟩
 .subst e;cases j;obtain⟨d,u,p,hz⟩:=c.list g;refine wpAny_pyIter_list p.isList ?_;refine⟨s1.heap.objs.size,[s1.heap.objs.size],_,_,n,rfl,c.kept (t':=s1.toks) λb o e=>D2 _ e,fm a _,⟨_,F8 _ rfl,rfl,rfl⟩,λb hb=>?_,q⟩;have e:b=s1.heap.objs.size:=by simpa using hb
  subst e;exact c.uj (D3 _) (c.hok.fresh (D3 _))
 .subst e;cases j;obtain⟨d,u,p,hz⟩:=c.tuple g;refine wpAny_pyIter_tuple (show s1.heap.IsTuple a d.toArray from p) ?_;refine⟨s1.heap.objs.size,[s1.heap.objs.size],_,_,n,rfl,c.kept (t':=s1.toks) λb o e=>D2 _ e,dH a _,⟨_,F8 _ rfl,rfl,rfl⟩,λb hb=>?_,q⟩;have e:b=s1.heap.objs.size:=by simpa using hb
  subst e;exact c.uj (D3 _) (c.hok.fresh (D3 _))
def gG{W:RC}{K:EE}{M N:Ee}{d:Hp}{a:Addr}{xs:Ew}{vs:En}(g:∀a,M a->N a)(h:∀c,Fr N d c->SqL K c a vs)(r:yc W M d xs vs):sj W M N d (Itl K a) xs:=λc f=>by refine⟨λi x s=>?_,vs,h c f,by rw[r.len];exact D3 _⟩;obtain⟨v,j,q⟩:=r.get s;refine⟨⟨vs,v,h c f,j⟩,λz l u=>?_⟩;obtain⟨rfl,y⟩:=u;have:=y vs (h _ f);rw[j]at this;cases this;exact⟨zz.refl _,λA sM=>Rep.gen (λa o h m=>f a o h (m.imp (g a) id)) (λa m n=>sM a m n) q⟩
def xV{W:RC}{K:EE}{M N:Ee}{d:Hp}{a:Addr}{xs:Ew}{vs:En}(g:∀a,M a->N a)(h:∀c,Fr N d c->SqT K c a vs)(r:yc W M d xs vs):sj W M N d (Itt K a) xs:=λc f=>by refine⟨λi x s=>?_,vs,h c f,by rw[r.len];exact D3 _⟩;obtain⟨v,j,q⟩:=r.get s;refine⟨⟨vs,v,h c f,j⟩,λz l u=>?_⟩;obtain⟨rfl,y⟩:=u;have:=y vs (h _ f);rw[j]at this;cases this;exact⟨zz.refl _,λA sM=>Rep.gen (λa o h m=>f a o h (m.imp (g a) id)) (λa m n=>sM a m n) q⟩
def items:PV->Out (List PV)
 |.l c=>.ok c
 |.t c=>.ok c
 |.sc d=>.ok (d.map PV.i)
 |_=>.wall
def yF(m:ME):MI:=λc=>(m c).bind items
variable {cc:Bool}
def Mof.nac{B:Bs}{P:Em}{a:Addr}(m:Mof B S P a):NAc cc B S P a:=by
 unfold NAc;cases cc with
 |true=>rw[if_pos rfl];trivial
 |false=>rw[if_neg F6];exact Mof.na m
def gH(A:X.K=C.W.K)(E:∀B P H j g,Rel C.W B S P H j g->∀Q,zK C B H (λd=>yj C.W (NAc cc B S P) (Mof B S P) d) Q (m g)->te j H Q):LI C S cc (C7 X.K te) (yF m):=λB P H j g R Q q=>by
 refine E B P H j g R _ ?_;unfold yF at q;revert q;cases m g with
 |exc c fs=>exact id
 |wall=>exact id
 |ok y=>
  intro q v d s r;cases y with
  |l F=>obtain⟨p,h,rfl,n,hp,u⟩:=r;exact .inl ⟨p,rfl,⟨h,SqL.of hp⟩,q _ d s (gG (λa m=>Mof.nac m) (λz f=>SqL.of (f _ _ hp (.inl n))) u)⟩
  |t F=>obtain⟨p,h,rfl,hp,u⟩:=r;rw[<- A]at hp;exact .inr ⟨p,rfl,⟨h,hp⟩,q _ d s (xV (λa m=>Mof.nac m) (λz f=>f.sqT hp) u)⟩
  |sc D=>obtain⟨p,rfl,hp⟩:=r;rw[<- A]at hp;exact .inl ⟨p,rfl,⟨_,hp.sq⟩,q _ d s (gG (vs:=D.map V.int) (λa m=>Mof.nac m) (λz f=>(hp.frame f).sq) yc.ints)⟩
  |_=>exact q.elim
def we(h:EN X C S e m):IM X C S false tg e (yF m):=λc=>by obtain⟨g,d,f⟩:=h c;exact⟨_,o8 d,gH c f⟩
def Vh(h:EM X C S w e m):IM X C S true tg e (yF m):=λc=>by obtain⟨n,g,j⟩:=h c;exact⟨_,o8 g,gH c λB P H d f R Q q=>j B P H d f R Q (ZL q λx v l s r=>r.weak)⟩
def cM(c:Int)(n:Nat):List PV:=(List.range n).map λk=>.i (c+(k:Nat))
def su{f:Int}{n i:Nat}{x:PV}(h:(cM f n)[i]?=some x):i<n/\x=.i (f+i):=by unfold cM at h;rw[F4]at h;obtain⟨k,c,rfl⟩:=u8.mp h;rw[F3]at c;obtain⟨d,g⟩:=c;rw[a0g]at d;rw[a2Y]at g;subst g;exact⟨d,rfl⟩
def sv{c:Int}{n:Nat}:(cM c n).length=n:=by unfold cM;rw[D0,a0g]
def xW{W:RC}{M N:Ee}{d:Hp}{c:Int}{n:Nat}:sj W M N d (Itr c n) (cM c n):=λq f=>by refine⟨λi x h=>?_,by rw[sv];exact D3 _⟩;obtain⟨l,rfl⟩:=su h;refine⟨l,λv g j=>?_⟩;obtain⟨rfl,rfl⟩:=j;exact⟨zz.refl _,λ_ _=>rfl⟩
def gI:List PV->Out (List PV)
 |[.i n]=>if -(2 ^ 62)<=n/\n<2 ^ 62 then .ok (cM 0 n.toNat)else .wall
 |_=>.wall
def Vi(ms:MA):MI:=λc=>(ms c).bind gI
def XI(n:Gl X "range")(D:X.mg "range"=none)(F:AM X C S ws [a] ms)(z:starEach [a] X.env=[(false,eval a X.env)]:=by rfl):IM X C S cc tg (.Call (.Name "range" p) [a] [] pos) (Vi ms):=λy=>by
 obtain⟨I,E,j⟩:=F y;refine⟨_,fo n D E z,λB P H h d R Q q=>j B P H h d R _ ?_⟩;unfold Vi at q;revert q;cases ms d with
 |exc c fs=>exact id
 |wall=>exact id
 |ok u=>
  intro q G g s r;have r:=r.weak;have q:gE C B S P cc H Q (gI u):=q;unfold gI at q;split at q
  .split at q
   .rename_i f;obtain⟨v,J,rfl,A,l⟩:=r;cases(show _=_ from l);cases(show _=_ from A);exact⟨_,rfl,f.1,f.2,q _ g s xW⟩
   .exact q.elim
  .exact q.elim
end
def noX{a:Type}:Out a->Out a
 |.exc _ _=>.wall
 |o=>o
def lcP(g:MG)(c:MT)(e:ME):List PV->Sto->List PV->Out PV
 |[],_,a=>.ok (.l a)
 |x::d,f,a=>(vk (g x f)).bind λb=>(noX (c b)).bind λt=>if t=true then(noX (e b)).bind λy=>if a.length<sizeLine then lcP g c e d b (a++[y])else .wall else lcP g c e d b a
def Wl(ρ:Sto)(fr:Et):Sto:=fr.map λo=>match o with|none=>none|some j=>(ρ[j]?).join
def mLC(mi:MI)(fr:Et)(g:MG)(c:MT)(e:ME):ME:=λa=>(mi a).bind λb=>lcP g c e b (Wl a fr) []
def o9:MT:=λ_=>.ok true
def inS(S:Eb)(fr:Et):List Nat:=fr.map λo=>match o with|none=>0|some j=>if S[j]?=some 2\/S[j]?=some 1 then 1 else 0
def lcB(B:Bs)(S:Eb)(P:Em)(H:Hp)(acc:Addr):Bs:=⟨H,Mof B S P,λa=>H a≠none,λ_ h=>h,none,λa=>a=acc⟩
def gJ{S:Eb}{fr:Et}{k c:Nat}(h:(inS S fr)[k]?=some c):c≠2:=by
 unfold inS at h;rw[F4]at h;obtain⟨o,a,e⟩:=u8.mp h;intro z;rw[z]at e;cases o with
 |none=>cases e
 |some j=>dsimp only at e;split at e<;>cases e
section
variable {X:Cx}{C:LC}{S S1 Sb Sc:Eb}{e a o jw tg elt:Eh}{ifs:Eg}{w:Bool}{m me:ME}{t1 mc:MT}{mg:MG}{mi:MI}{s1:MS}{pos:Pos}{x:Str}{i:Nat}{scope:Scope}
def Rel.comp{W:RC}{B:Bs}{P:Em}{H H':Hp}{l:St}{ρ:Sto}{acc:Addr}{fr:Et}{ys:En}(R:Rel W B S P H l ρ)(D:H acc=none)(s:zz H H')(K:H' acc=some (.lst ys)):Rel W (lcB B S P H acc) (inS S fr) (λ_=>0) H' (lQ l fr) (Wl ρ fr):=by
 have f:∀{k:Nat},(inS S fr)[k]?=some 2->False:=λ{k} h=>gJ h rfl;have sM:∀a,Mof B S P a->H a≠none->Mof (lcB B S P H acc) (inS S fr) (λ_=>0) a:=λa m n=>⟨⟨.inl m,λz=>n ((show a=acc from z)▸D)⟩,λi d=>(f d).elim⟩;refine⟨s,by unfold lQ Wl;rw[D0,D0],λk x e=>?_,λi d=>(f d).elim,λi j d=>(f d).elim,λd=>(f d).elim,λa h=>?_,λi d=>(f d).elim⟩
 .unfold Wl at e;rw[F4]at e;obtain⟨o,u,e⟩:=u8.mp e;cases o with
  |none=>cases e
  |some j=>
   have e:(ρ[j]?).join=some x:=e;have L:ρ[j]?=some (some x):=by
    cases q:ρ[j]? with
    |none=>rw[q]at e;cases e
    |some z=>rw[q]at e;cases z with
     |none=>cases e
     |some z=>cases e;rfl
   obtain⟨v,F,G,M,E⟩:=R.var j x L;have y:(inS S fr)[k]?=some (if S[j]?=some 2\/S[j]?=some 1 then 1 else 0):=by unfold inS;rw[F4,u];rfl
   refine⟨v,by unfold lQ;rw[F4,u];show some ((l[j]?).join)=_;rw[F];rfl,λz=>(f z).elim,λz=>?_,λz r=>?_⟩
   .rw[y]at z;by_cases g:S[j]?=some 2
    .obtain⟨rfl,J⟩:=G g;obtain⟨_,o,I,_⟩:=R.act j g;exact((J.Bc (N:=λa=>H a≠none) (by rw[I];intro z;cases z)).sub (λ_ m _=>m) sM).same s
    .by_cases A:S[j]?=some 1
     .exact((M A).sub (λa n q=>(R.hz a n).2) sM).same s
     .rw[if_neg (by rintro(q|q);exact g q;exact A q)]at z;cases z
   .rw[y]at r;by_cases c:S[j]?=some 2\/S[j]?=some 1
    .rw[if_pos c]at r;exact absurd rfl r
    .exact((E (λq=>c (.inl q)) (λq=>c (.inr q))).sub sM).same s
 .cases(show a=acc from h);exact⟨_,K,id,D⟩
def TsM(X:Cx)(C:LC)(S:Eb)(ifs:Eg)(m:MT):Prop:=X.K=C.W.K->∃c,PTs X ifs c/\LT C S c m
def UO:TsM X C S [] o9:=λ_=>⟨_,rP,λB P H c d R Q q=>q H (zz.refl _)⟩
def o_(h:TM X C S c t1):TsM X C S [c] t1:=λd=>let⟨tt,a1,a2⟩:=h d;⟨tt,rQ a1,a2⟩
def bw{l:Type}{Y:l->Cx}(h:∀z,EM (Y z) C S w e m)(f:∀z,(Y z).K=C.W.K):∃g,(∀z,PE (Y z) e g)/\LE C S w g m:=
 ⟨λc H Q=>∀z,(Classical.choose (h z (f z))) c H Q,λz d s c H Q I q=>(O6 (h z (f z))).1 d s c H Q I (q z),λB P H c j R Q q z=>(O6 (h z (f z))).2 B P H c j R Q q⟩
def bx{l:Type}{Y:l->Cx}(h:∀z,TsM (Y z) C S ifs mc)(f:∀z,(Y z).K=C.W.K):∃g,(∀z,PTs (Y z) ifs g)/\LT C S g mc:=
 ⟨λc H Q=>∀z,(Classical.choose (h z (f z))) c H Q,λz d s c H Q I q=>(O6 (h z (f z))).1 d s c H Q I (q z),λB P H c j R Q q z=>(O6 (h z (f z))).2 B P H c j R Q q⟩
def bz{l:Type}{Y:l->Cx}(h:∀z,GM (Y z) C S S1 tg mg)(f:∀z,(Y z).K=C.W.K):∃g,(∀z,PG (Y z) tg g)/\LG C S S1 g mg:=
 ⟨λv c H Q=>∀z,(Classical.choose (h z (f z))) v c H Q,λz d s c H v u Q I r q=>(O6 (h z (f z))).1 d s c H v u Q I r (q z),λB P H c j x v R r Q q z=>(O6 (h z (f z))).2 B P H c j x v R r Q q⟩
def bA{wi:TI}{g:TG}{tc:TT}{te:TE}{fr:Et}{T:Eb}{W:RC}{B:Bs}{P:Em}{H:Hp}{σ:St}{ρ:Sto}(hi:∀R:It->Hp->Prop,gE C B S P true H R (mi ρ)->wi σ H R)(hW:W=C.W)(hS:T=inS S fr)(hg:LG ⟨W,E0,false⟩ T T g mg)(ht:LT ⟨W,E0,false⟩ T tc mc)(he:LE ⟨W,E0,false⟩ T false te me)(R:Rel C.W B S P H σ ρ)(Q:VK)(q:zK C B H (RFr C.W (Mof B S P) H) Q (mLC mi fr mg mc me ρ)):tLC wi g tc te fr σ H Q:=by
 subst hW hS;refine hi _ ?_;unfold mLC at q;revert q;cases mi ρ with
 |exc c fs=>exact id
 |wall=>exact id
 |ok s=>
  intro q J K s1 io d ha;have R1:=R.keep s1;have q:zK C B H (RFr C.W (Mof B S P) H) Q (lcP mg mc me s (Wl ρ fr) []):=q;have sM:∀a,Mof (lcB B S P K d) (inS S fr) (λ_=>0) a->Mof B S P a/\a≠d:=λa m=>⟨m.1.1.elim id λn=>R1.new a n,m.1.2⟩;refine⟨λi n L O=>n=s.length-i/\i<=s.length/\∃r A D,Rel C.W (lcB B S P K d) (inS S fr) (λ_=>0) O L r/\O d=some (.lst D)/\yc C.W (Mof (lcB B S P K d) (inS S fr) (λ_=>0)) O A D/\zK C B H (RFr C.W (Mof B S P) H) Q (lcP mg mc me (s.drop i) r A),
   ⟨_,rfl,M7 _,Wl ρ fr,[],[],R1.comp ha (zz.upd ha) zi,zi,rfl,q⟩,?_⟩
  rintro i n L O ⟨rfl,hle,r,A,D,R',I,Y,l⟩
  have U:=io O (zz.fr R'.same);by_cases G:i<s.length
  .have hx:s[i]?=some s[i]:=E5 G;obtain⟨go,yl⟩:=U.1 i _ hx;refine .inr ⟨go,λσ2 F=>i+1<=s.length/\∃r A D,Rel C.W (lcB B S P K d) (inS S fr) (λ_=>0) F σ2 r/\F d=some (.lst D)/\yc C.W (Mof (lcB B S P K d) (inS S fr) (λ_=>0)) F A D/\zK C B H (RFr C.W (Mof B S P) H) Q (lcP mg mc me (s.drop (i+1)) r A),λσ2 F h=>⟨s.length-(i+1),by omega,rfl,h.1,h.2⟩,λv M hy=>?_⟩;obtain⟨sy,ry⟩:=yl v M hy;have Ry:=R'.keep sy;have rx:=ry (Mof (lcB B S P K d) (inS S fr) (λ_=>0)) λa m hn=>⟨⟨.inl m,λz=>hn ((show a=d from z)▸ha)⟩,λj hj=>(gJ hj rfl).elim⟩;rw[a1G G]at l;unfold lcP at l;cases N:mg s[i] r with
   |none=>rw[N]at l;exact l.elim
   |some f=>
    rw[N]at l;refine hg _ _ M L r _ v Ry rx _ ⟨f,N,λZ R1'=>ht _ _ M Z f R1' _ ?_⟩;have l:zK C B H (RFr C.W (Mof B S P) H) Q ((noX (mc f)).bind λt=>if t=true then(noX (me f)).bind λy=>if A.length<sizeLine then lcP mg mc me (s.drop (i+1)) f (A++[y])else .wall else lcP mg mc me (s.drop (i+1)) f A):=l;revert l;cases mc f with
    |exc c fs=>exact λl=>l.elim
    |wall=>exact id
    |ok t=>
     intro l H5 s5;have R5:=R1'.keep s5;have u:=s5 _ _ (sy _ _ I);have E:=(Y.same sy).same s5;cases t with
     |false=>exact rK ⟨G,f,A,D,R5,u,E,l⟩
     |true=>
      refine rL (he _ _ H5 Z f R5 _ ?_);have l:zK C B H (RFr C.W (Mof B S P) H) Q ((noX (me f)).bind λy=>if A.length<sizeLine then lcP mg mc me (s.drop (i+1)) f (A++[y])else .wall):=l;revert l;cases me f with
      |exc c fs=>exact λl=>l.elim
      |wall=>exact id
      |ok y=>
       intro l v6 H6 s6 r6;have l:zK C B H (RFr C.W (Mof B S P) H) Q (if A.length<sizeLine then lcP mg mc me (s.drop (i+1)) f (A++[y])else .wall):=l;split at l
       .rename_i hz;have R6:=R5.keep s6;have fr6:Fr (Mof (lcB B S P K d) (inS S fr) (λ_=>0)) H6 (upd H6 d (.lst (D++[v6]))):=λa o h m=>by
         have:a≠d:=λz=>by
          rcases m with m|m
          .exact m.1.2 z
          .rw[z,s6 _ _ u]at h;cases h;exact m
         rw[zm this];exact h
        exact⟨D,s6 _ _ u,by rw[E.len];exact hz,G,f,A++[y],D++[v6],R6.wrx (show(lcB B S P K d).xc d from rfl) (by exact id),zi,((E.same s6).append (.cons r6.rep .nil)).gen fr6 λ_ m _=>m,l⟩
       .exact l.elim
  .have e:i=s.length:=by omega
   subst e;rw[List.drop_length]at l;exact .inl ⟨U.2,l _ O (s1.trans R'.same) ⟨d,rfl,zz.none s1 ha,D,I,Y.sub λa m _=>sM a m⟩⟩
def xX{d:TI}{g:TG}{f:TT}{h:TE}{fr:Et}{c:Eb}{W:RC}(v:LI C S true d mi)(u:W=C.W)(j:c=inS S fr)(s:LG ⟨W,E0,false⟩ c c g mg)(r:LT ⟨W,E0,false⟩ c f mc)(he:LE ⟨W,E0,false⟩ c false h me):LFr C S (tLC d g f h fr) (mLC mi fr mg mc me):=λB P H l n R Q q=>bA (v B P H l n R) u j s r he R Q q
abbrev CI:=List Addr×List (Addr×Obj)×Shared×Hp×Addr
abbrev cxI(X:Cx)(scope:Scope)(N:Ea)(z:CI):Cx:=qE X scope N z.1 z.2.1 z.2.2.1 z.2.2.2.1 z.2.2.2.2
def xY(N:Ea)(fr:Et)(c:Eb)(A:X.calm=true)(j:lO X scope N fr=true)(r:IM X C S true tg jw mi)(B:∀z:CI,GM (cxI X scope N z) ⟨C.W,E0,false⟩ c c tg mg)(I:∀z:CI,TsM (cxI X scope N z) ⟨C.W,E0,false⟩ c ifs mc)(he:∀z:CI,EM (cxI X scope N z) ⟨C.W,E0,false⟩ c false elt me)(u:c=inS S fr:=by rfl)
  (E:∀x,foldedSetIterable jw X.env x=pure x:=by intro _;rfl):FM X C S (.ListComp elt [⟨tg,jw,ifs,0⟩] scope pos) (mLC mi fr mg mc me):=λh=>by
 obtain⟨M,G,q⟩:=r h;obtain⟨g,D,l⟩:=bz B λ_=>h;obtain⟨K,v,n⟩:=bx I λ_=>h;obtain⟨J,y,F⟩:=bw he λ_=>h;exact⟨_,xo N fr A j G (λf d s H L=>D ⟨f,d,s,H,L⟩) (λf d s H L=>v ⟨f,d,s,H,L⟩) (λf d s H L=>y ⟨f,d,s,H,L⟩) E,xX q rfl u l n F⟩
variable {y:Str}{fb py:Pos}
def m_(N:Ea)(fr:Et)(c:Eb)(n:X.N.Nodup)(Z:X.N[i]?=some y)(E:X.env.scope.names.lookup y=some .local)(O:X.calm=true)(l:lO X scope N fr=true)(G:IM X C S true tg jw mi)(T:∀z:CI,GM (cxI X scope N z) ⟨C.W,E0,false⟩ c c tg mg)(ht:∀z:CI,TsM (cxI X scope N z) ⟨C.W,E0,false⟩ c ifs mc)(he:∀z:CI,EM (cxI X scope N z) ⟨C.W,E0,false⟩ c false elt me)(J:c=inS S fr:=by rfl)
  (j:swapsWith (.ListComp elt [⟨tg,jw,ifs,0⟩] scope pos) (some (.Name y py)) fb.line X.env=pure true:=by rfl) (W:∀x,foldedSetIterable jw X.env x=pure x:=by intro _;rfl):SM X C S (S.set i 0) Sb Sc (.Assign [.Name y py] (.ListComp elt [⟨tg,jw,ifs,0⟩] scope pos) fb) (qu i (mLC mi fr mg mc me)):=λh=>by
 obtain⟨wi,a1,F⟩:=G h;obtain⟨g,U,r⟩:=bz T λ_=>h;obtain⟨tc,K,u⟩:=bx ht λ_=>h;obtain⟨te,M,Y⟩:=bw he λ_=>h;refine⟨_,B5 N fr n Z E O l a1 (λf d s H L=>U ⟨f,d,s,H,L⟩) (λf d s H L=>K ⟨f,d,s,H,L⟩) (λf d s H L=>M ⟨f,d,s,H,L⟩) j W,gC λB P H A D R Q q=>xX F rfl J r u Y B P H A D R Q (ZL q λx v H2 s I=>RV.of (I.rep R.new))⟩
end
def ZA(fr:Bool)(n:Nat)(ms:MS)(xs:Ew):Out PV:=match ms (xs.map some++List.replicate (n-xs.length) none)with
 |.ok (.nx _)=>if fr=true then .wall else .ok .n
 |.ok (.rt x)=>.ok x
 |.ok (.bk _)=>.wall
 |.ok (.ct _)=>.wall
 |.exc c fs=>.exc c fs
 |.wall=>.wall
def Qc(ws:Ek)(n:Nat):List Nat:=ws.map (λw=>if w=true then 1 else 0)++List.replicate (n-ws.length) 0
def UP{ws:Ek}{n k:Nat}:(Qc ws n)[k]?≠some 2:=by
 unfold Qc;rw[a1e];split
 .rw[F4];intro h;obtain⟨w,_,e⟩:=u8.mp h;split at e<;>cases e
 .rw[a0s];intro h;split at h<;>cases h
def jb.get{W:RC}{M:Ee}{H:Hp}:∀{b:Ek}{g:Ew}{d:En}{k:Nat}{x:PV},jb W M H b g d->g[k]?=some x->∃v w,d[k]?=some v/\b[k]?=some w/\yj W (if w=true then λ_=>True else M) M H x v
 |[],_,_,_,_,⟨a,c⟩,h=>by subst a;simp at h
 |w::b,_,_,0,x,⟨y,v,i,j,a,c,e,f⟩,h=>by subst a;subst c;simp at h;subst h;exact⟨v,w,rfl,rfl,e⟩
 |w::b,_,_,k+1,x,⟨y,v,i,j,a,c,e,f⟩,h=>by subst a;subst c;simp only[List.getElem?_cons_succ]at h ⊢;exact jb.get f h
def UQ{xs:Ew}{n k:Nat}{x:PV}(h:(xs.map some++List.replicate (n-xs.length) none)[k]?=some (some x)):xs[k]?=some x:=by
 rw[a1e]at h;split at h
 .rw[F4]at h;obtain⟨y,a,e⟩:=u8.mp h;cases e;exact a
 .rw[a0s]at h;split at h<;>cases h
def lT(H:Hp)(M:Ee):Bs:=⟨H,M,λa=>H a≠none,λ_ h=>h,none,λ_=>False⟩
def UR(h:jb W M H ws xs vs)(q:ws.length<=N.length):Rel W (lT H M) (Qc ws N.length) (λ_=>0) H (start N vs) (xs.map some++List.replicate (N.length-xs.length) none):=by
 have c:∀{k:Nat},(Qc ws N.length)[k]?=some 2->False:=λ{k} h=>UP h;have sM:∀a,M a->H a≠none->Mof (lT H M) (Qc ws N.length) (λ_=>0) a:=λa m _=>⟨⟨.inl m,id⟩,λi b=>(c b).elim⟩;obtain⟨d,p⟩:=h.len;refine⟨zz.refl _,?_,λk x e=>?_,λi b=>(c b).elim,λi j b=>(c b).elim,λb=>(c b).elim,λa h=>h.elim,λi b=>(c b).elim⟩
 .unfold start;rw[E8,E8,D0,D0,T7,T7,d,p]
 .obtain⟨v,w,f,o,r⟩:=h.get (UQ e);have g:k<vs.length:=(F3.mp f).1;have l:(Qc ws N.length)[k]?=some (if w=true then 1 else 0):=by unfold Qc;rw[N9 (by rw[D0,<- d];exact g),F4,o];rfl
  refine⟨v,?_,λz=>(c z).elim,λz=>?_,λ_ z=>?_⟩
  .unfold L2.start;rw[N9 (by rw[D0];exact g),F4,f];rfl
  .rw[l]at z;refine yj.sub r (λa _ n=>n) sM
  .rw[l]at z;cases w with
   |true=>exact absurd rfl z
   |false=>exact(yj.iff.mp r).sub sM
section
variable {P:Eo}{w:Es}{K:EE}{mg:Ed}{base:Heap}
def zG{x b:Str}{st:ER}{f:Addr}{m:Eu}{N i:Ea}{k n:Nat}{W:RC}{fr:Bool}{ws:Ek}{ms:MS}{S' Sb Sc:Eb}(F:Fun K x b st f m)(S:zy N i (zj st))(G:K=W.K)(D:ws.length=i.length)(p:N.length=n)(R:ws.length<=n)
  (h:∀(d:Value)(A:Ey)(a:List Env)(s:Ef)(H:Hp)(E:XK),vC k (A.deeper (envOfC b (zj st) s.heap.objs.size f d))->SsM (thr (aI (CXe P w) P w K mg base N b (zj st) f d A a s H E) E) ⟨W,E,fr⟩ (Qc ws n) S' Sb Sc (vE st) ms):
  qV P w K mg base (CXe P w) (k+1) f m i (lsp W fr ws (ZA fr n ms)):=by
 subst p;refine F.okX S (gq D) λd A a s H vs Q E J ⟨M,l,X,q⟩=>?_;obtain⟨z,L,Z⟩:=h d A a s H E J G;refine⟨z,L,Z (lT H M) _ H _ _ (UR X R) _ ?_⟩;unfold ZA at q;revert q;cases ms (l.map some++List.replicate (N.length-l.length) none)with
 |exc c fs=>exact λq e B U o s T C Y=>q e B U o s T C Y
 |wall=>exact id
 |ok O=>
  cases O with
  |nx g=>
   intro q P' j u I;cases fr with
   |true=>exact q.elim
   |false=>exact q .non j I.same rfl
  |rt y=>exact λq v j s r=>q v j s r
  |bk g=>exact λq=>q.elim
  |ct g=>exact λq=>q.elim
def Cb(c:Nat)(n:Nat)(ms:MS)(xs:Ew):Out PV:=match ms (some (.o c [])::(xs.map some++List.replicate (n-xs.length) none))with
 |.ok (.nx a)=>match a[0]? with
  |some (some x)=>.ok x
  |_=>.wall
 |.ok (.rt _)=>.wall
 |.ok (.bk _)=>.wall
 |.ok (.ct _)=>.wall
 |.exc c fs=>.exc c fs
 |.wall=>.wall
def bsI(H:Hp)(M:Ee)(x:Addr):Bs:=⟨erase H x,M,λa=>erase H x a≠none,λ_ h=>h,some x,λ_=>False⟩
def Yn:zz (erase H x) H:=λa o h=>by
 unfold erase at h;split at h
 .cases h
 .exact h
def d9(h:jb W M (erase H x) ws xs vs)(s:H x=some (.ins (W.cls c) dx []))(B:N.length=n+1)(F:ws.length<=n):
  Rel W (bsI H M x) (2::Qc ws n) (λ_=>x) H (start N (.ref x::vs)) (some (.o c [])::(xs.map some++List.replicate (n-xs.length) none)):=by
 have g:erase H x x=none:=by unfold erase;rw[if_pos rfl]
 have d:∀{k:Nat},(2::Qc ws n)[k]?=some 2->k=0:=λ{k} h=>by
  cases k with
  |zero=>rfl
  |succ k=>rw[L6]at h;exact(UP h).elim
 have sM:∀a,M a->erase H x a≠none->Mof (bsI H M x) (2::Qc ws n) (λ_=>x) a:=λa m z=>⟨⟨.inl m,id⟩,λi b q=>z (q▸g)⟩;obtain⟨f,A⟩:=h.len;refine⟨Yn,?_,λk y e=>?_,λi b=>⟨g,_,s,id⟩,λi j b D _=>(d b).trans (d D).symm,λb p hp=>(G4 hp),λa h=>h.elim,λi b=>id⟩
 .unfold L2.start;simp only[List.length_cons,List.length_append,List.length_map,List.length_replicate,f,A,B];omega
 .cases k with
  |zero=>cases e;exact⟨.ref x,rfl,λ_=>⟨rfl,dx,[],s,rfl⟩,(λz=>by cases z),λz=>absurd rfl z⟩
  |succ k=>
   rw[L6]at e;obtain⟨v,w,l,u,r⟩:=h.get (UQ e);have o:k<vs.length:=(F3.mp l).1;have C:(2::Qc ws n)[k+1]?=some (if w=true then 1 else 0):=by rw[L6];unfold Qc;rw[N9 (by rw[D0,<- f];exact o),F4,u];rfl
   have E:yj W (if w=true then λ_=>True else M) M H y v:=yj.same r Yn;refine⟨v,?_,(λz=>by cases(d z)),λz=>?_,λ_ z=>?_⟩
   .unfold L2.start;rw[E6,List.cons_append,L6,N9 (by rw[D0];exact o),F4,l];rfl
   .exact yj.same (yj.sub r (λa _ n=>n) sM) Yn
   .rw[C]at z;cases w with
    |true=>exact absurd rfl z
    |false=>exact Rep.same ((yj.iff.mp r).sub sM) Yn
def gK{x d:Str}{st:ER}{f:Addr}{v:Eu}{N l:Ea}{k n c:Nat}{W:RC}{ws:Ek}{ms:MS}{S' Sb Sc:Eb}(F:Fun K x d st f v)(S:zy N l (zj st))(J:K=W.K)(I:ws.length+1=l.length)(C:N.length=n+1)(X:ws.length<=n)(j:S'[0]?=some 2)
  (h:∀(g:Value)(A:Ey)(b:List Env)(s:Ef)(H:Hp)(E:XK),vC k (A.deeper (envOfC d (zj st) s.heap.objs.size f g))->SsM (thr (aI (CXe P w) P w K mg base N d (zj st) f g A b s H E) E) ⟨W,E,false⟩ (2::Qc ws n) S' Sb Sc (vE st) ms):
  qV P w K mg base (CXe P w) (k+1) f v l (Bi W c ws (Cb c n ms)):=by
 refine F.okX S (m4 I) λg A b s H vs Q E L ⟨M,x,p,r,U,e,hx,ha,q⟩=>?_;subst e;obtain⟨G,O,t2⟩:=h g A b s H E L J;refine⟨G,O,t2 (bsI H M x) _ H _ _ (d9 ha hx C X) _ ?_⟩;unfold Cb at q;revert q;cases ms (some (.o c [])::(r.map some++List.replicate (n-r.length) none))with
 |exc c fs=>exact λq e p Z B s Y j h3=>q e p Z B s Y j h3
 |wall=>exact id
 |ok R=>
  cases R with
  |nx i=>
   intro q P' T D o;have q:C5 W M H x Q E (match i[0]? with|some (some x)=>.ok x|_=>.wall):=q;split at q
   .rename_i y hy;obtain⟨_,u,_⟩:=o.at2 j hy;have e:=o.pin j x rfl;rw[e]at u;exact q T o.same (u.gen rfl Fr.refl λa m _=>⟨m.1.1,λz=>m.2 0 j (e.trans z.symm)⟩)
   .exact q.elim
  |rt y=>exact λq=>q.elim
  |bk i=>exact λq=>q.elim
  |ct i=>exact λq=>q.elim
end
def ur(C:Addr)(fs:Ea):Sp:=λc H Q _=>∃e b,c=.ref e::b/\b.length=fs.length/\H e=some (XO e C none .none)/\∀a,H a=none->Q .non (upd (upd H a (XD a (fs.zip b))) e (XO e C (some a) .none))
def JK(c:Nat)(a:Ea)(ms:MA):MS:=λd=>(ms d).bind λb=>if b.length=a.length/\b.length<=1000 then .exc c (a.zip b)else .wall
def ju.zip{W:RC}{M:Ee}{H:Hp}:∀{a:Ea}{b:Ew}{c:En},yc W M H b c->b.length=a.length->ju W M H (a.zip b) (a.zip c)
 |[],[],_,h,_=>by cases(show _=_ from h);rfl
 |f::a,x::b,_,h,e=>by obtain⟨v,r,rfl,d,g⟩:=h;exact⟨v,_,rfl,d,ju.zip g (by simpa using e)⟩
 |[],_::_,_,_,e=>by cases e
 |_::_,[],_,_,e=>by cases e
def Yo(G:X.calm=true)(M:XMk X.K (C.W.cls c) f)(N:Ku X.K (C.W.cls c))(F:qV X.prog X.w X.K X.mg X.base (CXe X.prog X.w) k f fd ps (ur (C.W.cls c) fns))(J:vC (k+1) X.A)(L:Gl X x)(O:X.mg x=some (.ref (C.W.cls c)))(hb:Binds X.K fd ps [])
  (T:AM (thr X C.E) C S ws (e::es) ms) (E:ws.all (!·)=true:=by rfl) (i:(x==("__debug__":Str))=false:=by decide) (he:starEach (e::es) X.env=(false,eval e X.env)::starEach es X.env:=by rfl) (n:(backTo jt (starEach es X.env)).any (·.1)=false:=by rfl):
  SM (thr X C.E) C S S' Sb Sc (.Raise (some (.Call (.Name x p) (e::es) [] jt)) none pos) (JK c fns ms):=λs=>by
 obtain⟨U,Q,I⟩:=T s;refine⟨_,mR G (mQ (X:=thr X C.E) M F J L O hb zE Q i he n),λB P H o r R D q=>?_⟩;show U o H _;refine I B P H o r R _ ?_;unfold JK at q;revert q;cases ms r with
 |exc c fs=>exact id
 |wall=>exact id
 |ok l=>
  intro q h A W K;have j:=K.Be E;have q:wc C B S' Sb Sc D (if l.length=fns.length/\l.length<=1000 then .exc c (fns.zip l)else .wall):=q;split at q
  .rename_i hz;refine⟨by rw[j.len];exact hz.2,λy w=>⟨y,h,rfl,by rw[j.len];exact hz.1,zi,λg d=>⟨rfl,y,_,g,rfl,s▸N,zi,?_⟩⟩⟩;have v:g≠y:=λz=>by rw[z,zi]at d;cases d
   rw[zm v]at d;rw[KG];have u:zz A (upd (upd (upd A y (XO y (C.W.cls c) none .none)) g (XD g (fns.zip h))) y (XC y (C.W.cls c) g)):=λb q hb=>by rw[zm (zR hb w),zm (zR hb d),zm (zR hb w)];exact hb
   exact q y g (fns.zip h) _ (R.same.trans (W.trans u)) zi (by rw[zm v,zi]) ((ju.zip j hz.1).gen u.fr λa m _=>m.1.1)
  .exact q.elim
def yY{S:Eb}{i:Nat}:∀j:Nat,(S.set i 0)[j]?=some 2->S[j]?=some 2:=λ_ h=>(y4 (c:=0) h).1
def sx(a:SqL W.K H p (ns.map V.int))(h:g [.sc ns]=.ok (.b true))(k:∀c,Q (.bl true) c):lsp W false [true] g [.ref p] H Q E:=by
 refine⟨λ_=>True,[.sc ns],⟨.sc ns,.ref p,[],[],rfl,rfl,⟨p,rfl,?_⟩,rfl,rfl⟩,?_⟩
 .rw[if_pos rfl];exact a.elim (λz=>.inl ⟨trivial,z⟩) .inr
 .rw[h];intro v b s r;unfold RtV at r;rw[if_neg F6]at r;cases(show v=_ from r);exact k b
section
variable {X:Cx}{C:LC}{S:Eb}{pos:Pos}
def ng:ME:=λ_=>.ok (.d [])
def gL:FM X C S (.Dict [] [] pos) ng:=λf=>⟨_,mG,λB P H c d R Q q=>λp hp=>q _ _ (zz.upd hp) (rZ (xs:=[]) (vs:=[]) rfl hp)⟩
end
section
variable {α β:Type}
def jA{a:α}{f:α->Out β}:(Out.ok a).bind f=f a:=rfl
def WZ(c:-(2 ^ 64)<a)(d:a<2 ^ 64):ZI (.i a) (.i b)=.ok (.i (a*b)):=by show(if oI a b\/_ then _ else _)=_;rw[if_pos (.inl (.inl ⟨c,d⟩))]
def pb(c:0<b)(d:b<1073741824):K3 (.i a) (.i b)=.ok (.i (a / b)):=by show(if uk a b then _ else _)=_;rw[if_pos ⟨c,d⟩]
def Vj(c:0<b):ZK (.i a) (.i b)=.ok (.i (a % b)):=by show(if 0<b then _ else _)=_;rw[if_pos c]
def sA:pIx (.l xs) (.i a)=vk (atI xs a):=rfl
def Vk{a:α}:vk (some a)=.ok a:=rfl
def xZ(h:z.length<=sizeLine):kf [.s z]=.ok (.i z.length):=by show(if _ then _ else _)=_;rw[if_pos h]
def Cc{xs:List α}{x:α}:atI (x::xs) 0=some x:=by unfold atI ixN;rw[if_pos (O8 _),if_pos (by simp)];rfl
def US{xs:List α}(h:0<=k):atI xs k=xs[k.toNat]?:=by
 unfold atI ixN;rw[if_pos h];by_cases c:k<xs.length
 .rw[if_pos c];rfl
 .rw[if_neg c];symm;exact a1H.mpr (by omega)
def UT(h:qF c b n a=o)(i:o≠.wall):Vg c b a=o:=by
 have mono:∀(n k:Nat)(a:Sto),qF c b n a≠.wall->qF c b (n+k) a=qF c b n a:=by
  intro n
  induction n with
  |zero=>intro k a h;exact absurd rfl h
  |succ n l=>
   intro k a h;rw[show n+1+k=(n+k)+1 by omega];unfold qF at h ⊢;cases m:c a with
   |exc c fs=>rfl
   |wall=>rfl
   |ok t=>
    rw[m]at h;cases t with
    |false=>rfl
    |true=>
     simp only[jA,if_true]at h ⊢;cases hb:b a with
     |exc c fs=>rfl
     |wall=>rfl
     |ok f=>
      rw[hb]at h;cases f with
      |nx d=>exact l k d h
      |ct d=>exact l k d h
      |bk d=>rfl
      |rt v=>rfl
 have e:∃n,qF c b n a≠.wall:=⟨n,h▸i⟩;unfold Vg;rw[dif_pos e];have j:=O6 e;generalize Classical.choose e=n0 at j;rcases Nat.le_total n n0 with g|g
 .obtain⟨k,rfl⟩:=Nat.le.dest g;rw[mono n k a (h▸i)];exact h
 .obtain⟨k,rfl⟩:=Nat.le.dest g;rw[<- mono n0 k a j];exact h
def Vl:vd g b (x::xs) ρ=(vk (g x ρ)).bind λc=>(b c).bind λf=>match f with
  |.nx a=>vd g b xs a
  |.ct a=>vd g b xs a
  |.bk a=>.ok (.nx a)
  |.rt v=>.ok (.rt v):=rfl
def Ji{α:Type}[BEq α][LawfulBEq α][DecidableEq α]{a b:α}:(a==b)=decide (a=b):=by
 by_cases h:a=b
 .subst h;simp
 .simp[h]
def d_:yP n (.i a) (.i b)=.ok (.b (xor n (decide (a=b)))):=by show Out.ok (PV.b (xor n (a==b)))=_;rw[Ji]
def ni:yP n (.s x) (.s y)=.ok (.b (xor n (decide (x=y)))):=by show Out.ok (PV.b (xor n (x==y)))=_;rw[Ji]
def Cd:yP n (.b x) (.b y)=.ok (.b (xor n (decide (x=y)))):=by show Out.ok (PV.b (xor n (x==y)))=_;rw[Ji]
def Ce:yP n (.t xs) (.t ys)=match cF (Ja 7) xs ys with|some b=>.ok (.b (xor n b))|none=>.wall:=rfl
def pd:Ja n (.i a) (.i b)=some (decide (a=b)):=by cases n<;>(show some (a==b)=_;rw[Ji])
def UU:Ja n (.s x) (.s y)=some (decide (x=y)):=by cases n<;>(show some (x==y)=_;rw[Ji])
def x8:Ja n (.b x) (.b y)=some (decide (x=y)):=by cases n<;>(show some (x==y)=_;rw[Ji])
def zF{fr:Bool}{n:Nat}{ms:MS}{xs:Ew}{x:PV}(h:ms (xs.map some++List.replicate (n-xs.length) none)=.ok (.rt x)):ZA fr n ms xs=.ok x:=by unfold ZA;rw[h]
def sC(h:s ρ=.ok (.nx ρ')):zZ s t ρ=t ρ':=by unfold zZ;rw[h];rfl
def yx(h:s ρ=.ok (.rt x)):zZ s t ρ=.ok (.rt x):=by unfold zZ;rw[h];rfl
def gM{k:Str}{v:PV}{r:Ex}:List.lookup k ((k,v)::r)=some v:=by simp[List.lookup]
def Jj{k j:Str}{v:PV}{r:Ex}(h:(k==j)=false):List.lookup k ((j,v)::r)=List.lookup k r:=by simp[List.lookup,h]
def x_:List.lookup k ([]:List (Str×PV))=none:=rfl
def XJ:lS [] k v=[(k,v)]:=rfl
def Vm(h:(j==k)=false):lS ((j,x)::r) k v=(j,x)::lS r k v:=by show(if j=k then _ else _)=_;rw[if_neg (by simpa using h)]
end
def pe{b:Type}{a:b}:noX (.ok a)=.ok a:=rfl
theorem Vn{l:Type}{g:MG}{c:MT}{e:ME}(j:l->PV)(keep:l->Bool)(d:l->PV)(J:Sto->Prop):∀(i:List l)(f:Sto)(a:Ew),J f->(∀x∈i,∀f,J f->∃b,g (j x) f=some b/\J b/\c b=.ok (keep x)/\(keep x=true->e b=.ok (d x)))->a.length+i.length<=100000->lcP g c e (i.map j) f a=.ok (.l (a++(i.filter keep).map d))
 |[],f,a,_,_,_=>by simp[lcP]
 |x::i,f,a,q,h,p=>by
  obtain⟨b,o,n,r,s⟩:=h x D8 f q;rw[D4]at p;rw[E6];unfold lcP;rw[o,Vk,jA,r,pe,jA];cases m:keep x with
  |true=>rw[if_pos rfl,s m,pe,jA,if_pos (E7 (show a.length<100000 by omega) (by decide)),List.filter_cons_of_pos m,E6];rw[Vn j keep d J i b (a++[d x]) n (λz hz=>h z (D5 _ hz)) (by rw[E8];show a.length+1+_<=_;omega),a0f];rfl
  |false=>rw[if_neg F6,List.filter_cons_of_neg (by rw[m];exact F6)];exact Vn j keep d J i b a n (λz hz=>h z (D5 _ hz)) (by omega)
def Vo{l:Type}(i:l->PV)(f:l->PV)(J:Sto->Prop)(xs:List l)(ρ:Sto)(o:J ρ)(h:∀x∈xs,∀ρ,J ρ->∃d,g (i x) ρ=some d/\J d/\e d=.ok (f x))(n:xs.length<=100000):lcP g o9 e (xs.map i) ρ []=.ok (.l (xs.map f)):=by rw[Vn (c:=o9) i (λ_=>true) f J xs ρ [] o (λx m ρ j=>let⟨d,a,b,c⟩:=h x m ρ j;⟨d,a,b,rfl,λ_=>c⟩) (by simpa using n)];rw[List.filter_eq_self.mpr λ_ _=>rfl];rfl
end L2
namespace L2
open PySem
end L2
namespace L2
open PySem PySem.Spec PyProof.Rows PySem.W
section
variable {X:Cx}
def Aa(X:Cx)(T:String)(r:List V->Hp->VK->Prop):Prop:=
 ∀(a:D_)(s:Ef)(c:St)(H:Hp)(b:En)(d:El)(Q:VK),Inv X a c H s->Vals b d->r b H Q->
  wpAny (Fg X) X.A (call (.type T) d) (λv e=>wpAny (Fg X) X.A (call (.type "list") [v]) (EP X a c Q) X.xe e) X.xe s
def gN(u:Aa X T r)(d:Gl X "list")(c:X.mg "list"=none)(q:Gl X x)(z:X.mg x=none)(j:bootBuiltins x=some (.type T))(A:PA X (e::es) t)
  (w:x≠"__name__":=by decide) (b:(x==("__debug__":Str))=false:=by decide)
  (he:starEach (e::es) X.env=(false,eval e X.env)::starEach es X.env:=by rfl) (f:(backTo pos' (starEach es X.env)).any (·.1)=false:=by rfl):
  PE X (.Call (.Name "list" p) [.Call (.Name x p') (e::es) [] pos'] [] pos) (tCB r t):=by
 intro a s g H Q I h;refine O9 (KH I d c a2c ?_ (by decide) (by decide));refine P9 ?_ rfl rfl;show wpAny _ _ (spliced [(false,eval (.Call (.Name x p') (e::es) [] pos') X.env)]) _ _ s;refine N6 ?_;refine O9 (KH I q z j ?_ w b);refine P9 (thn (A pos' a s g H _ I h) λo B ⟨i,C,l,n,y⟩=>thn (u a B g C i o Q l n y) λv s2 m=>?_) he f;exact a0d m
theorem Vp:∀{b:En}{a:El},b.length=a.length->(∀(j:Nat) x u,b[j]?=some x->a[j]?=some u->RelV x u)->Vals b a
 |[],[],_,_=>.nil
 |x::b,u::a,c,h=>.cons (h 0 x u rfl rfl) (Vp (by simpa using c) λj y v d e=>h (j+1) y v (by simpa using d) (by simpa using e))
def cN(I:Inv X pins σ H s)(a:s.heap.objs.size<=l)(i:∀b o,s.heap.get? b=some o->h'.get? b=some o)
  (e:h'.get? l=some { cls:=.type "list",dict:=none,data:=.seq acc c,slots:=#[] }) (hz:ys.length<=sizeLine) (h:ys.length=acc.size) (d:∀(j:Nat) x u,ys[j]?=some x->acc[j]?=some u->RelV x u) (q:∀l,H l=none->Q (.ref l) (upd H l (.lst ys))) (m:X.m<=tk:=by ac_rfl):
  EP X pins σ Q (.ref l) { s with heap:=h',toks:=tk }:=
 ⟨.ref l,_,I.laid (t':=tk) i a (show y3 X.prog X.w _ h' _ (.lst ys)from⟨hz,acc.toList,c,Vp (by rw[a1m];exact h) (λj x u f g=>d j x u f (by simpa using g)),by rw[Array.toArray_toList];exact e⟩),rfl,q _ (I.hok.fresh a)⟩
end
def gO:typeLookup (.type "list_reverseiterator") "__len__"=pure none:=by rw[a0V,T9];kernel_rfl
def nj:typeLookup (.type "list_reverseiterator") "__length_hint__"=pure (some (.builtin "list_reverseiterator.__length_hint__")):=by rw[a0V,T9];kernel_rfl
def sD(a:s.TypeIs (.ref it) "list_reverseiterator")(h:Q false s):wpAny (model prog w) A (Builtin.List.listLengthHint (.ref it)) Q E s:=by
 unfold Builtin.List.listLengthHint;refine f8 (a0U a gO ?_);show wpAny _ _ (specialOf (Value.ref it) (Str.ofString "__length_hint__") >>= _) _ _ _;refine f8 (a0U a nj ?_);generalize hid:("list_reverseiterator.__length_hint__":String)=id0
 (fail_if_success (clear hid id0));wp_delta
 rw[show splitId id0=some ("list_reverseiterator","__length_hint__")from by subst hid;decide +kernel];subst hid;refine f8 (a0p (b:=true) a (by rw[a2m];kernel_rfl) ?_);exact v4 h
def sE{Q:Ec}{d l:Addr}{items:EA}(L:A.handled=none)(D:l≠d)(n:s.heap.IsRevIter d l ((items.size:Int)-1))(x:s.heap.IsList l items)(R:items.size<=sizeLine)
  (P:∀F N a G,(∀b o,b≠d->s.heap.get? b=some o->F.get? b=some o)->F.get? s.heap.objs.size=some { cls:=.type "list",dict:=none,data:=.seq a G,slots:=#[] }->ItemsOf (λi v=>items[items.size-1-i]?=some v) a items.size->Q (.ref s.heap.objs.size) { s with heap:=F,toks:=N }):
  wpAny (model prog w) A (call (.type "list") [.ref d]) Q E s:=by
 have M:d<s.heap.objs.size:=by obtain⟨o,m,_⟩:=n;exact D9 m
 have K:l<s.heap.objs.size:=by obtain⟨o,m,_⟩:=x;exact D9 m
 refine a2n (Q₁:=λu j=>u=.ref s.heap.objs.size/\j={ s with heap:=s.heap.push { cls:=.type "list",data:=.seq #[] } }) a2I (a13 _) a14
  (code_list_new _ ⟨rfl,rfl⟩) λu j y=>?_
 obtain⟨rfl,rfl⟩:=y;have B:(s.heap.push { cls:=.type "list",data:=.seq #[] }).get? s.heap.objs.size=some { cls:=.type "list",data:=.seq #[] }:=F8 _ rfl;refine⟨⟨_,B,rfl⟩,a1V _ _,?_⟩;show wpAny _ _ (do let old<-Builtin.List.listItems (.ref s.heap.objs.size);Builtin.List.listUpdate (.ref s.heap.objs.size) (λ_=>#[]);letGo old.toList.reverse;Builtin.List.listExtendWith (.ref s.heap.objs.size) (.ref d) .none) _ _ _;refine f8 ?_;unfold Builtin.List.listItems;refine f8 (T3 B rfl (v4 ?_));show wpAny _ _ (updateSeq s.heap.objs.size (λ_=>#[]) >>= λ_=>letGo (#[]:Array Value).toList.reverse >>= λ_=>Builtin.List.listExtendWith (.ref s.heap.objs.size) (.ref d) .none) _ _ _;refine f8 (a1f B rfl ?_);have f:=O5 (Obj.mapSeq (λ_=>(#[]:Array Value))) B rfl;refine f8 (a1p ?_);have C:∀b o,s.heap.get? b=some o->((s.heap.push { cls:=.type "list",data:=.seq #[] }).update s.heap.objs.size (Obj.mapSeq (λ_=>(#[]:Array Value)))).get? b=some o:=λb o e=>
  (L9 _ _ (P4 (D9 e))).trans (D2 _ e)
 generalize((s.heap.push { cls:=.type "list",data:=.seq #[] }).update s.heap.objs.size (Obj.mapSeq (λ_=>(#[]:Array Value))))=h2 at f C;have c:h2.IsRevIter d l ((items.size:Int)-1):=by obtain⟨o,m,z⟩:=n;exact⟨o,C _ _ m,z⟩
 have q:h2.IsList l items:=by obtain⟨o,m,z⟩:=x;exact⟨o,C _ _ m,z⟩
 unfold Builtin.List.listExtendWith;refine f8 (a0m (T:="list_reverseiterator") c.typeIs ?_);have h:s.heap.objs.size≠d:=P4 M;have r:s.heap.objs.size≠l:=P4 K;have S:Builtin.List.listSameRef (.ref s.heap.objs.size) (.ref d)=false:=by simp[Builtin.List.listSameRef,h]
 rw[if_neg (by rw[S];decide)];refine f8 (wpAny_pyIter_revIter c ?_);refine f8 (L8 (sD c.typeIs ?_));rw[if_neg (by decide)];refine v4 ⟨a0c a1I _,a2v (Walks.listRev (A:=A.in1.in1) L d l D items).toS R s.heap.objs.size (by simp[h,r]) _ items.size 0 _ _ _ rfl (M7 _) (show _/\Heap.IsRevIter h2 _ _ _/\_ from⟨M7 _,by simpa using c,q⟩) f (ItemsOf.nil _) λI a G J H p=>?_⟩;rw[a2F J];refine⟨rfl,P I.heap I.toks a G (λb o hb e=>J.heap b o (λg=>?_) (C b o e)) H p⟩;rcases G0.mp g with O|g
 .exact absurd (D9 e) (by rw[O];exact O3 _)
 .exact hb (F7.mp g)
section
variable {X:Cx}
def Ab(K:EE)(vs:En)(H:Hp)(Q:VK):Prop:=∃p a,vs=[.ref p]/\SqL K H p a/\∀l,H l=none->Q (.ref l) (upd H l (.lst a.reverse))
def gP(G:X.calm=true):Aa X "reversed" (Ab X.K):=by
 intro y s N H M S Q I r h;obtain⟨p,A,rfl,F,q⟩:=h;obtain⟨u,rfl,L⟩:=vals1 r;cases L;obtain⟨c,B,g,hz⟩:=I.list F;have a:=B.length;have j:p<s.heap.objs.size:=by obtain⟨o,d,_⟩:=g.isList;exact D9 d
 refine call_reversed_list g.isList ?_;have pk:∀b o,s.heap.get? b=some o->(s.heap.push (revObj p ((c.toArray.size:Int)-1))).get? b=some o:=λb o e=>D2 _ e;refine N5 (n:=X.m) I.tk<|sE (items:=c.toArray) (I.ok.hd G) (F1 j) ⟨_,F8 _ rfl,rfl,rfl⟩ (by obtain⟨o,d,z⟩:=g.isList;exact⟨o,pk _ _ d,z⟩) (by simp;omega) λO v m R E D w T=>?_
 refine cN (s:=s) (tk:=v) I ?_ (λb o e=>E b o (F1 (D9 e)) (pk b o e)) D ?_ ?_ ?_ q
 .simp[Heap.push]
 .rw[a0S];exact hz
 .rw[a0S,w.1];simpa using a
 .intro k x u f C;have K:=w.2 k u C;have i:k<A.length:=by have:=(F3.mp f).1;simpa using this
  rw[a08 i]at f;obtain⟨P,l,J⟩:=B.get f;have:c[A.length-1-k]?=some u:=by simpa[a]using K
  rw[this]at l;cases l;exact J
end
def Yp:List PV->Out PV
 |[.l a]=>.ok (.l a.reverse)
 |_=>.wall
def yc.of_get{W:RC}{M:Ee}{H:Hp}:∀{b:Ew}{a:En},b.length=a.length->(∀(j:Nat) x v,b[j]?=some x->a[j]?=some v->Rep W M H x v)->yc W M H b a
 |[],[],_,_=>rfl
 |x::b,v::a,c,h=>⟨v,a,rfl,h 0 x v rfl rfl,yc.of_get (by simpa using c) λj y u d e=>h (j+1) y u (by simpa using d) (by simpa using e)⟩
def yc.reverse(h:yc W M H xs vs):yc W M H xs.reverse vs.reverse:=by
 have c:=h.len;refine yc.of_get (by simp[c]) λj x v a b=>?_;have f:j<xs.length:=by have:=(F3.mp a).1;simpa using this
 rw[a08 f]at a;rw[a08 (by omega),c]at b;obtain⟨u,d,e⟩:=h.get a;rw[d]at b;cases b;exact e
def sF:LfF W (Ab W.K) Yp:=λM C B H e b Q n h q=>by
 unfold Yp at q;split at q
 .obtain⟨v,r,rfl,⟨p,b,rfl,_,a,c⟩,d⟩:=h;cases(show _=_ from d);exact⟨p,b,rfl,SqL.of a,λl a=>q _ _ (zz.upd a) (Va (yc.reverse c) a)⟩
 .exact q.elim
def bB(h:X.calm=true)(a:Gl X "list")(b:X.mg "list"=none)(f:Gl X "reversed")(d:X.mg "reversed"=none)(i:AM X C S ws [e] ms)(he:starEach [e] X.env=[(false,eval e X.env)]:=by rfl):FM X C S (.Call (.Name "list" p) [.Call (.Name "reversed" p') [e] [] pos'] [] pos) (zh Yp ms):=λc=>by obtain⟨l,g,j⟩:=i c;exact⟨_,gN (c▸gP h) a b f d PyProof.Rows.boot_reversed g (he:=he),xK sF j⟩
def Inv.swap(I:Inv X pins σ H s)(h:H a=some u)(C:∀d,u≠.tup d)(y:∀o v,X.H₀ a≠some (.frz o v))(E:∀i,u≠.tbl i)(w:∀b,u≠.own b)(new:y3 X.prog X.w (upd H a u') s.heap a u'):Inv X pins σ (upd H a u') s:=by
 have g:∀b,H b=none->b≠a:=λb n z=>by rw[z,h]at n;cases n
 have j:∀b d,H b=some (.tup d)->b≠a:=λb d q z=>by rw[z,h]at q;cases q;exact C _ rfl
 have B:∀b c,H b=some (.own c)->b≠a:=λb c q z=>by rw[z,h]at q;cases q;exact w _ rfl
 have nn:∀{b},b≠a->upd H a u' b=H b:=λz=>zm z;refine⟨I.ok,I.os,I.bare,⟨I.base.keep,I.base.slot,λb o q n D=>?_,I.base.there,λb d q=>?_,λb o v q=>?_,λb i q=>?_⟩,I.loc,I.cell,?_,λx c q=>?_,λp hp=>?_,λb v q=>?_,I.len,I.tk⟩
 .have:=I.base.free b o q n D;rw[nn (g b this)];exact this
 .have:=I.base.oC b d q;rw[nn (j b d this)];exact this
 .have hb:b≠a:=λz=>y o v (z▸q);rw[nn hb];exact I.base.lG b o v q
 .obtain⟨f,e⟩:=I.base.oE b i q;have hb:b≠a:=λz=>by rw[z,h]at e;cases e;exact E _ rfl
  exact⟨f,by rw[nn hb];exact e⟩
 .rw[nn (g _ I.free)];exact I.free
 .rw[nn (g _ (I.QZ x c q))];exact I.QZ x c q
 .obtain⟨A,l,m⟩:=I.pin p hp;exact⟨A,by rw[nn (g _ l)];exact l,m⟩
 .by_cases hb:b=a
  .subst hb;rw[zi]at q;cases q;exact new
  .rw[nn hb]at q;exact(I.hok b v q).lM (λ_ _ _ r=>r) (λc r=>by rw[nn (B c b r)];exact r) λc d r=>by rw[nn (j c d r)];exact r
def Inv.pf(I:Inv X pins σ H s)(b:H a=some (.dK es)):∀o v,X.H₀ a≠some (.frz o v):=λo v q=>by have:=I.base.lG a o v q;rw[b]at this;cases this
def Inv.DQ(I:Inv X pins σ H s)(c:H a=some (.dK es)):∃o,Inv X pins σ (upd H a (.frz o (.dK es))) s:=by obtain⟨z,i,e,b,o,f,h,d,g⟩:=(show y3 X.prog X.w H s.heap a (.dK es)from I.hok a _ c);exact⟨o,I.swap c (λ_=>by nofun) (I.pf c) (λ_=>by nofun) (λ_=>by nofun) ⟨d,z,i,e,b,o,f,h,d,g⟩⟩
def Inv.DR(I:Inv X pins σ H s)(b:H a=some (.frz o (.dK es)))(hz:∀o v,X.H₀ a≠some (.frz o v)):Inv X pins σ (upd H a (.dK es)) s:=
 I.swap b (λ_=>by nofun) hz (λ_=>by nofun) (λ_=>by nofun) (show y3 X.prog X.w H s.heap a (.frz o (.dK es))from I.hok a _ b).2
def Bk(o:Obj):Nat:=match o.data with | .dict _ a=>a|_=>0
def Itd(a:Addr)(o:Obj)(es:Ei):It:=
 ⟨λi H=>H a=some (.frz o (.dK es))/\i<es.length,λi H x b=>b=H/\∃k v,es[i]?=some (k,v)/\x=kV k,λi H=>H a=some (.frz o (.dK es))/\es.length<=i⟩
def ph(h:KV es vs):∀{i:Nat}{k:Key}{v:V},es[i]?=some (k,v)->∃w,vs[i]?=some (k,w):=by
 induction h with
 |nil=>intro i k v e;simp at e
 |@cons p q _ _ hp _ a=>
  intro i k v e;cases i with
  |zero=>simp at e;subst e;exact⟨q.2,by simp;exact Prod.ext hp.1.symm rfl⟩
  |succ i=>simp at e ⊢;exact a e
def UW(h:(yf P w).is k u=true):RelV (kV k) u:=by
 rw[dF]at h;rcases yJ h with⟨i,t,rfl,rfl⟩|⟨x,t,rfl,rfl⟩
 .exact⟨t,rfl⟩
 .exact⟨t,rfl⟩
def gQ(ok:HOk P w H h)(e:H a=some (.frz o (.dK es))):(a==sysModules)=false/\∃b,KV es b/\h.DictAt (yf P w) a b (Bk o):=by
 obtain⟨f,_,m,b,c,p,i,l,d,j,g,n⟩:=(show y3 P w H h a (.frz o (.dK es))from ok a _ e);rw[f]at d;cases d;have:Bk o=l:=by unfold Bk;rw[g]
 exact⟨m,b,c,o,i,f,j,by rw[this];exact g,n⟩
def gR{P:Eo}{w:Es}{K:EE}{Z:Eh}(a l:Addr)(o:Obj)(es:Ei):Turn P w K Z (Itd a o es) [l] l (λi h=>h.IsKeyIter l a i es.length (Bk o))where
 mem:=by simp
 obj:=λi h f b hb=>by
  have e:b=l:=by simpa using hb
  subst e;obtain⟨o,e,c,d⟩:=f;exact⟨o,e,λv z=>by rw[d]at z;cases z⟩
 keep:=λi h p f k=>f.at λo e=>k l (by simp) o e
 item:=by intro X hP m B M i j s J H E I hf f y;subst hP m B;obtain⟨F,L⟩:=y;obtain⟨U,O,g,A⟩:=gQ I.hok F;have N:es[i]?=some es[i]:=E5 L;obtain⟨w,m⟩:=ph g (k:=es[i].1) (v:=es[i].2) N;obtain⟨x,r,Y,C,D,u⟩:=hf l (by simp);rw[O2 g]at f;refine wpAny_pyNext_dict_item f A m λG p W n R=>?_;have S:Inv X j J H { s with heap:=p }:=I.turned (t':=s.toks) (λb o hb e=>(R.2 b hb).trans e) x r C D u;obtain⟨q,e,c,d⟩:=id n;refine⟨G,rfl,l_ (s:={ s with heap:=p }) e c d (by decide) ⟨_,H,S,UW W,⟨rfl,_,_,N,rfl⟩,?_,λb hb=>(hf b hb).1⟩⟩;rw[O2 g];exact n
 done:=by intro X hP m B M i j s J H E I hf f y;subst hP m B;obtain⟨F,L⟩:=y;obtain⟨U,O,g,A⟩:=gQ I.hok F;obtain⟨x,r,Y,C,D,u⟩:=hf l (by simp);have T:=O2 g;rw[T]at f;exact wpAny_pyNext_dict_end (I.ok.hd M) f A (a1H.mpr (by omega)) λp Q=>⟨rfl,I.turned (t':=s.toks) (λb o hb e=>Q b o hb e) x r C D u⟩
 self:=λ_ _ _ _ _ f h=>wpAny_pyIter_keyiter f h
def pq(tl:TE):TI:=λd H R=>tl d H λx c=>∃a o b,x=.ref a/\c a=some (.frz o (.dK b))/\R (Itd a o b) c
def nk(j:PE X l tl):PI X tg l (pq tl):=by
 intro c s i H R I h;refine thn (j c s i H _ I h) λv f ⟨x,w,d,n,a,o,r,e,u,q⟩=>?_;subst e;cases n;obtain⟨m,y,g,p⟩:=gQ d.hok u;refine wpAny_pyIter_dict m p ?_;refine⟨f.heap.objs.size,[f.heap.objs.size],_,_,w,rfl,d.kept (t':=f.toks) λb o e=>D2 _ e,gR a _ o r,?_,λb hb=>?_,q⟩
 .rw[O2 g];exact⟨_,F8 _ rfl,rfl,rfl⟩
 have e:b=f.heap.objs.size:=by simpa using hb
 subst e;exact d.uj (D3 _) (d.hok.fresh (D3 _))
def pw(h:Rd H a (.dK es))(h':Rd H a (.dK es')):es'=es:=by rcases h with h|⟨o,h⟩<;>rcases h' with h'|⟨b,h'⟩<;>rw[h]at h'<;>cases h'<;>rfl
section
variable {W:RC}{M:Ee}{H H':Hp}{a:Addr}{es:Ei}
def UX(e:Rd H a (.dK es))(h:H b=some u)(d:∀es,u≠.dK es)(c:∀o es,u≠.frz o (.dK es)):b≠a:=λz=>by
 subst z;rcases e with z|⟨o,z⟩<;>rw[z]at h<;>cases h
 .exact d _ rfl
 .exact c _ _ rfl
def QI(e:Rd H a (.dK es))(c:∀b,b≠a->H' b=H b)(h:Rd H b u)(d:∀es,u≠.dK es)(hf:∀o v,u≠.frz o v):Rd H' b u:=by
 rcases h with h|⟨o,h⟩
 .exact .inl ((c b (UX e h d λo es=>hf o _)).trans h)
 .exact .inr ⟨o,(c b (UX e h (λ_=>by nofun) λo es z=>by cases z;exact d _ rfl)).trans h⟩
mutual
theorem Rep.sw(f:Rd H a (.dK es))(i:Rd H' a (.dK es))(d:∀b,b≠a->H' b=H b):∀{x:PV}{v:V},Rep W M H x v->Rep W M H' x v
 |.i n,v,h=>h
 |.s x,v,h=>h
 |.b c,v,h=>h
 |.n,v,h=>h
 |.l s,v,h=>by unfold Rep at h ⊢;obtain⟨p,g,e,m,r,q⟩:=h;exact⟨p,g,e,m,(d p (UX f r (λ_=>by nofun) λ_ _=>by nofun)).trans r,yc.sw f i d q⟩
 |.sc u,v,h=>by unfold Rep at h ⊢;obtain⟨p,e,r⟩:=h;exact⟨p,e,r.elim (λz=>.inl ⟨z.1,QI f d z.2 (λ_=>by nofun) λ_ _=>by nofun⟩) .inr⟩
 |.dt l,v,h=>by unfold Rep at h ⊢;obtain⟨p,e,m,r⟩:=h;exact⟨p,e,m,QI f d r (λ_=>by nofun) λ_ _=>by nofun⟩
 |.t s,v,h=>by unfold Rep at h ⊢;obtain⟨p,g,e,r,q⟩:=h;exact⟨p,g,e,r.elim (λz=>.inl (QI f d z (λ_=>by nofun) λ_ _=>by nofun)) .inr,yc.sw f i d q⟩
 |.d l,v,h=>by
  unfold Rep at h ⊢;obtain⟨p,g,e,m,r,q⟩:=h;refine⟨p,g,e,m,?_,qp.sw f i d q⟩;by_cases hp:p=a
  .subst hp;rw[pw f r];exact i
  .unfold Rd;rw[d p hp];exact r
 |.o c fs,v,h=>by unfold Rep at h ⊢;obtain⟨p,j,g,e,m,r,q⟩:=h;exact⟨p,j,g,e,m,(d p (UX f r (λ_=>by nofun) λ_ _=>by nofun)).trans r,ju.sw f i d q⟩
 |.x c fs,v,h=>by unfold Rep at h ⊢;obtain⟨p,j,g,e,r,o,q⟩:=h;exact⟨p,j,g,e,(d p (UX f r (λ_=>by nofun) λ_ _=>by nofun)).trans r,(d j (UX f o (λ_=>by nofun) λ_ _=>by nofun)).trans o,ju.sw f i d q⟩
theorem yc.sw(d:Rd H a (.dK es))(f:Rd H' a (.dK es))(c:∀b,b≠a->H' b=H b):∀{x:Ew}{v:En},yc W M H x v->yc W M H' x v
 |[],v,h=>h
 |x::l,j,h=>by unfold yc at h ⊢;obtain⟨v,r,e,i,g⟩:=h;exact⟨v,r,e,Rep.sw d f c i,yc.sw d f c g⟩
theorem qp.sw(d:Rd H a (.dK es))(f:Rd H' a (.dK es))(c:∀b,b≠a->H' b=H b):∀{x:Er}{v:Ei},qp W M H x v->qp W M H' x v
 |[],v,h=>h
 | (k,x)::l,j,h=>by unfold qp at h ⊢;obtain⟨v,r,e,i,g⟩:=h;exact⟨v,r,e,Rep.sw d f c i,qp.sw d f c g⟩
theorem ju.sw(d:Rd H a (.dK es))(f:Rd H' a (.dK es))(c:∀b,b≠a->H' b=H b):∀{x:Ex}{v:EF},ju W M H x v->ju W M H' x v
 |[],v,h=>h
 | (k,x)::l,j,h=>by unfold ju at h ⊢;obtain⟨v,r,e,i,g⟩:=h;exact⟨v,r,e,Rep.sw d f c i,ju.sw d f c g⟩
end
def yj.sw{N:Ee}{x:PV}{v:V}(g:Rd H a (.dK es))(j:Rd H' a (.dK es))(f:∀b,b≠a->H' b=H b)(h:yj W N M H x v):yj W N M H' x v:=by
 cases x with
 |l B=>obtain⟨p,u,e,m,r,q⟩:=h;exact⟨p,u,e,m,(f p (UX g r (λ_=>by nofun) λ_ _=>by nofun)).trans r,q.sw g j f⟩
 |d w=>
  obtain⟨p,u,e,m,r,q⟩:=h;refine⟨p,u,e,m,?_,q.sw g j f⟩;by_cases hp:p=a
  .subst hp;rw[pw g r];exact j
  .unfold Rd;rw[f p hp];exact r
 |sc A=>obtain⟨p,e,r⟩:=h;exact⟨p,e,r.elim (λz=>.inl ⟨z.1,QI g f z.2 (λ_=>by nofun) λ_ _=>by nofun⟩) .inr⟩
 |dt w=>obtain⟨p,e,m,r⟩:=h;exact⟨p,e,m,QI g f r (λ_=>by nofun) λ_ _=>by nofun⟩
 |o c fs=>obtain⟨p,y,u,e,m,r,q⟩:=h;exact⟨p,y,u,e,m,(f p (UX g r (λ_=>by nofun) λ_ _=>by nofun)).trans r,q.sw g j f⟩
 |i n=>exact Rep.sw g j f h
 |s n=>exact Rep.sw g j f h
 |b n=>exact Rep.sw g j f h
 |n=>exact Rep.sw g j f h
 |t n=>exact Rep.sw g j f h
 |x c n=>exact Rep.sw g j f h
def K0.sw{p:Addr}{x:PV}(hp:p≠a)(j:Rd H a (.dK es))(m:Rd H' a (.dK es))(f:∀b,b≠a->H' b=H b)(h:K0 W M H p x):K0 W M H' p x:=by
 cases x with
 |l v=>obtain⟨g,e,q⟩:=h;exact⟨g,(f p hp).trans e,q.sw j m f⟩
 |d r=>obtain⟨g,e,q⟩:=h;exact⟨g,(f p hp).trans e,q.sw j m f⟩
 |dt r=>exact(f p hp).trans h
 |o c fs=>obtain⟨u,g,e,q⟩:=h;exact⟨u,g,(f p hp).trans e,q.sw j m f⟩
 |i n=>exact h.elim
 |s n=>exact h.elim
 |b n=>exact h.elim
 |n=>exact h.elim
 |t n=>exact h.elim
 |x c n=>exact h.elim
 |sc n=>exact h.elim
end
def Bs.at'(B:Bs)(a:Addr)(u:HO):Bs:=⟨upd B.H0 a u,B.M0,B.N0,λb h=>by
 by_cases e:b=a
 .rw[e,zi];exact λz=>by cases z
 .rw[zm e];exact B.nz b h,B.pin,B.xc⟩
section
variable {W:RC}{B:Bs}{S:Eb}{P:Em}{H:Hp}{σ:St}{ρ:Sto}{a:Addr}{es:Ei}{u u':HO}
def bC(c:B.H0 a≠none):(B.at' a u).H0 b=none↔B.H0 b=none:=by
 show upd B.H0 a u b=none↔_;by_cases e:b=a
 .subst e;rw[zi];exact⟨λz=>(by cases z),λz=>absurd z c⟩
 .rw[zm e]
def Cf(c:B.H0 a≠none):(B.at' a u).Mt b↔B.Mt b:=or_congr Iff.rfl (bC c)
def px(c:B.H0 a≠none):Mof (B.at' a u) S P b↔Mof B S P b:=and_congr (and_congr (Cf c) Iff.rfl) Iff.rfl
def DU(es:Ei)(u:HO):Prop:=u=.dK es\/∃o,u=.frz o (.dK es)
def DU.rd(h:DU es u)(e:H a=some u):Rd H a (.dK es):=h.elim (λz=>.inl (z▸e)) λ⟨o,z⟩=>.inr ⟨o,z▸e⟩
def Rel.sw(R:Rel W B S P H σ ρ)(r:B.H0 a=some u)(C:DU es u)(l:DU es u'):Rel W (B.at' a u') S P (upd H a u') σ ρ:=by
 have E:H a=some u:=R.same a u r;have d:B.H0 a≠none:=by rw[r];exact λz=>by cases z
 have j:Rd H a (.dK es):=C.rd E;have g:Rd (upd H a u') a (.dK es):=l.rd zi;have c:∀b,b≠a->upd H a u' b=H b:=λb z=>zm z;have D:Mof B S P=Mof (B.at' a u') S P:=funext λb=>propext (px d).symm;have p:∀{i},S[i]?=some 2->P i≠a:=λ{i} f z=>d (z▸(R.act i f).1);refine⟨λb o h=>?_,R.len,λi x e=>?_,λi f=>⟨(bC d).mpr (R.act i f).1,?_⟩,R.inj,R.pin,λb h=>?_,R.axc⟩
 .have h:upd B.H0 a u' b=some o:=h;by_cases e:b=a
  .subst e;rw[zi]at h ⊢;exact h
  .rw[zm e]at h ⊢;exact R.same b o h
 .obtain⟨v,y,m,A,s⟩:=R.var i x e;rw[<- D];exact⟨v,y,λz=>⟨(m z).1,(m z).2.sw (p z) j g c⟩,λz=>(A z).sw j g c,λz w=>(s z w).sw j g c⟩
 .obtain⟨o,e,n⟩:=(R.act i f).2;exact⟨o,(c _ (p f)).trans e,n⟩
 .obtain⟨o,e,n,z⟩:=R.exc b h;have:b≠a:=λq=>d (q▸z);exact⟨o,(c b this).trans e,n,(bC d).mpr z⟩
end
def kP:Key->PV
 |.inl i=>.i i
 |.inr x=>.s x
def gS{W:RC}{M:Ee}{H:Hp}:∀k:Key,Rep W M H (kP k) (kV k)
 |.inl _=>rfl
 |.inr _=>rfl
def Wm(i:Nat):MI:=λc=>match c[i]? with
 |some (some (.d a))=>.ok (a.map λb=>kP b.1)
 |_=>.wall
def gT{W:RC}{M N:Ee}{g:Hp}{a:Addr}{o:Obj}{es:Ei}{kvs:Er}(p:g a=some (.frz o (.dK es)))(h:es.map (·.1)=kvs.map (·.1)):sj W M N g (Itd a o es) (kvs.map λd=>kP d.1):=λs f=>by
 have b:=f a _ p (.inr trivial);have q:es.length=kvs.length:=by simpa using M4 List.length h
 refine⟨λi x l=>?_,b,by rw[D0];omega⟩;rw[F4]at l;obtain⟨d,c,rfl⟩:=u8.mp l;have r:i<kvs.length:=(F3.mp c).1;refine⟨⟨b,by omega⟩,λv m n=>?_⟩;obtain⟨rfl,k,w,e,rfl⟩:=n;have:k=d.1:=by
  have j:(es.map (·.1))[i]?=some k:=by rw[F4,e];rfl
  rw[h,F4,c]at j;cases j;rfl
 subst this;exact⟨zz.refl _,λ_ _=>gS _⟩
section
variable {W:RC}{S:Eb}{i:Nat}
def sG(R:Rel W B S P H σ ρ)(g:S[i]?≠some 2)(h:ρ[i]?=some (some (.d kvs))):∃a b,σ[i]?=some (some (.ref a))/\NA B S P a/\Rd H a (.dK b)/\b.map (·.1)=kvs.map (·.1):=by
 obtain⟨v,d,_,o,p⟩:=R.var i _ h;by_cases c:S[i]?=some 1
 .obtain⟨a,b,rfl,n,r,rk⟩:=o c;have f:=B.nz a n;exact⟨a,b,d,⟨λz=>f (R.exc a z).choose_spec.2.2,λj l e=>f (e▸(R.act j l).1)⟩,r,(qp.iff.mp rk).1⟩
 .obtain⟨a,b,rfl,m,r,rk⟩:=p g c;exact⟨a,b,d,Mof.na m,r,(qp.iff.mp rk).1⟩
def sH(R:Rel W B S P H σ ρ)(na:NA B S P a)(h:H a=some u):(B.loop S P H R.hz).H0 a=some u:=by unfold Bs.loop;dsimp only;rw[if_neg λz=>z.elim (λ⟨j,b,e⟩=>na.2 j b e) na.1];exact h
end
def tGz(e:TE):TE:=λc H Q=>(∃a b,H a=some (.dK b)/\∀o,e c (upd H a (.frz o (.dK b))) (λv d=>(∃o,d a=some (.frz o (.dK b)))/\Q v (upd d a (.dK b))))\/e c H Q
def Cg(h:PE X e te):PE X e (tGz te):=by
 intro b s c H Q I q;rcases q with⟨a,m,f,q⟩|q
 .obtain⟨o,g⟩:=I.DQ f;have hz:∀o v,X.H₀ a≠some (.frz o v):=I.pf f;refine thn (h b s c _ _ g (q o)) λv n ⟨x,l,J,i,⟨j,hf⟩,d⟩=>⟨x,_,J.DR hf hz,i,d⟩
 .exact h b s c H Q I q
theorem Vq{g:MG}{c:MT}{e:ME}{k:Nat}{fs:Ex}:∀{f:Ew}{d:Sto}{a:Ew},lcP g c e f d a≠.exc k fs
 |[],d,a=>by unfold lcP;exact λz=>by cases z
 |x::f,d,a=>by
  unfold lcP;cases g x d with
  |none=>exact λz=>by cases z
  |some b=>
   show(noX (c b)).bind _≠_;cases c b with
   |wall=>exact λz=>by cases z
   |exc _ _=>exact λz=>by cases z
   |ok t=>
    show(if t=true then _ else _)≠_;split
    .cases e b with
     |wall=>exact λz=>by cases z
     |exc _ _=>exact λz=>by cases z
     |ok y=>
      show(if a.length<sizeLine then _ else _)≠_;split
      .exact Vq
      .exact λz=>by cases z
    .exact Vq
def Ac{g:TG}{O:TT}{L:TE}{fr:Et}{w:Eb}(I:S[i]?≠some 2)(N:w=inS S fr)(T:LG ⟨C.W,E0,false⟩ w w g mg)(W:LT ⟨C.W,E0,false⟩ w O mc)(he:LE ⟨C.W,E0,false⟩ w false L me):LFr C S (tGz (tLC (pq (aU i)) g O L fr)) (mLC (Wm i) fr mg mc me):=λB P H σ y R Q q=>by
 cases f:Wm i y with
 |wall=>unfold mLC at q;rw[f]at q;exact q.elim
 |exc c fs=>unfold Wm at f;split at f<;>cases f
 |ok xs=>
  obtain⟨d,A⟩:∃d,y[i]?=some (some (.d d)):=by
   unfold Wm at f;split at f
   .rename_i d h;exact⟨d,h⟩
   .cases f
  have J:xs=d.map λj=>kP j.1:=by unfold Wm at f;rw[A]at f;cases f;rfl
  subst J;obtain⟨a,E,n,na,G,M⟩:=sG R I A;rcases G with l|⟨o,l⟩
  .refine .inl ⟨a,E,l,λo=>?_⟩;have U:=sH R na l;have Rf:=R.loop.sw (u':=.frz o (.dK E)) U (.inl rfl) (.inr ⟨o,rfl⟩);refine bA (C:=C) (mi:=Wm i) (λZ D=>?_) rfl N T W he Rf _ ?_
   .rw[f]at D;exact⟨.ref a,n,a,o,E,rfl,zi,D _ _ (zz.refl _) (gT zi M)⟩
   .unfold mLC at q ⊢;rw[f]at q ⊢;have q:zK C B H (RFr C.W (Mof B S P) H) Q (lcP mg mc me (d.map λj=>kP j.1) (Wl y fr) []):=q;show zK C _ _ _ _ (lcP mg mc me (d.map λj=>kP j.1) (Wl y fr) []);revert q;cases Y:lcP mg mc me (d.map λj=>kP j.1) (Wl y fr) []with
    |wall=>exact id
    |exc c fs=>exact absurd Y Vq
    |ok x=>
     intro q v H2 s r;have hf:=s a _ (zi (H:=H) (o:=.frz o (.dK E)));refine⟨⟨o,hf⟩,q v _ (λb u hb=>?_) ?_⟩
     .by_cases e:b=a
      .subst e;rw[l]at hb;rw[zi];exact hb
      .rw[zm e];exact s b u (by rw[zm e];exact hb)
     .obtain⟨p,e,hp,r⟩:=r;have K:p≠a:=λz=>by rw[z,zi]at hp;cases hp
      rw[zm K]at hp;refine⟨p,e,hp,K0.sw K (.inr ⟨o,hf⟩) (.inl zi) (λb z=>zm z) (r.gen rfl Fr.refl λb m _=>⟨?_,m.2⟩)⟩;have X:(B.loop S P H R.hz).H0 a≠none:=by rw[U];exact λz=>by cases z
      have F:=(px X).mp m.1;exact⟨⟨Vf R F.1.1,F.1.2⟩,F.2⟩
  .refine .inr (bA (C:=C) (mi:=Wm i) (λZ D=>?_) rfl N T W he R _ q);rw[f]at D;exact⟨.ref a,n,a,o,E,rfl,l,D _ _ (zz.refl _) (gT l M)⟩
def Ad(N:Ea)(fr:Et)(a:Eb)(p:X.calm=true)(e:lO X scope N fr=true)(l:PE X jw (aU i))(q:∀z:CI,GM (cxI X scope N z) ⟨C.W,E0,false⟩ a a tg mg)(w:∀z:CI,TsM (cxI X scope N z) ⟨C.W,E0,false⟩ a ifs mc)(he:∀z:CI,EM (cxI X scope N z) ⟨C.W,E0,false⟩ a false elt me)(d:S[i]?≠some 2:=by decide)(m:a=inS S fr:=by rfl)
  (u:∀x,foldedSetIterable jw X.env x=pure x:=by intro _;rfl):FM X C S (.ListComp elt [⟨tg,jw,ifs,0⟩] scope pos) (mLC (Wm i) fr mg mc me):=λf=>by
 obtain⟨g,r,h⟩:=bz q λ_=>f;obtain⟨A,n,j⟩:=bx w λ_=>f;obtain⟨y,o,v⟩:=bw he λ_=>f;exact⟨_,Cg (xo N fr p e (nk l) (λc b s H L=>r ⟨c,b,s,H,L⟩) (λc b s H L=>n ⟨c,b,s,H,L⟩) (λc b s H L=>o ⟨c,b,s,H,L⟩) u),Ac d m h j v⟩
def Ae:List V->Hp->VK->Prop:=λb H Q=>∃(p:Addr)(a:Ei),b=[.ref p]/\Rd H p (.dK a)/\∀l,H l=none->Q (.ref l) (upd H l (.dK a))
def ee:Zz X (.type "dict") Ae:=by intro a s f H j i Q I r h;obtain⟨p,m,rfl,c,q⟩:=h;obtain⟨u,rfl,d⟩:=vals1 r;cases d;exact mM I c λl g b e=>⟨.ref l,_,e,rfl,q l b⟩
def bD(kvs:Er)(k:Key):List (Key×PV):=kvs.filter λa=>decide (a.1≠k)
def qp.drop{W:RC}{M:Ee}{H:Hp}{k:Key}:∀{a:Er}{b:Ei},qp W M H a b->qp W M H (bD a k) (UB b k)
 |[],_,h=>by cases(show _=_ from h);rfl
 |f::a,_,h=>by
  obtain⟨v,q,rfl,d,c⟩:=h;unfold bD UB;rw[a0n,a0n];by_cases e:f.1≠k
  .rw[if_pos (D6 e),if_pos (D6 e)];exact⟨v,_,rfl,d,qp.drop c⟩
  .rw[if_neg (by simpa using e),if_neg (by simpa using e)];exact qp.drop c
def eh(i:Nat)(mk:ME):MS:=λb=>match b[i]? with
 |some (some (.d a))=>(mk b).bind λz=>match pk z with
  |some k=>if(zr a k).isSome=true then .ok (.nx (b.set i (some (.d (bD a k)))))else .wall
  |none=>.wall
 |_=>.wall
def sI(A:PE X o (aU i))(h:EM X C S w a m)(s:M1 X o "pop" qH a jt)(j:S[i]?=some 2:=by rfl)(J:swapsWith (.Call (.Attribute o "pop" qH) [a] [] jt) none pos.line X.env=pure false:=by rfl):
  SM X C S S Sb Sc (.Expr (.Call (.Attribute o "pop" qH) [a] [] jt) pos) (eh i m):=λI=>by
 obtain⟨N,L,F⟩:=h I;refine⟨_,Jc (mL A L s) J,λB P H p e R D q=>?_⟩;unfold eh at q;split at q
 .rename_i b K;obtain⟨d,⟨n,hp,r⟩,E⟩:=R.at2 j K;refine⟨_,d,_,rfl,.inl ⟨n,.inl hp⟩,F B P H p e R _ ?_⟩;revert q;cases m e with
  |exc c fs=>exact id
  |wall=>exact id
  |ok z=>
   intro q u M l G;have R2:=R.keep l;have q:wc C B S Sb Sc D (match pk z with
    |some k=>if(zr b k).isSome=true then .ok (.nx (e.set i (some (.d (bD b k)))))else .wall
    |none=>.wall):=q
   split at q
   .rename_i k h;split at q
    .rename_i hz;obtain⟨x,g⟩:=O4.mp hz;obtain⟨v,y,_⟩:=r.get g;refine⟨n,k,v,l _ _ hp,QC G.weak h,y,q P _ p (R2.wr j E d (by exact id) ?_)⟩;have f:=Mof.wr (o:=.dK (UB n k)) R2 j;exact⟨_,zi,((r.same l).drop).gen f λ_ m _=>m⟩
    .exact q.elim
   .exact q.elim
 .exact q.elim
def aM(prog:Eo)(w:Es)(A:Ey)(s:Ef)(y x:Value)(b:Bool):Prop:=∀(E:Ec)(Q:Bool->Shared->Prop),Q b s->wpAny (model prog w) A (eqBool y x) Q E s
def uu(prog:Eo)(w:Es)(A:Ey)(s:Ef)(y x:Value)(b:Bool):Prop:=∀(E:Ec)(Q:Ec),Q (.bool b) s->wpAny (model prog w) A (richCompare .Eq y x) Q E s
def Af(prog:Eo)(w:Es)(A:Ey)(s:Ef)(y x:Value)(b:Bool):Prop:=∀(E:Ec)(Q:Ec),Q (.bool b) s->wpAny (model prog w) A (richCompare .NotEq y x) Q E s
theorem cO(prog:Eo)(w:Es)(l b:Addr)(xs ys:EA)(n m:Nat)(d1 d2:EH)(sl1 sl2:Ez)(hsz:xs.size=ys.size)(e:Fd):∀(k i:Nat),xs.size-i=k->
  MeetsIn prog w (Builtin.«list.__eq__.loop» ⟨[.ref l,.ref b,rawInt i,rawInt 2],[]⟩) (λA R s=>s.heap.get? l=some { cls:=.type "list",dict:=d1,data:=.seq xs n,slots:=sl1 }/\s.heap.get? b=some { cls:=.type "list",dict:=d2,data:=.seq ys m,slots:=sl2 }/\
   (∀j (h1:j<xs.size) (h2:j<ys.size),aM prog w A.in1 s xs[j] ys[j] (e j))/\R (.ok (.ret (.bool (((List.range xs.size).drop i).all e)))) s)
 |0,i,hk=>λA R s h=>by
  obtain⟨hp,g,d,tk,os⟩:=s;obtain⟨h1,h2,he,h⟩:=h
  wp_walk using E9 h1,E9 h2
  have o1:xs[((i:Nat):Int).toNat]?=none:=by simp;omega
  have o2:ys[((i:Nat):Int).toNat]?=none:=by simp;omega
  have od:(List.range xs.size).drop i=[]:=by simp;omega
  rw[od]at h;rw[o1,o2]
  wp_walk using E9 h1,E9 h2
  show R (.ok (.ret (.bool (xs.size==ys.size)))) _;rw[hsz];simpa using h
 |k+1,i,hk=>λA R s h=>by
  obtain⟨hp,g,d,tk,os⟩:=s;obtain⟨h1,h2,he,h⟩:=h
  wp_walk using E9 h1,E9 h2
  have l1:i<xs.size:=by omega
  have l2:i<ys.size:=by omega
  have o1:xs[((i:Nat):Int).toNat]?=some xs[i]:=by simp[l1]
  have o2:ys[((i:Nat):Int).toNat]?=some ys[i]:=by simp[l2]
  have od:(List.range xs.size).drop i=i::(List.range xs.size).drop (i+1):=by simp[List.drop_eq_getElem_cons,l1]
  have oc:((i:Int)+1)=((i+1:Nat):Int):=by push_cast;rfl
  rw[od,a0a]at h;rw[o1,o2];refine f8 (he i l1 l2 _ _ ?_);cases hb:e i with
  |true=>
   rw[hb]at h
   wp_walk
   rw[oc];exact⟨a0c N4 _,a0z a0u (by
    rw[S9 N4 _];exact cO prog w l b xs ys n m d1 d2 sl1 sl2 hsz e k (i+1) (by omega) A R _ ⟨h1,h2,he,by simpa using h⟩)⟩
  |false=>
   rw[hb]at h
   wp_walk using E9 h1,E9 h2
   rw[o1,o2]
   wp_walk
   simpa using h
def nq(prog:Eo)(w:Es)(l b:Addr)(xs ys:EA)(n m:Nat)(d1 d2:EH)(sl1 sl2:Ez)(hsz:xs.size=ys.size)(e:Fd):
  MeetsIn prog w (Builtin.«list.__eq__» ⟨[.ref l,.ref b],[]⟩) (λA R s=>s.heap.get? l=some { cls:=.type "list",dict:=d1,data:=.seq xs n,slots:=sl1 }/\s.heap.get? b=some { cls:=.type "list",dict:=d2,data:=.seq ys m,slots:=sl2 }/\
   (∀j (h1:j<xs.size) (h2:j<ys.size),aM prog w A.in1 s xs[j] ys[j] (e j))/\R (.ok (.ret (.bool ((List.range xs.size).all e)))) s):=λA R s h=>by
 obtain⟨hp,g,d,tk,os⟩:=s;obtain⟨h1,h2,he,h⟩:=h;have f3:=a2d;have hne:¬(xs.size != ys.size)=true:=by simp[hsz]
 wp_walk using E9 h1,E9 h2
 exact⟨a0c N4 _,a0z a0u (by
  rw[S9 N4 _];exact cO prog w l b xs ys n m d1 d2 sl1 sl2 hsz e _ 0 rfl A R _ ⟨h1,h2,he,by simpa using h⟩)⟩
def gU(q:s.heap.IsList l xs)(hb:s.heap.IsList b ys)(hsz:xs.size=ys.size)(r:A.units<cLine)
  (he:∀j (D:j<xs.size) (z:j<ys.size),aM prog w A.in1 s xs[j] ys[j] (e j)):uu prog w A s (.ref l) (.ref b) ((List.range xs.size).all e):=λE Q h=>by
 obtain⟨⟨C,u,B,a⟩,c,i,n,p⟩:=id q;obtain⟨⟨y,v,F,d⟩,o,f,m,g⟩:=id hb;simp only at i p f g;subst i p f g;exact a1r (op:=.Eq) ⟨_,c,rfl⟩ ⟨_,o,rfl⟩ a2w (a0E a2w ⟨_,c,rfl⟩ PySem.F.entry_list_eq (PySem.F.args_list_eq_2 _ _) (nq prog w l b xs ys n m u v a d hsz e)
  ⟨c,o,he,show Value.bool _≠Value.notImplemented/\Q (.bool _) s from⟨(λx=>nomatch x),h⟩⟩) r
theorem cP(prog:Eo)(w:Es)(l b:Addr)(xs ys:EA)(n m:Nat)(d1 d2:EH)(sl1 sl2:Ez)(hsz:xs.size=ys.size)(e:Fd):∀(k i:Nat),xs.size-i=k->
  MeetsIn prog w (Builtin.«list.__eq__.loop» ⟨[.ref l,.ref b,rawInt i,rawInt 3],[]⟩) (λA R s=>s.heap.get? l=some { cls:=.type "list",dict:=d1,data:=.seq xs n,slots:=sl1 }/\s.heap.get? b=some { cls:=.type "list",dict:=d2,data:=.seq ys m,slots:=sl2 }/\
   (∀j (h1:j<xs.size) (h2:j<ys.size),aM prog w A.in1 s xs[j] ys[j] (e j))/\R (.ok (.ret (.bool (!((List.range xs.size).drop i).all e)))) s)
 |0,i,hk=>λA R s h=>by
  obtain⟨hp,g,d,tk,os⟩:=s;obtain⟨h1,h2,he,h⟩:=h
  wp_walk using E9 h1,E9 h2
  have o1:xs[((i:Nat):Int).toNat]?=none:=by simp;omega
  have o2:ys[((i:Nat):Int).toNat]?=none:=by simp;omega
  have od:(List.range xs.size).drop i=[]:=by simp;omega
  rw[od]at h;rw[o1,o2]
  wp_walk using E9 h1,E9 h2
  show R (.ok (.ret (.bool (xs.size != ys.size)))) _;rw[hsz];simpa using h
 |k+1,i,hk=>λA R s h=>by
  obtain⟨hp,g,d,tk,os⟩:=s;obtain⟨h1,h2,he,h⟩:=h
  wp_walk using E9 h1,E9 h2
  have l1:i<xs.size:=by omega
  have l2:i<ys.size:=by omega
  have o1:xs[((i:Nat):Int).toNat]?=some xs[i]:=by simp[l1]
  have o2:ys[((i:Nat):Int).toNat]?=some ys[i]:=by simp[l2]
  have od:(List.range xs.size).drop i=i::(List.range xs.size).drop (i+1):=by simp[List.drop_eq_getElem_cons,l1]
  have oc:((i:Int)+1)=((i+1:Nat):Int):=by push_cast;rfl
  rw[od,a0a]at h;rw[o1,o2];refine f8 (he i l1 l2 _ _ ?_);cases hb:e i with
  |true=>
   rw[hb]at h
   wp_walk
   rw[oc];exact⟨a0c N4 _,a0z a0u (by
    rw[S9 N4 _];exact cP prog w l b xs ys n m d1 d2 sl1 sl2 hsz e k (i+1) (by omega) A R _ ⟨h1,h2,he,by simpa using h⟩)⟩
  |false=>
   rw[hb]at h
   wp_walk using E9 h1,E9 h2
   rw[o1,o2]
   wp_walk
   simpa using h
def nr(prog:Eo)(w:Es)(l b:Addr)(xs ys:EA)(n m:Nat)(d1 d2:EH)(sl1 sl2:Ez)(hsz:xs.size=ys.size)(e:Fd):
  MeetsIn prog w (Builtin.«list.__ne__» ⟨[.ref l,.ref b],[]⟩) (λA R s=>s.heap.get? l=some { cls:=.type "list",dict:=d1,data:=.seq xs n,slots:=sl1 }/\s.heap.get? b=some { cls:=.type "list",dict:=d2,data:=.seq ys m,slots:=sl2 }/\
   (∀j (h1:j<xs.size) (h2:j<ys.size),aM prog w A.in1 s xs[j] ys[j] (e j))/\R (.ok (.ret (.bool (!(List.range xs.size).all e)))) s):=λA R s h=>by
 obtain⟨hp,g,d,tk,os⟩:=s;obtain⟨h1,h2,he,h⟩:=h;have f3:=a2d;have hne:¬(xs.size != ys.size)=true:=by simp[hsz]
 wp_walk using E9 h1,E9 h2
 exact⟨a0c N4 _,a0z a0u (by
  rw[S9 N4 _];exact cP prog w l b xs ys n m d1 d2 sl1 sl2 hsz e _ 0 rfl A R _ ⟨h1,h2,he,by simpa using h⟩)⟩
def gX(q:s.heap.IsList l xs)(hb:s.heap.IsList b ys)(hsz:xs.size=ys.size)(r:A.units<cLine)
  (he:∀j (D:j<xs.size) (z:j<ys.size),aM prog w A.in1 s xs[j] ys[j] (e j)):Af prog w A s (.ref l) (.ref b) (!(List.range xs.size).all e):=λE Q h=>by
 obtain⟨⟨C,u,B,a⟩,c,i,n,p⟩:=id q;obtain⟨⟨y,v,F,d⟩,o,f,m,g⟩:=id hb;simp only at i p f g;subst i p f g;exact a1r (op:=.NotEq) ⟨_,c,rfl⟩ ⟨_,o,rfl⟩ a2x (a0E a2x ⟨_,c,rfl⟩ PySem.F.entry_list_ne (PySem.F.args_list_ne_2 _ _) (nr prog w l b xs ys n m u v a d hsz e)
  ⟨c,o,he,show Value.bool _≠Value.notImplemented/\Q (.bool _) s from⟨(λx=>nomatch x),h⟩⟩) r
def aM.of_refs(a:l≠b)(h:uu prog w A s (.ref l) (.ref b) k):aM prog w A s (.ref l) (.ref b) k:=λE Q c=>by unfold eqBool;refine L8 ?_;refine wpAny_ite_split (λz=>absurd (by have:=eq_of_beq z;injection this) a) (λ_=>?_);exact f8 (h E _ (a02 c))
def aM.same(v:Value):aM prog w A s v v true:=λE Q h=>a16 v prog w E Q h
def aN:Nat->PV->PV->Option Bool
 |n+1,.l d,.l c=>cF (aN n) d c
 |n+1,.d a,.d b=>if a.length=b.length then bp (Ja n) b a else some false
 |n,x,y=>Ja n x y
section
variable {X:Cx}{pins:D_}{σ:St}{H:Hp}{s:Ef}{W:RC}
theorem UY{f:EK}{b:Er}{r:Bool}(hf:∀x y c,f x y=some c->(∃v N M E m,yj W N M H x v/\yj W E m H y v)->c=true){M m:Ee}{g:Ei}(l:qp W m H b g)(o:(g.map (·.1)).Nodup):∀{a:Er}{u:Ei},(∀p∈u,p∈g)->qp W M H a u->bp f b a=some r->r=true
 |[],_,_,_,e=>by cases e;rfl
 |i::a,_,z,h,e=>by
  obtain⟨v,q,rfl,F,C⟩:=h;unfold bp at e;have w:Qy g i.1=some v:=by have G:=z (i.1,v) D8;obtain⟨j,I⟩:=List.mem_iff_getElem?.mp G;exact Xz o I
  cases n:zr b i.1 with
  |none=>have:=l.uq n;rw[w]at this;cases this
  |some y=>rw[n]at e;obtain⟨L,J,D,A,rfl⟩:=wb e;obtain⟨K,d,B⟩:=l.get n;rw[w]at d;cases d;rw[hf _ _ _ D ⟨v,_,_,_,_,yj.iff.mpr F,yj.iff.mpr B⟩,UY hf l o (λp hp=>z p (D5 _ hp)) C A];rfl
def nu(I:Inv X pins σ H s)(w:W.K=X.K):∀{n:Nat}{x y:PV}{b:Bool}{v:V}{N M B i:Ee},aN n x y=some b->yj W N M H x v->yj W B i H y v->b=true:=by
 intro n
 induction n with
 |zero=>intro x y b v N M B i h m j;exact Jf I w (n:=0) (by cases x<;>cases y<;>exact h) m j
 |succ n ih=>
  have D:∀{o f:Ew}{u:En}{b:Bool}{M i:Ee},cF (aN n) o f=some b->yc W M H o u->yc W i H f u->b=true:=by
   intro o
   induction o with
   |nil=>intro f u b M i h F A;cases(show _=_ from F);cases f with
    |nil=>cases h;rfl
    |cons y f=>obtain⟨_,_,z,_⟩:=A;cases z
   |cons x o G=>
    intro f u b M i h F A;obtain⟨v,q,rfl,a1,Q⟩:=F;cases f with
    |nil=>cases(show _=_ from A)
    |cons y f=>obtain⟨v',q',z,U,J⟩:=A;cases z;obtain⟨c1,c2,P,L,rfl⟩:=wb h;rw[ih P (yj.iff.mpr a1) (yj.iff.mpr U),G L Q J];rfl
  intro x y b v N M B i h m j;cases x with
  |l o=>
   cases y with
   |l f=>obtain⟨p,u,rfl,_,e,r⟩:=m;obtain⟨Z,T,z,_,g,C⟩:=j;cases z;rw[e]at g;cases g;exact D h r C
   |_=>exact Jf I w (n:=n+1) h m j
  |d a=>
   cases y with
   |d c=>
    obtain⟨p,Y,rfl,_,e,r⟩:=m;obtain⟨Z,E,z,_,g,C⟩:=j;cases z;have:E=Y:=by rcases e with e|⟨_,e⟩<;>rcases g with g|⟨_,g⟩<;>rw[e]at g<;>cases g<;>rfl
    subst this;have h:(if a.length=c.length then bp (Ja n) c a else some false)=some b:=h;have O:a.length=c.length:=by rw[<- r.len,<- C.len]
    rw[if_pos O]at h;exact UY (λx y c R ⟨v,N,M,B,i,S,K⟩=>Jf I w R S K) C (mW I e) (λp hp=>hp) r h
   |_=>exact Jf I w (n:=n+1) h m j
  |_=>exact Jf I w (n:=n+1) (by cases y<;>exact h) m j
def Ag(I:Inv X pins σ H s)(hK:W.K=X.K):∀(n:Nat){A:Ey}{x y:PV}{b:Bool}{D F:V}{u v:Value}{N M O K:Ee},aN n x y=some b->yj W N M H x D->yj W O K H y F->RelV D u->RelV F v->A.units+n+1<cLine->
  aM X.prog X.w A s u v b/\uu X.prog X.w A s u v b/\Af X.prog X.w A s u v (!b):=by
 have C:∀(n:Nat){A:Ey}{x y:PV}{b:Bool}{D F:V}{u v:Value}{N M O K:Ee},Ja n x y=some b->yj W N M H x D->yj W O K H y F->RelV D u->RelV F v->A.units+n+1<cLine->
   aM X.prog X.w A s u v b/\uu X.prog X.w A s u v b/\Af X.prog X.w A s u v (!b):=λn {A x y b D F u v N M O K} h o w i m L=>by
  obtain⟨q1,q2,q3⟩:=mX I hK n (A:=A) h o w i m (by omega);exact⟨λE Q z=>q1 _ _ E Q z,λE Q z=>q2 _ _ E Q z,λE Q z=>q3 _ _ E Q z⟩
 intro n
 induction n with
 |zero=>intro A x y b D F u v N M O K h o w i m L;exact C 0 (by cases x<;>cases y<;>exact h) o w i m L
 |succ n ih=>
  intro A x y b D F u v N M O K h o w i m L;have top:∀{p q:Addr},u=.ref p->v=.ref q->D=.ref p->F=.ref q->uu X.prog X.w A s u v b/\Af X.prog X.w A s u v (!b)->aM X.prog X.w A s u v b/\uu X.prog X.w A s u v b/\Af X.prog X.w A s u v (!b):=λ{p q} e1 e2 e3 e4 hr=>by
   refine⟨?_,hr⟩;by_cases c:p=q
   .subst c;rw[e1,e2];rw[nu I hK h (e3▸o) (e4▸w)];exact aM.same _
   .rw[e1,e2]at hr ⊢;exact aM.of_refs c hr.1
  cases x with
  |l xs=>
   cases y with
   |l ys=>
    have hh:=h;obtain⟨p,vs,rfl,_,e,r⟩:=o;obtain⟨p',vs',rfl,_,e',r'⟩:=w;cases i;cases m;refine top rfl rfl rfl rfl ?_;obtain⟨P,r1,U,_⟩:=I.list (SqL.of e);obtain⟨R,r2,Z,_⟩:=I.list (SqL.of e');have B:P.toArray.size=xs.length:=by rw[F0,<- r1.length,r.len]
    have G:R.toArray.size=ys.length:=by rw[F0,<- r2.length,r'.len]
    have h:cF (aN n) xs ys=some b:=h;by_cases g:xs.length=ys.length
    .obtain⟨f,hf,rfl⟩:=Xy h;rw[g,T2,a2C,Nat.min_self,<- g,<- B];have it:∀j (o:j<P.toArray.size) (w:j<R.toArray.size),aM X.prog X.w A.in1 s P.toArray[j] R.toArray[j] (f j):=by
      intro j g1 g2;have t1:P[j]?=some P.toArray[j]:=by simp at g1 ⊢
      have t2:R[j]?=some R.toArray[j]:=by simp at g2 ⊢
      have k1:j<vs.length:=by rw[r1.length];simpa using g1
      have k2:j<vs'.length:=by rw[r2.length];simpa using g2
      obtain⟨u0,w1,i⟩:=r1.get (E5 k1);obtain⟨v0,w2,m⟩:=r2.get (E5 k2);rw[t1]at w1;cases w1;rw[t2]at w2;cases w2;obtain⟨x',hx',rx'⟩:=r.rS (E5 k1);obtain⟨y',hy',ry'⟩:=r'.rS (E5 k2);exact(ih (A:=A.in1) (hf j x' y' hx' hy') (yj.iff.mpr rx') (yj.iff.mpr ry') i m (by show A.units+1+n+1<cLine;omega)).1
     exact⟨gU U.isList Z.isList (by rw[B,G,g]) (by omega) it,gX U.isList Z.isList (by rw[B,G,g]) (by omega) it⟩
    .rw[Xx h g];exact⟨λE Q z=>a1S U.isList Z.isList (by rw[B,G];simpa using g) (by omega) _ _ E Q z,λE Q z=>SeqAt.RcNeAt.lists_lengths U.isList Z.isList (by rw[B,G];simpa using g) (by omega) _ _ E Q z⟩
   |_=>exact C (n+1) h o w i m L
  |d a=>
   cases y with
   |d c=>
    obtain⟨p,es,rfl,_,ha,ra⟩:=o;obtain⟨p',es',rfl,_,hb,rb⟩:=w;cases i;cases m;refine top rfl rfl rfl rfl ?_;obtain⟨_,na,va,ka,da⟩:=wI I.hok ha;obtain⟨_,S,Y,kb,T⟩:=wI I.hok hb;have B:va.length=a.length:=by rw[<- O2 ka];have:=M4 List.length (qp.iff.mp ra).1;simpa using this
    have G:Y.length=c.length:=by rw[<- O2 kb];have:=M4 List.length (qp.iff.mp rb).1;simpa using this
    have e:(if a.length=c.length then bp (Ja n) c a else some false)=some b:=h;by_cases g:a.length=c.length
    .rw[if_pos g]at e;have J:=λ(_:va.length=Y.length)=>XB I hK (A:=A.in1) (by show A.units+1+n<cLine;omega) rb kb ra ka e;refine⟨λE Q z=>keq_eq na S da T (by omega) J ?_,λE Q z=>keq_ne na S da T (by omega) J ?_⟩
     .rw[B,G,g,T2,a0b];exact z
     .rw[B,G,g,T2,a0b];exact z
    .rw[if_neg g]at e;cases e;have nh:va.length=Y.length->KeqHits A.in1 s Y va false:=λz=>absurd (by rw[<- B,<- G,z]) g;refine⟨λE Q z=>keq_eq na S da T (by omega) nh ?_,λE Q z=>keq_ne na S da T (by omega) nh ?_⟩
     .rw[a0F];exact z
     .rw[a0F];exact z
   |_=>exact C (n+1) h o w i m L
  |_=>exact C (n+1) (by cases y<;>exact h) o w i m L
end
def Ah(W:RC)(a:Bool):R2:=λd c H Q=>∃M x y b,yj W (λ_=>True) M H x d/\yj W (λ_=>True) M H y c/\aN 8 x y=some b/\Q (.bl (xor a b)) H
def sJ(f:W.K=X.K)(m:X.A.units+64<cLine):OpR X (compareOp .Eq) (Ah W false):=by intro a s l H j n u v Q I d g h;obtain⟨M,x,y,b,i,c,e,q⟩:=h;rw[M8]at q;exact(Ag I f 8 e i c d g (by omega)).2.1 _ _ ⟨.bl b,H,I,rfl,q⟩
def nv(a:Bool)(x y:PV):Out PV:=match aN 8 x y with|some b=>.ok (.b (xor a b))|none=>.wall
abbrev Bl:Addr->Prop:=λ_=>True
def LEv(C:LC)(S:Eb)(c:TE)(m:ME):Prop:=∀B P H a b,Rel C.W B S P H a b->∀Q,zK C B H (Rep C.W Bl) Q (m b)->c a H Q
def EVm(X:Cx)(C:LC)(S:Eb)(e:Eh)(m:ME):Prop:=X.K=C.W.K->∃a,PE X e a/\LEv C S a m
def LAv(C:LC)(S:Eb)(c:TA)(m:MA):Prop:=∀B P H a b,Rel C.W B S P H a b->∀Q,Xu C B H (yc C.W Bl) Q (m b)->c a H Q
def AVm(X:Cx)(C:LC)(S:Eb)(es:Eg)(m:MA):Prop:=X.K=C.W.K->∃a,PA X es a/\LAv C S a m
def eA(h:EM X C S w e m):EVm X C S e m:=λg=>by obtain⟨f,c,d⟩:=h g;exact⟨f,c,λB P H a b R Q q=>d B P H a b R Q (ZL q λx v i s r=>yj.iff.mp (r.weak.sub (λ_ _ _=>trivial) λ_ _ _=>trivial))⟩
def Ai:AVm X C S [] zl:=λ_=>⟨_,JG,λB P H a b R Q q=>q [] H (zz.refl _) rfl⟩
def bE(h:EVm X C S e m)(t:AVm X C S es ms)(s:starEach (e::es) X.env=(false,eval e X.env)::starEach es X.env:=by rfl):AVm X C S (e::es) (zb m ms):=λg=>by
 obtain⟨y,u,o⟩:=h g;obtain⟨z,r,l⟩:=t g;refine⟨_,vD u r s,λB P H d a R Q q=>o B P H d a R _ ?_⟩;unfold zb at q;revert q;cases m a with
 |exc c fs=>exact id
 |wall=>exact id
 |ok x=>
  intro q v w i p;refine l B P w d a (R.keep i) _ ?_;have q:Xu C B H (yc C.W Bl) Q ((ms a).bind λf=>.ok (x::f)):=q;revert q;cases ms a with
  |exc c fs=>exact id
  |wall=>exact id
  |ok f=>exact λq b j s2 n=>q (v::b) j (i.trans s2) ⟨v,b,rfl,p.same s2,n⟩
def Aj(h:AVm X C S es ms):EVm X C S (.List es pos) (ZD ms):=λi=>by
 obtain⟨m,j,g⟩:=h i;refine⟨_,fC j,λB P H d e R Q q=>g B P H d e R _ (yK q λl c o n b a=>?_)⟩;split at a
 .rename_i f;exact⟨by rw[b.len];exact f,λp hp=>a _ _ (zz.upd hp) ⟨p,c,rfl,trivial,zi,b.same (zz.upd hp)⟩⟩
 .exact a.elim
def Ak(j:r=Ah C.W neg)(n:LEv C S ta m1)(h:LEv C S tb m2):LE C S false (tOp r ta tb) (mOp (nv neg) m1 m2):=λB P H c d R Q q=>
 n B P H c d R _ (zI q λx v i o l m=>h B P i c d (R.keep o) _ (zI m λy u f s2 g a=>by
  subst j;unfold nv at a;cases e:aN 8 x y with
  |none=>rw[e]at a;exact a.elim
  |some b=>rw[e]at a;exact⟨Bl,x,y,b,yj.iff.mpr (l.same s2),yj.iff.mpr g,e,a _ f (zz.refl _) (RV.of rfl)⟩))
def pA(f:X.A.units+64<cLine)(g:EVm X C S a m1)(h:EVm X C S b m2):EM X C S false (.Compare a [.Eq] [b] pos) (mOp (nv false) m1 m2):=λc=>by obtain⟨m,i,j⟩:=g c;obtain⟨l,d,e⟩:=h c;exact⟨_,aX (sJ c.symm f) i d (Kq _ (by decide) (by decide)),Ak rfl j e⟩
end L2
namespace L2
open PySem
def Ci{c:Type}{P:List c->Prop}{us:List c}(d:us.length=1)(h:∀a,P [a]):P us:=by rcases us with _|⟨a,_|⟨b,us⟩⟩<;>first|exact h _|cases d
def Cj{d:Type}{P:List d->Prop}{us:List d}(e:us.length=2)(h:∀a b,P [a,b]):P us:=by rcases us with _|⟨a,_|⟨b,_|⟨c,us⟩⟩⟩<;>first|exact h _ _|cases e
def Ck{e:Type}{P:List e->Prop}{us:List e}(f:us.length=3)(h:∀a b c,P [a,b,c]):P us:=by rcases us with _|⟨a,_|⟨b,_|⟨c,_|⟨d,us⟩⟩⟩⟩<;>first|exact h _ _ _|cases f
def Cm{f:Type}{P:List f->Prop}{us:List f}(g:us.length=4)(h:∀a b c d,P [a,b,c,d]):P us:=by rcases us with _|⟨a,_|⟨b,_|⟨c,_|⟨d,_|⟨e,us⟩⟩⟩⟩⟩<;>first|exact h _ _ _ _|cases g
def Cn{g:Type}{P:List g->Prop}{us:List g}(i:us.length=5)(h:∀a b c d e,P [a,b,c,d,e]):P us:=by rcases us with _|⟨a,_|⟨b,_|⟨c,_|⟨d,_|⟨e,_|⟨f,us⟩⟩⟩⟩⟩⟩<;>first|exact h _ _ _ _ _|cases i
def gY(z:CXe P w outer H s (λ_ _ _=>False) v s'):False:=by obtain⟨_,_,_,_,_,_,_,_,_,_,_,_,_,_,_,_,_,_,q⟩:=z;exact q
def okb{b c:Type}{a:b}{f:b->Out c}:(Out.ok a).bind f=f a:=Eq.trans (Eq.refl _) (Eq.refl _)
section
variable {α σ:Type}{g:MG}{b:MS}{c:MT}{e:ME}{ρ ρ':Sto}{s t:MS}{m:ME}{x:PV}{mi:MI}{o:Out Fw}{i:Nat}
def zd(h:∃ρ',s ρ=.ok (.nx ρ')/\t ρ'=o):zZ s t ρ=o:=let⟨_,a,b⟩:=h;(sC a).trans b
def bF{fr:Et}{xs:Ew}(h:mi ρ=.ok xs)(a:lcP g c e xs (Wl ρ fr) []=.ok x):mLC mi fr g c e ρ=.ok x:=by unfold mLC;rw[h,jA,a]
def z_(h:m ρ=.ok x):qu i m ρ=.ok (.nx (ρ.set i (some x))):=by unfold qu;rw[h,jA]
def qG(h:mi ρ=.ok xs)(a:vd g b xs ρ=o):JJ mi g b ρ=o:=by unfold JJ;rw[h,jA,a]
def ny{n:Nat}(h:n<=1000000):gI [.i (n:Int)]=.ok (cM 0 n):=by unfold gI;exact(if_pos ⟨by omega,by omega⟩).trans (by rw[a1C])
def cQ(h:ms ρ=.ok [.i (n:Int)])(a:n<=1000000):Vi ms ρ=.ok (cM 0 n):=by unfold Vi;rw[h,jA,ny a]
def sL(h:ms ρ=.ok [.i n])(d:0<=n)(a:n<=1000000):Vi ms ρ=.ok (cM 0 n.toNat):=cQ (n:=n.toNat) (by rw[h];congr 3;omega) (by omega)
def yh(h:m ρ=.ok (.l xs)):yF m ρ=.ok xs:=by unfold yF;rw[h,jA];rfl
def cR:cM 0 n=(List.range n).map λk=>PV.i ((k:Nat):Int):=by unfold cM;exact R8 λk _=>by congr 1;omega
theorem gZ(n:α->PV)(J:σ->Sto->Prop)(N:σ->α->σ->Prop):∀(j:List α)(u:σ)(ρ:Sto),J u ρ->(∀x∈j,∀u ρ,J u ρ->∃d,g (n x) ρ=some d/\∃f a,N u x f/\J f a/\(b d=.ok (.nx a)\/b d=.ok (.ct a)))->∃f ρ',J f ρ'/\vd g b (j.map n) ρ=.ok (.nx ρ')
 |[],u,ρ,h,_=>⟨u,ρ,h,rfl⟩
 |x::j,u,ρ,h,q=>by obtain⟨d,r,f,a,_,w,l⟩:=q x D8 u ρ h;obtain⟨v,p,B,z⟩:=gZ n J N j f a w λy A=>q y (D5 _ A);refine⟨v,p,B,?_⟩;rw[E6,Vl,r,Vk,jA];rcases l with l|l<;>(rw[l,jA];exact z)
theorem cS(l:α->PV)(J:Nat->Sto->Prop):∀(f:List α)(j:Nat)(ρ:Sto),J j ρ->(∀(k:Nat)(h:k<f.length)(ρ:Sto),J (j+k) ρ->∃a,g (l f[k]) ρ=some a/\∃d,J (j+k+1) d/\(b a=.ok (.nx d)\/b a=.ok (.ct d)))->∃ρ',J (j+f.length) ρ'/\vd g b (f.map l) ρ=.ok (.nx ρ')
 |[],j,ρ,h,_=>⟨ρ,h,rfl⟩
 |x::f,j,ρ,h,r=>by
  obtain⟨a,u,d,v,n⟩:=r 0 (Nat.zero_lt_succ _) ρ h;obtain⟨q,z,w⟩:=cS l J f (j+1) d v λk y ρ p=>by have:=r (k+1) (Nat.succ_lt_succ y) ρ (by rw[show j+(k+1)=j+1+k by omega];exact p);rw[show j+(k+1)+1=j+1+k+1 by omega]at this;exact this
  refine⟨q,by rw[D4,show j+(f.length+1)=j+1+f.length by omega];exact z,?_⟩;rw[E6,Vl,show g (l x) ρ=some a from u,Vk,jA];rcases n with n|n<;>(rw[n,jA];exact w)
def Jk(f:α->PV)(J:Nat->Sto->Prop)(xs:List α)(ρ:Sto)(h:J 0 ρ)(l:∀(k:Nat)(h:k<xs.length)(ρ:Sto),J k ρ->∃a,g (f xs[k]) ρ=some a/\∃d,J (k+1) d/\(b a=.ok (.nx d)\/b a=.ok (.ct d))):∃ρ',J xs.length ρ'/\vd g b (xs.map f) ρ=.ok (.nx ρ'):=by
 have:=cS (g:=g) (b:=b) f J xs 0 ρ h λk n ρ j=>by have:=l k n ρ (by rwa [a2Z]at j);rwa [a2Z]
 rwa [a2Z]at this
def cT(J:Nat->Sto->Prop)(n:Nat)(ρ:Sto)(h:J 0 ρ)(j:∀(k:Nat),k<n->∀(ρ:Sto),J k ρ->∃a,g (.i (k:Int)) ρ=some a/\∃d,J (k+1) d/\(b a=.ok (.nx d)\/b a=.ok (.ct d))):∃ρ',J n ρ'/\vd g b (cM 0 n) ρ=.ok (.nx ρ'):=by
 have:=Jk (g:=g) (b:=b) (λk:Nat=>PV.i (k:Int)) J (List.range n) ρ h λk l ρ f=>by rw[a2Y];exact j k (by rwa [a0g]at l) ρ f
 rwa [a0g,<- cR]at this
end
end L2
namespace L2
open PySem PySem.Spec PyProof.Rows PySem.W
section
variable {prog:Eo}{w:Es}{A:Ey}{E:Ec}{h:Heap}{g:Array GenState}{d:Drawn}{t:Nat}{os:OsState}{a:Addr}{its:EA}{n:Nat}{sl:Ez}
def UZ:typeLookup (.type "list") "keys"=pure none:=by rw[a0V,T9];kernel_rfl
def Vr:typeLookup (.type "list") "__getattr__"=pure none:=by rw[a0V,T9];kernel_rfl
def g9:isSubtype (.type "AttributeError") (.type "AttributeError")=pure true:=by rw[a2m];kernel_rfl
def sO(he:h.get? e=some ⟨.type "AttributeError",none,.fields #[T,.none,.none,.none,.bool false,X,rawInt 0,rawInt 0],#[]⟩)
  (j:∀c,(∀b o,b≠e->h.get? b=some o->c.get? b=some o)->(∃f,c.get? e=some f/\f.cls=.type "AttributeError")->Q () ⟨c,g,d,t,os⟩):
  wpAny (model prog w) A (noteAttr (.ref e) o name) Q E ⟨h,g,d,t,os⟩:=by
 have i:(⟨h,g,d,t,os⟩:Shared).TypeIs (.ref e) "AttributeError":=⟨_,he,rfl⟩;unfold noteAttr lacksNameAndObj;refine f8 ?_;refine f8 (a0p (b:=true) i g9 ?_);rw[if_neg (by decide)];refine f8 (a2r he ?_);dsimp only;rw[if_neg (λz=>by cases(show false=true from z))];rw[if_neg (λz=>by cases(show false=true from z))];refine v4 ?_;rw[if_pos rfl];refine f8 (a1J ?_);refine f8 (a0m (T:="AttributeError") i ?_);dsimp only;unfold layMembers;refine f8 (a2r he ?_);dsimp only;refine wpAny_update he ?_;refine j _ (λb o hb l=>(L9 _ _ (Ne.symm hb)).trans l) ⟨_,O5 _ he rfl,rfl⟩
def eB(hh:A.handled=none)(hx:h.get? a=some ⟨.type "list",none,.seq its n,sl⟩)
  (hE:∀h' tk e,(∀b o,h.get? b=some o->h'.get? b=some o)->(∃oe,h'.get? e=some oe/\oe.cls=.type "AttributeError")->E (.ref e) ⟨h',g,d,tk,os⟩):
  wpAny (model prog w) A (Builtin.«object.__getattribute__» ⟨[.ref a,.str "keys" tk],[]⟩) Q E ⟨h,g,d,t,os⟩:=by
 have hT:(⟨h,g,d,t,os⟩:Shared).TypeIs (.ref a) "list":=⟨_,hx,rfl⟩;have f4:=UZ
 repeat(any_goals(first|assumption|wp_step))
 unfold raiseAttrError;refine f8 (wpAny_mkStr (f8 ?_) (by decide +kernel));unfold newExc newTuple;refine f8 (P8 ?_);refine f8 (m:=firstArgMember _ _) (a2e (a:=Value.none) (by simp only[firstArgMember];kernel_rfl) ?_);refine P8 ?_;refine f8 (a2X (f8 ?_));refine sO (F8 _ rfl) λh' hk he=>?_;unfold raiseNew;refine f8 (wpAny_handled ?_);rw[hh]
 first
  |refine a24 ?_
  |refine f8 (v4 (a24 ?_))
 exact hE _ _ _ (λb o e=>hk b o (F1 (E7 (D9 e) (by simp))) (D2 _ (D2 _ e))) he
def g_(l:A.handled=none)(f:h.get? a=some ⟨.type "list",none,.seq its n,sl⟩)
  (hE:∀c j e,(∀b o,h.get? b=some o->c.get? b=some o)->(∃i,c.get? e=some i/\i.cls=.type "AttributeError")->R (.error (.ref e)) ⟨c,g,d,j,os⟩):
  codeAny (model prog w) A (.call (.builtin "list.__getattribute__") ⟨[.ref a,.str "keys" j],[]⟩) R ⟨h,g,d,t,os⟩:=
 a1d F.slot_list_getattribute.plain F.entry_list_ga (F.slot_list_getattribute.check _ _ _ _ _ _ _ _ (show(⟨h,g,d,t,os⟩:Shared).TypeIs (.ref a) "list" from⟨_,f,rfl⟩) (F.args_list_getattribute_2 _ _) (eB l f hE))
def sP(r:A.handled=none)(l:h.get? a=some ⟨.type "list",none,.seq its n,sl⟩)(q:∀f i,(∀b o,h.get? b=some o->f.get? b=some o)->Q none ⟨f,g,d,i,os⟩):
  wpAny (model prog w) A (getAttr? (.ref a) "keys") Q E ⟨h,g,d,t,os⟩:=by
 have u:∀t,(⟨h,g,d,t,os⟩:Shared).TypeIs (.ref a) "list":=λt=>⟨_,l,rfl⟩;have p:=F.slot_list_getattribute.lookup;have m:=F.slot_list_getattribute.bind (.ref a);unfold getAttr? getAttrBy?;refine f8 (a2X ?_);refine f8 (a0P ?_);unfold getAttrBy;refine L8 ?_;refine f8 (a0m (T:="list") (u _) ?_);refine f8 (a2e p ?_);dsimp only;rw[if_neg (λz=>by cases(show false=true from z))];unfold getAttrByItsOwn hookBefore;rw[if_neg (λz=>by cases(show false=true from z))];refine f8 (v4 ?_);refine f8 (a0P ?_);refine L8 ?_;unfold callGetattribute;rw[if_neg (λz=>by cases(show false=true from z))];unfold boundAndCalled;refine f8 (a2e m ?_);dsimp only;refine a0K (g_ r l λf i e v j=>?_);obtain⟨x,j,s⟩:=j;have c:(⟨f,g,d,i,os⟩:Shared).TypeIs (.ref e) "AttributeError":=⟨_,j,s⟩;dsimp only;unfold getattributeRaised;refine f8 (a0p (b:=true) c g9 ?_);rw[if_pos rfl];unfold hookBehind;rw[if_neg (λz=>by cases(show false=true from z))];refine f8 (a2e Vr ?_);unfold hookOrError attributeErrorLeaves;dsimp only;rw[if_pos (show(!false)=true from rfl)];refine f8 (a24 ?_);refine f8 (a0p (b:=true) c g9 ?_);rw[if_pos rfl];exact v4 (q f i v)
end
def Yz:entryFor table "dict.update.loop"=some Builtin.«dict.update.loop»:=entryFor_of_tree (by kernel_rfl)
def jJ:plainId "dict.update.loop"=true:=by decide +kernel
section
variable {prog:Eo}{w:Es}{A:Ey}{R:Result->Shared->Prop}{I:Addr}{fp wr:ES}{G:Array GenState->Array GenState->Prop}{n:Nat}{P:Nat->Value->Prop}{St:Nat->Shared->Prop}{K:Type}[DecidableEq K] {knd:KeyKind prog w K}
def TupAt(h:Heap)(a:Addr)(k v:Value):Prop:=∃o m,h.get? a=some o/\o.cls=.type "tuple"/\o.data=.seq #[k,v] m
def lU(key:Nat->K)(val:Fc):Nat->List (K×Value)
 |0=>[]
 |i+1=>stored (lU key val i) (key i) (val i)
theorem XM(key:Nat->K)(val:Fc):∀i,(lU key val i).length<=i
 |0=>D3 _
 |i+1=>by
  have:=XM key val i;unfold lU stored;split
  .rw[D0];omega
  .rw[E8];show _+1<=_;omega
def nA(W:WalksS prog w A.in1 I fp wr G n P St)(D:Addr)(r:D∉fp)(key:Nat->K)(kv val:Fc)(ad:Em)(hP:∀i v,P i v->v=.ref (ad i))(hk:∀i,i<n->knd.is (key i) (kv i)=true)(hw:∀i,i<n->ad i∉D::wr)(hn:n<=sizeLine):
  ∀(k i:Nat)(M:Tok)(s:Ef),n-i=k->i<=n->St i s->(∀j,j<n->TupAt s.heap (ad j) (kv j) (val j))->s.heap.DictOf knd D (lU key val i)->
   (∀a,Moved (D::wr) G s a->a.heap.DictOf knd D (lU key val n)->R (.ok (.ret .none)) a)->
   codeAny (model prog w) A (.builtin "dict.update.loop" ⟨[.ref D,.ref I,.int (i:Int) M,.none],[]⟩) R s:=by
 have B:D∉wr:=λh=>r (W.sub _ h);have f:∀b∈wr,b∈D::wr:=λb hb=>D5 _ hb;have u:∀{s a:Ef},Moved (D::wr) G s a->(∀j,j<n->TupAt s.heap (ad j) (kv j) (val j))->∀j,j<n->TupAt a.heap (ad j) (kv j) (val j):=λg h j hj=>by obtain⟨o,m,E,L,h3⟩:=h j hj;exact⟨o,m,g.heap _ _ (hw j hj) E,L,h3⟩
 intro k
 induction k with
 |zero=>
  intro i M s Z hi l ht hD S;have X:i=n:=by omega
  subst X;refine a0z Yz ?_;rw[S9 jJ _];show wpAny _ A.in1 (pyNext (.ref I) >>= _) _ _ s;refine f8 (W.done s _ _ l λa g=>?_);dsimp only;refine f8 (m:=Builtin.Dict.addKeywords D []) ?_;refine v4 ?_;exact v4 (S a (g.mono f) (by
   obtain⟨o,Y,O,J,c⟩:=hD;exact⟨o,Y,O,g.heap D _ B J,c⟩))
 |succ k ih=>
  intro i M s Z hi l ht hD S;have d:i<n:=by omega
  refine a0z Yz ?_;rw[S9 jJ _];show wpAny _ A.in1 (pyNext (.ref I) >>= _) _ _ s;refine f8 (W.item i s _ _ d l λv a N y g=>?_);cases hP i v N;have x:=g.mono f;have Q:=u x ht;obtain⟨o,m,E,L,h3⟩:=Q i d;have F:a.heap.DictOf knd D (lU key val i):=by obtain⟨o,Y,O,J,c⟩:=hD;exact⟨o,Y,O,g.heap D _ B J,c⟩
  have hT:a.TypeIs (.ref (ad i)) "tuple":=⟨o,E,L⟩;dsimp only;refine f8 (L8 (f8 (wpAny_tryCatch ?_)));unfold Builtin.Dict.pairItems;refine f8 (a0m (T:="tuple") hT ?_);rw[if_pos (by decide)];unfold seqItems?;refine f8 (f8 (a2r E ?_));rw[h3];dsimp only;refine v4 (v4 ?_);show wpAny _ _ (holding [kv i,val i] (dictSet D (kv i) (val i))) _ _ _;refine L8 (wpAny_dictSet_pairs (hsz:=F2 (XM key val i) (F2 hi hn)) (hk i d) F λh' U C=>?_);have e1:((i:Int)+1)=((i+1:Nat):Int):=by omega
  have q:Moved (D::wr) G s { a with heap:=h',toks:=a.toks+1 }:=x.then_heap (S7 _) λb o hb e=>by rw[C.2 b (λh:b=D=>hb (by rw[h];exact D8))];exact e
  refine v4 ⟨a0c jJ _,?_⟩;rw[show rawInt ((i:Int)+1)=Value.int ((i+1:Nat):Int) 0 by rw[e1];rfl];refine ih (i+1) 0 _ (by omega) d (W.frame _ a _ _ y (S7 _) λb hb o e=>?_) (u q ht) U λH z p=>S H (Moved.trans W.gtrans q z) p;rw[C.2 b (λh:b=D=>r (by rw[<- h];exact hb))];exact e
end
section
variable {prog:Eo}{w:Es}{A:Ey}{E:Ec}{s:Ef}{K:Type}[DecidableEq K] {knd:KeyKind prog w K}
def XN{l:Addr}{items:EA}{m:Nat}{sl:Ez}{Q:Ec}{key:Nat->K}{kv val:Fc}{ad:Em}(hh:A.handled=none)(hl:s.heap.get? l=some ⟨.type "list",none,.seq items m,sl⟩)
  (hP:∀i,i<items.size->items[i]?=some (.ref (ad i))) (ht:∀i,i<items.size->TupAt s.heap (ad i) (kv i) (val i)) (hk:∀i,i<items.size->knd.is (key i) (kv i)=true) (hn:items.size<=sizeLine)
  (h:∀h' tk,(∀b o,s.heap.get? b=some o->h'.get? b=some o)->h'.DictOf knd s.heap.objs.size (lU key val items.size)->Q (.ref s.heap.objs.size) { s with heap:=h',toks:=tk }):
  wpAny (model prog w) A (call (.type "dict") [.ref l]) Q E s:=by
 refine a2n (Q₁:=λobj s₁=>obj=.ref s.heap.objs.size/\s₁={ s with heap:=s.heap.push { cls:=.type "dict",data:=.dict #[] } }) F.kt_called_dict (F.kt_typeCall_dict_1 _) F.entry_dict_init (kt_code_dict_new _ ⟨rfl,rfl⟩) ?_
 rintro obj s₁ ⟨rfl,rfl⟩
 have hnew:(s.heap.push { cls:=.type "dict",data:=.dict #[] }).DictOf knd s.heap.objs.size []:=Heap.DictOf.new s.heap;have hl':(s.heap.push { cls:=.type "dict",data:=.dict #[] }).get? l=some ⟨.type "list",none,.seq items m,sl⟩:=D2 _ hl;refine⟨hnew.typeIs,F.args_dict_init_2 _ _,?_⟩;unfold Builtin.«dict.__init__»;refine f8 ?_;unfold Builtin.Dict.selfAndRest;refine f8 (wpAny_notOrdered_dict hnew.typeIs ?_);show wpAny _ _ (pure (s.heap.objs.size,[Value.ref l])) _ _ _;refine v4 ?_;show wpAny _ _ (Builtin.Dict.updateFrom "dict.__init__" s.heap.objs.size (.ref l) [] .none) _ _ _;unfold Builtin.Dict.updateFrom;refine f8 (a0m (T:="list") ⟨_,hl',rfl⟩ ?_);rw[if_pos (by decide)];refine f8 ?_;refine sP hh hl' λh1 t1 k1=>?_;rw[if_pos (show(none:Option Value).isNone=true from rfl)];refine f8 (a1J ?_);have hl1:h1.get? l=some ⟨.type "list",none,.seq items m,sl⟩:=k1 _ _ hl';have hil:h1.IsList l items:=⟨_,hl1,rfl,m,rfl⟩;refine f8 (wpAny_pyIter_list hil ?_);have D1:h1.DictOf knd s.heap.objs.size []:=by obtain⟨o,es,ep,ho,rest⟩:=hnew;exact⟨o,es,ep,k1 _ _ ho,rest⟩
 have ls:l<s.heap.objs.size:=D9 hl;have l1:l<h1.objs.size:=D9 hl1;have ds:s.heap.objs.size<h1.objs.size:=by obtain⟨o,_,_,ho,_⟩:=D1;exact D9 ho
 have hne:l≠h1.objs.size:=F1 l1;have kp:∀b o,h1.get? b=some o->(h1.push { cls:=.type "list_iterator",data:=.fields #[.ref l,.int 0 0] }).get? b=some o:=λb o e=>D2 _ e;have tl:∀j,j<items.size->ad j<s.heap.objs.size:=λj hj=>by obtain⟨o,_,h1,_⟩:=ht j hj;exact D9 h1
 refine v4 ⟨a0c jJ _,nA (knd:=knd) (Walks.list (A:=A.in1.in1) hh h1.objs.size l hne items).toS s.heap.objs.size (by simp;exact⟨F1 ds,P4 ls⟩) key kv val ad (λi v hv=>?_) hk (λi hi=>?_) hn items.size 0 0 _ (by omega) (M7 _) ⟨⟨_,F8 _ rfl,rfl,rfl⟩,?_⟩ (λj hj=>?_) ?_ λs' hm hD=>?_⟩
 .have hi:i<items.size:=by
   by_cases c:i<items.size
   .exact c
   .rw[a2b (by omega)]at hv;cases hv
  rw[hP i hi]at hv;cases hv;rfl
 .have:=tl i hi;intro hm;rcases G0.mp hm with e|hm
  .exact F1 this e
  .exact F1 (a0W this ds) (F7.mp hm)
 .exact⟨_,kp _ _ hl1,rfl,m,rfl⟩
 .obtain⟨o,q,e1,e2,e3⟩:=ht j hj;exact⟨o,q,kp _ _ (k1 _ _ (D2 _ e1)),e2,e3⟩
 .obtain⟨o,es,ep,ho,rest⟩:=D1;exact⟨o,es,ep,kp _ _ ho,rest⟩
 .rw[a2F hm];refine⟨rfl,h s'.heap s'.toks (λb o e=>hm.heap b o (λhmem=>?_) (kp _ _ (k1 _ _ (D2 _ e)))) hD⟩;have:=D9 e;rcases G0.mp hmem with e'|hm
  .exact F1 this e'
  .exact F1 (a0W this ds) (F7.mp hm)
end
section
variable {X:Cx}
def XQ(K:EE)(H:Hp):List V->List (Key×V)->Prop
 |[],b=>b=[]
 |x::c,b=>∃a k v r,x=.ref a/\b=(k,v)::r/\SqT K H a [kV k,v]/\XQ K H c r
def hG(es:Ei):List (Key×V):=es.foldl (λa b=>putK a b.1 b.2) []
def pB(K:EE):List V->Hp->VK->Prop:=λc H Q=>∃(p:Addr)(b:En)(a:Ei),c=[.ref p]/\SqL K H p b/\XQ K H b a/\∀l,H l=none->Q (.ref l) (upd H l (.dK (hG a)))
theorem cU{d:D_}{u:St}{H:Hp}{s:Ef}(I:Inv X d u H s):∀{j:En}{g:Ei}{b:El},XQ X.K H j g->Vals j b->∃c:List (Addr×Value×Value),b=c.map (λp=>Value.ref p.1)/\c.length=g.length/\(∀p∈c,TupAt s.heap p.1 p.2.1 p.2.2)/\∀(i:Nat) p e,c[i]?=some p->g[i]?=some e->RelV (kV e.1) p.2.1/\RelV e.2 p.2.2
 |[],_,b,h,r=>by cases(show _=_ from h);cases r;exact⟨[],rfl,rfl,(λ_ h=>by cases h),λ_ _ _ h=>by cases h⟩
 |x::j,_,b,h,r=>by
  obtain⟨a,k,v,g,rfl,rfl,G,B⟩:=h;cases r with
  |cons K r=>
   cases K;obtain⟨c,y,n,q,E⟩:=cU I B r;obtain⟨L,D,⟨o,F,w,m,J⟩,_⟩:=I.tuple G;obtain⟨z,A,rfl,C,l⟩:=vals2 D;refine⟨(a,z,A)::c,by rw[y];rfl,by rw[D4,D4,n],λp hp=>?_,λi p e hp f=>?_⟩
   .rcases G0.mp hp with rfl|hp
    .exact⟨o,m,F,w,J⟩
    .exact q p hp
   .cases i with
    |zero=>rw[List.getElem?_cons_zero]at hp f;cases hp;cases f;exact⟨C,l⟩
    |succ i=>rw[L6]at hp f;exact E i p e hp f
theorem hU{es:Ei}{key:Nat->Key}{val:Fc}:∀n,n<=es.length->(∀i e,i<n->es[i]?=some e->key i=e.1/\RelV e.2 (val i))->KV ((es.take n).foldl (λb d=>putK b d.1 d.2) []) (lU key val n)
 |0,_,_=>.nil
 |n+1,l,h=>by have a:n<es.length:=l;have c:=E5 a;rw[List.take_succ,c,List.foldl_append];obtain⟨g,j⟩:=h n _ (a0l n) c;show KV (putK _ _ _) (stored (lU key val n) (key n) (val n));rw[g];exact(hU n (a1L a) λi e m f=>h i e (a1B m) f).put _ j
def eC(W:X.calm=true):Zz X (.type "dict") (pB X.K):=by
 intro L s σ H Y us Q I r h;obtain⟨p,Y,b,rfl,T,hp,q⟩:=h;obtain⟨u,rfl,U⟩:=vals1 r;cases U;obtain⟨w,B,⟨o,m,Z,G,O,F⟩,hz⟩:=I.list T;obtain⟨g,J,E,P,K⟩:=cU I hp B;have f:w.length=b.length:=by rw[J,D0,E]
 have A:∀i,i<b.length->∃a,g[i]?=some a/\b[i]?=some (b.getD i (.inl 0,.non))/\g.getD i (0,.none,.none)=a:=λi c=>by
  have v:i<g.length:=by rw[E];exact c
  refine⟨g[i],E5 v,by rw[a0R,E5 c];rfl,by rw[a0R,E5 v];rfl⟩
 have d:w.toArray.size=b.length:=by simpa using f
 obtain⟨cls,M,N,C⟩:=o;dsimp only at G O F;subst G O F;refine N5 (n:=X.m) (by ac_rfl)<|XN (knd:=yf X.prog X.w) (key:=λi=>(b.getD i (.inl 0,.non)).1) (kv:=λi=>(g.getD i (0,.none,.none)).2.1) (val:=λi=>(g.getD i (0,.none,.none)).2.2) (ad:=λi=>(g.getD i (0,.none,.none)).1) (I.ok.hd W) Z (λi c=>?_) (λi c=>?_) (λi c=>?_) ?_ λh' R S hD hn=>?_
 .rw[d]at c;obtain⟨a,l,_,j⟩:=A i c;rw[j];simp[J,l]
 .rw[d]at c;obtain⟨a,l,_,j⟩:=A i c;rw[j];exact P a (S8 l)
 .rw[d]at c;obtain⟨a,l,y,j⟩:=A i c;rw[j];exact Wk (K i a _ l y).1
 .rw[d,<- f,<- B.length];exact hz
 .rw[d]at hD;have x:KV (hG b) (lU (λi=>(b.getD i (.inl 0,.non)).1) (λi=>(g.getD i (0,.none,.none)).2.2) b.length):=by
   have:=hU (es:=b) (key:=λi=>(b.getD i (.inl 0,.non)).1) (val:=λi=>(g.getD i (0,.none,.none)).2.2) b.length (D3 _) λi e c y=>?_
   .rwa [a0q]at this
   .obtain⟨a,l,z,j⟩:=A i c;rw[y]at z;cases z;rw[j];exact⟨by rw[a0R,y],(K i a _ l y).2⟩
  have D:=I.hok.fresh (D3 s.heap.objs.size);refine⟨.ref s.heap.objs.size,_,I.laid (a:=s.heap.objs.size) (o:=.dK (hG b)) (t':=R) S (D3 _) (UC ?_ (O0.mpr (Ne.symm (F1 I.big))) x hD),rfl,q _ D⟩;rw[x.length];refine F2 (XM _ _ _) ?_;rw[<- f,<- B.length];exact hz
end
def lV:List PV->Option (List (Key×PV))
 |[]=>some []
 |.t [k,v]::a=>(pk k).bind λq=>(lV a).map ((q,v)::·)
 |_=>none
def Vs(es:Er):List (Key×PV):=es.foldl (λa b=>dput a b.1 b.2) []
def ZN:List PV->Out PV
 |[.d a]=>.ok (.d a)
 |[.l a]=>vk ((lV a).map λb=>.d (Vs b))
 |_=>.wall
section
variable {W:RC}{M:Ee}{H:Hp}
theorem h8:∀{c:Ew}{f:En}{d:Er},yc W M H c f->lV c=some d->∃ev,XQ W.K H f ev/\qp W M H d ev
 |[],_,_,h,e=>by cases e;cases(show _=_ from h);exact⟨[],rfl,rfl⟩
 |x::c,_,d,h,e=>by
  obtain⟨v,r,rfl,s,j⟩:=h;unfold lV at e;split at e
  .cases ‹_::_=[]›
  .rename_i k y C b;cases b;obtain⟨q,o,e⟩:=F5.mp e;obtain⟨z,hz,rfl⟩:=u8.mp e;obtain⟨ev,i,l⟩:=h8 j hz;obtain⟨p,B,rfl,hp,w,A,rfl,m,a,u,rfl,g,n⟩:=s;cases(show _=_ from n);cases QC (yj.iff.mpr m) o;exact⟨(q,a)::ev,⟨p,q,a,ev,rfl,rfl,hp,i⟩,⟨a,ev,rfl,g,l⟩⟩
  .cases e
theorem W0:∀{es:Er}{ev:Ei}{a:Er}{av:Ei},qp W M H a av->qp W M H es ev->qp W M H (es.foldl (λacc kv=>dput acc kv.1 kv.2) a) (ev.foldl (λacc kv=>putK acc kv.1 kv.2) av)
 |[],_,_,_,h,e=>by cases(show _=_ from e);exact h
 |kx::es,_,a,av,h,⟨v,q,e,h1,h2⟩=>by subst e;rw[a0w,a0w];exact W0 (a:=dput a kx.1 kx.2) (av:=putK av kx.1 v) (h.put h1) h2
def nB:LfF W (λb H Q=>Ae b H Q\/pB W.K b H Q) ZN:=λM C B H o b Q n h q=>by
 unfold ZN at q;split at q
 .obtain⟨v,r,rfl,⟨p,f,rfl,_,a,d⟩,c⟩:=h;cases(show _=_ from c);exact .inl ⟨p,f,rfl,a,λl a=>q _ _ (zz.upd a) (rZ d a)⟩
 .obtain⟨z,e,q⟩:=qr q;obtain⟨f,i,rfl⟩:=u8.mp e;obtain⟨v,r,rfl,⟨p,m,rfl,_,a,d⟩,c⟩:=h;cases(show _=_ from c);obtain⟨ev,g,j⟩:=h8 d i;exact .inr ⟨p,m,ev,rfl,SqL.of a,g,λl a=>q _ _ (zz.upd a) (rZ (W0 (show qp W M H [] []from rfl) j) a)⟩
 .exact q.elim
end
def QJ(b:X.calm=true)(c:Gl X "dict")(a:X.mg "dict"=none)(d:AM X C S ws [e] ms)(he:starEach [e] X.env=[(false,eval e X.env)]:=by rfl):FM X C S (.Call (.Name "dict" p) [e] [] pos) (zh ZN ms):=
 cI (λf=>f▸ee.or (eC b)) nB c a PyProof.Rows.boot_dict d (he:=he)
section
variable {prog:Eo}{w:Es}{A:Ey}{E:Ec}{s:Ef}
def len_dict:typeLookup (.type "dict") "__len__"=pure (some (.builtin "dict.__len__")):=by rw[a0V,T9];kernel_rfl
def sQ(a:s.TypeIs (.ref d) "dict")(h:Q false s):wpAny (model prog w) A (Builtin.List.listLengthHint (.ref d)) Q E s:=by
 unfold Builtin.List.listLengthHint;refine f8 (a0U a len_dict ?_);generalize hid:("dict.__len__":String)=id0
 (fail_if_success (clear hid id0));wp_delta
 rw[show splitId id0=some ("dict","__len__")from by subst hid;decide +kernel];dsimp only;refine f8 (a0p (b:=true) a (by rw[a2m];kernel_rfl) ?_);subst hid;rw[if_neg (by decide)];rw[if_pos (by decide +kernel)];refine f8 (a0m (T:="dict") a ?_);exact v4 h
variable {K:Type}[DecidableEq K] {knd:KeyKind prog w K}
def sR{Q:Ec}{d:Addr}{kvs:List (K×Value)}{ep:Nat}(U:A.handled=none)(Z:(d==sysModules)=false)(hm:s.heap.DictAt knd d kvs ep)(hn:kvs.length<=sizeLine)
  (hQ:∀I X c M,(∀b o,s.heap.get? b=some o->I.get? b=some o)->I.get? s.heap.objs.size=some { cls:=.type "list",dict:=none,data:=.seq c M,slots:=#[] }->ItemsOf (λi v=>∃k x,kvs[i]?=some (k,x)/\knd.is k v=true) c kvs.length->Q (.ref s.heap.objs.size) { s with heap:=I,toks:=X }):
  wpAny (model prog w) A (call (.type "list") [.ref d]) Q E s:=by
 have P:d<s.heap.objs.size:=by obtain⟨o,_,W,_⟩:=hm;exact D9 W
 refine a2n (Q₁:=λC g=>C=.ref s.heap.objs.size/\g={ s with heap:=s.heap.push { cls:=.type "list",data:=.seq #[] } }) a2I (a13 _) a14
  (code_list_new _ ⟨rfl,rfl⟩) λC g G=>?_
 obtain⟨rfl,rfl⟩:=G;have J:(s.heap.push { cls:=.type "list",data:=.seq #[] }).get? s.heap.objs.size=some { cls:=.type "list",data:=.seq #[] }:=F8 _ rfl;refine⟨⟨_,J,rfl⟩,a1V _ _,?_⟩;show wpAny _ _ (do let old<-Builtin.List.listItems (.ref s.heap.objs.size);Builtin.List.listUpdate (.ref s.heap.objs.size) (λ_=>#[]);letGo old.toList.reverse;Builtin.List.listExtendWith (.ref s.heap.objs.size) (.ref d) .none) _ _ _;refine f8 ?_;unfold Builtin.List.listItems;refine f8 (T3 J rfl (v4 ?_));show wpAny _ _ (updateSeq s.heap.objs.size (λ_=>#[]) >>= λ_=>letGo (#[]:Array Value).toList.reverse >>= λ_=>Builtin.List.listExtendWith (.ref s.heap.objs.size) (.ref d) .none) _ _ _;refine f8 (a1f J rfl ?_);have a:=O5 (Obj.mapSeq (λ_=>(#[]:Array Value))) J rfl;refine f8 (a1p ?_);have O:∀b o,s.heap.get? b=some o->((s.heap.push { cls:=.type "list",data:=.seq #[] }).update s.heap.objs.size (Obj.mapSeq (λ_=>(#[]:Array Value)))).get? b=some o:=λb o e=>
  (L9 _ _ (P4 (D9 e))).trans (D2 _ e)
 generalize((s.heap.push { cls:=.type "list",data:=.seq #[] }).update s.heap.objs.size (Obj.mapSeq (λ_=>(#[]:Array Value))))=h2 at a O;have l:h2.DictAt knd d kvs ep:=hm.at' λo e=>O _ _ e;have D:∀{B:Ef},B.heap.DictAt knd d kvs ep->B.TypeIs (.ref d) "dict":=λz=>z.dictOf.typeIs;unfold Builtin.List.listExtendWith;refine f8 (a0m (T:="dict") (D l) ?_);have f:s.heap.objs.size≠d:=P4 P;have h1:Builtin.List.listSameRef (.ref s.heap.objs.size) (.ref d)=false:=by simp[Builtin.List.listSameRef,f]
 rw[if_neg (by rw[h1];decide)];refine f8 (wpAny_pyIter_dict Z l ?_);have j:∀b o,h2.get? b=some o->(h2.push { cls:=.type "dict_keyiterator",data:=.fields #[.ref d,.int 0 0,.int kvs.length 0,.int ep 0] }).get? b=some o:=λb o e=>D2 _ e;have h:(h2.push { cls:=.type "dict_keyiterator",data:=.fields #[.ref d,.int 0 0,.int kvs.length 0,.int ep 0] }).DictAt knd d kvs ep:=l.at' λo e=>j _ _ e;refine f8 (L8 (sQ (D h) ?_));rw[if_pos (by decide)];refine f8 (a1J ?_);unfold Builtin.List.listTouch Builtin.List.listUpdate;have s2:s.heap.objs.size<h2.objs.size:=D9 a;have dn:d≠h2.objs.size:=F1 (a0W P s2);have m:=j _ _ a;have n:(h2.push { cls:=.type "dict_keyiterator",data:=.fields #[.ref d,.int 0 0,.int kvs.length 0,.int ep 0] }).get? h2.objs.size=some { cls:=.type "dict_keyiterator",data:=.fields #[.ref d,.int 0 0,.int kvs.length 0,.int ep 0] }:=F8 _ rfl;have R:∀b o,s.heap.get? b=some o->(h2.push { cls:=.type "dict_keyiterator",data:=.fields #[.ref d,.int 0 0,.int kvs.length 0,.int ep 0] }).get? b=some o:=λb o e=>j _ _ (O b o e);generalize(h2.push { cls:=.type "dict_keyiterator",data:=.fields #[.ref d,.int 0 0,.int kvs.length 0,.int ep 0] })=h3 at m n R h;refine f8 (f8 (a1f m rfl ?_));have u:=O5 (Obj.mapSeq (λx:Array Value=>x.push Value.none)) m rfl;refine a1f u rfl ?_;have F:=O5 (Obj.mapSeq (λx:Array Value=>x.pop)) u rfl;have L:∀b o,b≠s.heap.objs.size->h3.get? b=some o->((h3.update s.heap.objs.size (Obj.mapSeq λx=>x.push Value.none)).update s.heap.objs.size (Obj.mapSeq λx=>x.pop)).get? b=some o:=λb o hb e=>
  (L9 _ _ (Ne.symm hb)).trans ((L9 _ _ (Ne.symm hb)).trans e)
 have H:=h.at' (h':=((h3.update s.heap.objs.size (Obj.mapSeq λx=>x.push Value.none)).update s.heap.objs.size (Obj.mapSeq λx=>x.pop))) λo e=>L _ _ (Ne.symm f) e;have q:=L _ _ (P4 s2) n;have S:∀b o,s.heap.get? b=some o->((h3.update s.heap.objs.size (Obj.mapSeq λx=>x.push Value.none)).update s.heap.objs.size (Obj.mapSeq λx=>x.pop)).get? b=some o:=λb o e=>L b o (F1 (D9 e)) (R b o e);generalize((h3.update s.heap.objs.size (Obj.mapSeq λx=>x.push Value.none)).update s.heap.objs.size (Obj.mapSeq λx=>x.pop))=h5 at F H q S;refine v4 ⟨a0c a1I _,a2v (Walks.dictKeys (knd:=knd) (A:=A.in1.in1) U h2.objs.size d dn kvs ep).toS hn s.heap.objs.size (by simp;exact⟨F1 s2,f⟩) _ kvs.length 0 _ _ _ rfl (M7 _) (show _/\_ from⟨⟨_,q,rfl,rfl⟩,H⟩) F (ItemsOf.nil _) λB c M p N r=>?_⟩;rw[a2F p];refine⟨rfl,hQ B.heap B.toks c M (λb o e=>p.heap b o (λy=>?_) (S b o e)) N r⟩;have:=D9 e;rcases G0.mp y with Y|hm
 .exact F1 this Y
 .exact F1 (a0W this s2) (F7.mp hm)
end
section
variable {X:Cx}
def pC:List V->Hp->VK->Prop:=λb H Q=>∃p a,b=[.ref p]/\Rd H p (.dK a)/\∀l,H l=none->Q (.ref l) (upd H l (.lst (a.map λc=>kV c.1)))
def eD(R:X.calm=true):Zz X (.type "list") pC:=by
 intro m s Y H xs us Q I r h;obtain⟨p,S,rfl,L,q⟩:=h;obtain⟨u,rfl,N⟩:=vals1 r;cases N;obtain⟨z,G,b,a,o,K,i,F,C,E,P,U,B⟩:=wI I.hok L;have f:b.length=S.length:=a.length.symm;refine N5 (n:=X.m) (by ac_rfl)<|sR (knd:=yf X.prog X.w) (kvs:=b) (ep:=i) (I.ok.hd R) G ⟨o,K,F,C,E,P,U,B⟩ (by rw[f];exact z) λZ g e c' J O l hn=>?_
 refine cN (s:=s) (tk:=g) I (D3 _) J O ?_ ?_ ?_ q
 .rw[D0];exact z
 .rw[D0,l.1,f]
 .intro j x v c M;obtain⟨k,y,w,T⟩:=l.2 j v M;rw[F4]at c;obtain⟨d,D,rfl⟩:=u8.mp c;obtain⟨W,A⟩:=ph a (k:=d.1) (v:=d.2) D;rw[A]at w;cases w;exact UW T
end
def qI:List PV->Out PV
 |[.l a]=>.ok (.l a)
 |[.t a]=>.ok (.l a)
 |[.sc a]=>.ok (.l (a.map PV.i))
 |[.d b]=>.ok (.l (b.map λc=>kP c.1))
 |_=>.wall
theorem cV{W:RC}{M:Ee}{H:Hp}:∀{a:Er}{b:Ei},qp W M H a b->yc W M H (a.map λc=>kP c.1) (b.map λf=>kV f.1)
 |[],_,h=>by cases(show _=_ from h);rfl
 |c::r,_,⟨v,q,e,g,d⟩=>by subst e;exact⟨_,_,rfl,gS _,cV d⟩
def nC(L:LfF W r rY):LfF W (λa H Q=>r a H Q\/pC a H Q) qI:=λM C B H f a Q n h q=>by
 unfold qI at q;split at q
 .exact .inl (L M C B H _ a Q n h q)
 .exact .inl (L M C B H _ a Q n h q)
 .exact .inl (L M C B H _ a Q n h q)
 .obtain⟨v,r,rfl,⟨p,c,rfl,_,b,d⟩,e⟩:=h;cases(show _=_ from e);exact .inr ⟨p,c,rfl,b,λl b=>q _ _ (zz.upd b) (Va (cV d) b)⟩
 .exact q.elim
def jK(b:X.calm=true)(c:Gl X "list")(a:X.mg "list"=none)(d:AM X C S ws [e] ms)(he:starEach [e] X.env=[(false,eval e X.env)]:=by rfl):FM X C S (.Call (.Name "list" p) [e] [] pos) (zh qI ms):=
 cI (λf=>f▸Uz.or (eD b)) (nC r8) c a a2c d (he:=he)
def Al:List V->Hp->VK->Prop:=λa H Q=>∃b:Bool,a=[.bl b]/\Q (.int (if b then 1 else 0)) H
def h9:Zz X (.type "int") Al:=by intro a s d H f e Q I r h;obtain⟨b,rfl,q⟩:=h;obtain⟨u,rfl,c⟩:=vals1 r;cases c;exact call_int_bool ⟨.int _,H,I.tok _,⟨_,rfl⟩,q⟩
def eF:List PV->Out PV
 |[.b c]=>.ok (.i (if c then 1 else 0))
 |_=>.wall
def sS:LfC W Al eF:=λM C B H d c Q n h q=>by
 unfold eF at q;split at q
 .obtain⟨v,r,rfl,a,b⟩:=h;cases(show _=_ from b);cases(show _=_ from a);exact⟨_,rfl,q _ H (zz.refl _) rfl⟩
 .exact q.elim
def h_(a:Gl X "int")(b:X.mg "int"=none)(c:AM X C S ws [e] ms)(he:starEach [e] X.env=[(false,eval e X.env)]:=by rfl):EM X C S false (.Call (.Name "int" p) [e] [] pos) (zh eF ms):=
 mZ (λ_=>h9) sS a b PyProof.Rows.Boot.int c (he:=he)
inductive HV where
 |v (x:PV)|g (k:Nat)|t (xs:List HV)
inductive Cell where
 |l (xs:List HV)|d (kvs:List (Key×HV))|z (kvs:List (Key×HV))|o (c:Nat) (fs:List (Str×HV))|y (b:Bool)|m (l c:Nat) (q:Str)|u (kvs:List (List Key×HV))|w (ks:ET)
abbrev AH:=List Cell
abbrev Jl:=List (Option HV)
structure HC where
 W:RC
 H0:Hp
 M0:Addr->Prop
def HM(Z:HC)(A:Em)(n:Nat):Addr->Prop:=λa=>(Z.M0 a\/Z.H0 a=none)/\∀k,k<n->A k≠a
mutual
def w4(W:RC)(M:Ee)(A:Em)(n:Nat)(H:Hp):HV->V->Prop
 |.v x,v=>Rep W M H x v
 |.g k,v=>k<n/\v=.ref (A k)
 |.t b,v=>∃p a,v=.ref p/\SqT W.K H p a/\zQ W M A n H b a
def zQ(W:RC)(M:Ee)(A:Em)(n:Nat)(H:Hp):List HV->List V->Prop
 |[],a=>a=[]
 |x::b,a=>∃v r,a=v::r/\w4 W M A n H x v/\zQ W M A n H b r
end
def Yv{b:Type}(R:HV->V->Prop):List (b×HV)->List (b×V)->Prop
 |[],a=>a=[]
 |c::r,a=>∃v q,a=(c.1,v)::q/\R c.2 v/\Yv R r q
section
variable {W:RC}{M M':Ee}{A A':Em}{n n':Nat}{H H':Hp}
mutual
theorem w4.gen(f:Fr M H H')(s:∀a,M a->H a≠none->M' a)(b:n<=n')(c:∀k,k<n->A' k=A k):∀{x:HV}{v:V},w4 W M A n H x v->w4 W M' A' n' H' x v
 |.v x,v,h=>Rep.gen f s h
 |.g k,v,h=>⟨E7 h.1 b,by rw[c k h.1];exact h.2⟩
 |.t g,v,h=>by unfold w4 at h ⊢;obtain⟨p,d,e,r,q⟩:=h;exact⟨p,d,e,f.sqT r,zQ.gen f s b c q⟩
theorem zQ.gen(f:Fr M H H')(s:∀a,M a->H a≠none->M' a)(b:n<=n')(c:∀k,k<n->A' k=A k):∀{x:List HV}{v:En},zQ W M A n H x v->zQ W M' A' n' H' x v
 |[],v,h=>h
 |x::j,i,h=>by unfold zQ at h ⊢;obtain⟨v,r,e,d,g⟩:=h;exact⟨v,r,e,w4.gen f s b c d,zQ.gen f s b c g⟩
end
def Yv.imp{f:Type}{R g:HV->V->Prop}(h:∀x v,R x v->g x v):∀{c:List (f×HV)}{d:List (f×V)},Yv R c d->Yv g c d
 |[],_,q=>q
 |_::_,_,⟨v,q,e,a,b⟩=>⟨v,q,e,h _ _ a,Yv.imp h b⟩
def Mde(l c:Nat)(q:Str)(H:Hp)(e:EA):Prop:=∃a b d t,e = #[rawInt l,rawInt c,.ref a]/\H a=some (.frz b (.own a))/\b.data=.fields d/\d[1]?=some (.str q t)
def Mde.gen(f:Fr M H H'):Mde l c q H ps->Mde l c q H' ps:=λ⟨d,b,a,t,e,h,r⟩=>⟨d,b,a,t,e,f _ _ h (.inr trivial),r⟩
def ia(W:RC)(M:Ee)(A:Em)(n:Nat)(H:Hp)(p:Addr):Cell->Prop
 |.l i=>∃f,H p=some (.lst f)/\zQ W M A n H i f
 |.d d=>∃a,H p=some (.dK a)/\Yv (w4 W M A n H) d a
 |.z d=>∃o a,H p=some (.frz o (.dK a))/\Yv (w4 W M A n H) d a
 |.o c fs=>∃g a,H p=some (.ins (W.cls c) g a)/\Yv (w4 W M A n H) fs a
 |.y b=>p=W.cls 1000/\∃e,H p=some (.tbl e)/\(b=true->e = #[])
 |.m l c q=>p=W.cls 1000/\∃e,H p=some (.tbl e)/\Mde l c q H e
 |.u d=>∃a,H p=some (.dT a)/\Yv (w4 W M A n H) d a
 |.w h=>H p=some (.tup (h.map kV))
def ia.gen{p:Addr}(hp:H' p=H p)(f:Fr M H H')(s:∀a,M a->H a≠none->M' a)(g:n<=n')(d:∀k,k<n->A' k=A k):∀{c:Cell},ia W M A n H p c->ia W M' A' n' H' p c
 |.l _,⟨j,e,q⟩=>⟨j,hp.trans e,q.gen f s g d⟩
 |.d _,⟨b,e,q⟩=>⟨b,hp.trans e,q.imp λ_ _=>w4.gen f s g d⟩
 |.z _,⟨o,b,e,q⟩=>⟨o,b,hp.trans e,q.imp λ_ _=>w4.gen f s g d⟩
 |.o _ _,⟨l,b,e,q⟩=>⟨l,b,hp.trans e,q.imp λ_ _=>w4.gen f s g d⟩
 |.y _,⟨i,h,e,q⟩=>⟨i,h,hp.trans e,q⟩
 |.m _ _ _,⟨i,h,e,q⟩=>⟨i,h,hp.trans e,q.gen f⟩
 |.u _,⟨b,e,q⟩=>⟨b,hp.trans e,q.imp λ_ _=>w4.gen f s g d⟩
 |.w _,e=>hp.trans e
def ia.ob{p:Addr}:∀{c:Cell},ia W M A n H p c->∃o,H p=some o
 |.l _,⟨_,e,_⟩=>⟨_,e⟩
 |.d _,⟨_,e,_⟩=>⟨_,e⟩
 |.z _,⟨_,_,e,_⟩=>⟨_,e⟩
 |.o _ _,⟨_,_,e,_⟩=>⟨_,e⟩
 |.y _,⟨_,_,e,_⟩=>⟨_,e⟩
 |.m _ _ _,⟨_,_,e,_⟩=>⟨_,e⟩
 |.u _,⟨_,e,_⟩=>⟨_,e⟩
 |.w _,e=>⟨_,e⟩
end
structure Gro(Z:HC)(A:Em)(n:Nat)(H:Hp)(A':Em)(n':Nat)(H':Hp):Prop where
 le:n<=n'
 agr:∀k,k<n->A' k=A k
 fresh:∀k,n<=k->k<n'->H (A' k)=none
 fr:Fr (HM Z A n) H H'
 dom:∀a,H' a=none->H a=none
structure HH(Z:HC)(A:Em)(H:Hp)(G:AH):Prop where
 same:zz Z.H0 H
 cell:∀(k:Nat) c,G[k]?=some c->ia Z.W (HM Z A G.length) A G.length H (A k) c
 inj:∀j k,j<G.length->k<G.length->A j=A k->j=k
 own:∀k,k<G.length->Z.H0 (A k)=none
structure HR(Z:HC)(A:Em)(H:Hp)(σ:St)(ρ:Jl)(G:AH):Prop extends HH Z A H G where
 len:σ.length=ρ.length
 var:∀(i:Nat) x,ρ[i]?=some (some x)->∃v,σ[i]?=some (some v)/\w4 Z.W (HM Z A G.length) A G.length H x v
section
variable {Z:HC}{A A' A'':Em}{n n' n'':Nat}{H H' H'':Hp}{G G':AH}{σ:St}{ρ:Jl}
def Gro.sM(g:Gro Z A n H A' n' H'):∀a,HM Z A n a->H a≠none->HM Z A' n' a:=λa m h=>⟨m.1,λk b e=>by
 by_cases c:k<n
 .exact m.2 k c (by rw[<- g.agr k c];exact e)
 .exact h (e▸g.fresh k (by omega) b)⟩
def Gro.same(s:zz H H'):Gro Z A n H A n H':=⟨D3 _,λ_ _=>rfl,λk a b=>absurd b (by omega),s.fr,λa h=>zz.none s h⟩
def Gro.refl:Gro Z A n H A n H:=Gro.same (zz.refl _)
def Gro.trans(g:Gro Z A n H A' n' H')(k:Gro Z A' n' H' A'' n'' H''):Gro Z A n H A'' n'' H'':=by
 refine⟨F2 g.le k.le,λj b=>(k.agr j (E7 b g.le)).trans (g.agr j b),λj d e=>?_,λa o h m=>?_,λa h=>g.dom a (k.dom a h)⟩
 .by_cases c:j<n'
  .rw[k.agr j c];exact g.fresh j d c
  .exact g.dom _ (k.fresh j (by omega) e)
 .refine k.fr a o (g.fr a o h m) (m.imp (λm=>g.sM a m (by rw[h];exact λz=>by cases z)) id)
def w4.gro(g:Gro Z A n H A' n' H')(h:w4 W (HM Z A n) A n H x v):w4 W (HM Z A' n') A' n' H' x v:=h.gen g.fr g.sM g.le g.agr
def zQ.gro(g:Gro Z A n H A' n' H')(h:zQ W (HM Z A n) A n H x v):zQ W (HM Z A' n') A' n' H' x v:=h.gen g.fr g.sM g.le g.agr
def HR.gro(R:HR Z A H σ ρ G)(h:HH Z A' H' G')(g:Gro Z A G.length H A' G'.length H'):HR Z A' H' σ ρ G':=
 ⟨h,R.len,λi x e=>let⟨v,h1,h2⟩:=R.var i x e;⟨v,h1,h2.gro g⟩⟩
def HH.ob(h:HH Z A H G)(a:k<G.length):∃o,H (A k)=some o:=(h.cell k _ (E5 a)).ob
def HH.keep(h:HH Z A H G)(s:zz H H'):HH Z A H' G:=⟨h.same.trans s,λk c e=>by
 have q:=h.cell k c e;obtain⟨o,a⟩:=q.ob;exact q.gen ((s _ _ a).trans a.symm) s.fr (λ_ m _=>m) (D3 _) λ_ _=>rfl,h.inj,h.own⟩
def HH.new(h:HH Z A H G):New (HM Z A G.length) H:=λp hp=>⟨.inr (zz.none h.same hp),λk b e=>by
 obtain⟨o,a⟩:=h.ob b;rw[e,hp]at a;cases a⟩
def exA(A:Em)(n:Nat)(p:Addr):Nat->Addr:=λk=>if k=n then p else A k
def Vt:exA A n p n=p:=if_pos rfl
def JL(h:k<n):exA A n p k=A k:=if_neg (by omega)
def Gro.ext(s:zz H H')(hp:H p=none):Gro Z A n H (exA A n p) (n+1) H':=
 ⟨S7 _,λk b=>JL b,λk c d=>by rw[show k=n by omega,Vt];exact hp,s.fr,λa h=>zz.none s h⟩
def HH.alloc(h:HH Z A H G)(s:zz H H')(hp:H p=none)(v:ia Z.W (HM Z (exA A G.length p) (G.length+1)) (exA A G.length p) (G.length+1) H' p c):HH Z (exA A G.length p) H' (G++[c]):=by
 have g:Gro Z A G.length H (exA A G.length p) (G.length+1) H':=Gro.ext s hp;have i:(G++[c]).length=G.length+1:=by simp
 have m:∀k,k<G.length->A k≠p:=λk a e=>by obtain⟨o,b⟩:=h.ob a;rw[e,hp]at b;cases b
 refine⟨h.same.trans s,λk d e=>?_,λj k u a e=>?_,λk a=>?_⟩
 .rw[i];by_cases a:k<G.length
  .rw[N9 a]at e;have q:=h.cell k d e;obtain⟨o,b⟩:=q.ob;rw[JL a];exact q.gen ((s _ _ b).trans b.symm) g.fr g.sM g.le g.agr
  .have w:=(F3.mp e).1;have r:k=G.length:=by omega
   subst r;rw[P2 (D3 _),a1W]at e;cases e;rw[Vt];exact v
 .rw[i]at u a;by_cases f:j=G.length
  .by_cases l:k=G.length
   .rw[f,l]
   .rw[f,Vt,JL (by omega)]at e;exact absurd e.symm (m k (by omega))
  .by_cases l:k=G.length
   .rw[l,Vt,JL (by omega)]at e;exact absurd e (m j (by omega))
   .rw[JL (by omega),JL (by omega)]at e;exact h.inj j k (by omega) (by omega) e
 .rw[i]at a;by_cases f:k=G.length
  .rw[f,Vt];exact zz.none h.same hp
  .rw[JL (by omega)];exact h.own k (by omega)
def HH.frw(h:HH Z A H G)(f:k<G.length)(d:H (A k)=Option.some o0)(c:¬Imm o0):Gro Z A G.length H A G.length (upd H (A k) o):=by
 refine⟨D3 _,λ_ _=>rfl,λk a b=>absurd b (by omega),λa q e m=>?_,λa e=>?_⟩
 .have:a≠A k:=λz=>by
   rcases m with m|m
   .exact m.2 k f z.symm
   .rw[z,d]at e;cases e;exact c m
  rw[zm this];exact e
 .by_cases z:a=A k
  .rw[z,zi]at e;cases e
  .rw[zm z]at e;exact e
def HH.write(h:HH Z A H G)(l:k<G.length)(r:H (A k)=Option.some o0)(m:¬Imm o0)(s:ia Z.W (HM Z A G.length) A G.length (upd H (A k) o) (A k) c):HH Z A (upd H (A k) o) (G.set k c):=by
 have g:=h.frw (o:=o) l r m;have f:(G.set k c).length=G.length:=M3 ..;refine⟨λa q e=>?_,λj d e=>?_,λi j u b=>h.inj i j (f▸u) (f▸b),λj b=>h.own j (f▸b)⟩
 .have:a≠A k:=λz=>by rw[z,h.own k l]at e;cases e
  rw[zm this];exact h.same a q e
 .rw[f];by_cases b:k=j
  .subst b;rw[L4 l]at e;cases e;exact s
  .rw[G6 b]at e;have p:=(F3.mp e).1;exact(h.cell j d e).gen (zm λz=>b (h.inj j k p l z).symm) g.fr g.sM g.le g.agr
def HR.set(R:HR Z A H σ ρ G)(c:w4 Z.W (HM Z A G.length) A G.length H x v):HR Z A H (σ.set i (Option.some v)) (ρ.set i (Option.some x)) G:=by
 refine⟨R.toHH,by rw[M3,M3];exact R.len,λj y e=>?_⟩;by_cases a:i=j
 .subst a;have b:i<ρ.length:=by
   have:=(F3.mp e).1
   rwa [M3]at this
  rw[L4 b]at e;cases e;exact⟨v,by rw[L4 (by rw[R.len];exact b)],c⟩
 .rw[G6 a]at e ⊢;exact R.var j y e
end
inductive HX(α:Type)where
 |ok (a:α) (G:AH)|exc (c:Nat) (fs:Ex) (G:AH)|wall
def HX.bind{d b:Type}:HX d->(d->AH->HX b)->HX b
 |.ok a G,f=>f a G
 |.exc c fs G,_=>.exc c fs G
 |.wall,_=>.wall
def pD(Z:HC)(E:XK)(A:Em)(n:Nat)(H:Hp)(c:Nat)(fs:Ex)(f:AH):Prop:=∀d a e b g,HH Z d a f->Gro Z A n H d f.length a->a e=some (XC e (Z.W.cls c) b)->a b=some (XD b g)->ju Z.W (HM Z d f.length) a fs g->E (.ref e) (some b) a
def HPx{e:Type}(Z:HC)(E:XK)(A:Em)(n:Nat)(H:Hp)(K:e->(Nat->Addr)->Hp->AH->Prop):HX e->Prop
 |.ok x a=>∀d b,HH Z d b a->Gro Z A n H d a.length b->K x d b a
 |.exc c fs a=>pD Z E A n H c fs a
 |.wall=>False
section
variable {α β:Type}{K:β->(Nat->Addr)->Hp->AH->Prop}{K':α->(Nat->Addr)->Hp->AH->Prop}
def pD.gro(h:pD Z E A n H c fs G)(g:Gro Z A n H A' n' H'):pD Z E A' n' H' c fs G:=λi a e b d f j=>h i a e b d f (g.trans j)
def HPx.gro{o:HX β}(h:HPx Z E A n H K o)(g:Gro Z A n H A' n' H'):HPx Z E A' n' H' K o:=by
 cases o with
 |ok x d=>exact λe a b f=>h e a b (g.trans f)
 |exc c fs d=>exact pD.gro h g
 |wall=>exact h
def HPx.bind{o:HX α}{f:α->AH->HX β}(h:HPx Z E A n H K (o.bind f))(k:∀x d b a,HH Z d b a->Gro Z A n H d a.length b->HPx Z E d a.length b K (f x a)->K' x d b a):HPx Z E A n H K' o:=by
 cases o with
 |ok x a=>exact λj g i e=>k x j g a i e (HPx.gro (o:=f x a) h e)
 |exc c fs a=>exact h
 |wall=>exact h
end
abbrev HME:=Jl->AH->HX HV
abbrev HMT:=Jl->AH->HX Bool
abbrev HMA:=Jl->AH->HX (List HV)
def KV'(Z:HC)(Q:VK):HV->(Nat->Addr)->Hp->AH->Prop:=λx b a c=>∀v,w4 Z.W (HM Z b c.length) b c.length a x v->Q v a
def KT'(Q:Bool->Hp->Prop):Bool->(Nat->Addr)->Hp->AH->Prop:=λb _ a _=>Q b a
def KA'(Z:HC)(Q:List V->Hp->Prop):List HV->(Nat->Addr)->Hp->AH->Prop:=λe c b d=>∀a,zQ Z.W (HM Z c d.length) c d.length b e a->Q a b
def HE(X:Cx)(W:RC)(E:XK)(e:Eh)(m:HME):Prop:=X.K=W.K->∃c,PE X e c/\∀(Z:HC),Z.W=W->∀A H a b G,HR Z A H a b G->∀Q,HPx Z E A G.length H (KV' Z Q) (m b G)->c a H Q
def HT(X:Cx)(W:RC)(E:XK)(e:Eh)(m:HMT):Prop:=X.K=W.K->∃c,PT X e c/\∀(Z:HC),Z.W=W->∀A H a b G,HR Z A H a b G->∀Q,HPx Z E A G.length H (KT' Q) (m b G)->c a H Q
def HA(X:Cx)(W:RC)(E:XK)(es:Eg)(m:HMA):Prop:=X.K=W.K->∃c,PA X es c/\∀(Z:HC),Z.W=W->∀A H a b G,HR Z A H a b G->∀Q,HPx Z E A G.length H (KA' Z Q) (m b G)->c a H Q
mutual
def imm:PV->Bool
 |.i _=>true | .s _=>true | .b _=>true | .n=>true
 |.t a=>fe a
 |.l _=>false | .d _=>false | .o _ _=>false | .x _ _=>false | .sc _=>false | .dt _=>false
def fe:List PV->Bool
 |[]=>true
 |x::a=>imm x&&fe a
end
def pE:List (Str×PV)->Bool
 |[]=>true
 |x::a=>imm x.2&&pE a
section
variable {W:RC}{M M':Ee}{H:Hp}
mutual
theorem Vu:∀{x:PV}{v:V},imm x=true->Rep W M H x v->Rep W M' H x v
 |.i _,_,_,h=>h
 |.s _,_,_,h=>h
 |.b _,_,_,h=>h
 |.n,_,_,h=>h
 |.t c,_,e,h=>by unfold Rep at h ⊢;unfold imm at e;obtain⟨p,a,b,r,q⟩:=h;exact⟨p,a,b,r,XR e q⟩
 |.l _,_,e,_=>by unfold imm at e;cases e
 |.d _,_,e,_=>by unfold imm at e;cases e
 |.o _ _,_,e,_=>by unfold imm at e;cases e
 |.x _ _,_,e,_=>by unfold imm at e;cases e
 |.sc _,_,e,_=>by unfold imm at e;cases e
 |.dt _,_,e,_=>by unfold imm at e;cases e
theorem XR:∀{x:Ew}{v:En},fe x=true->yc W M H x v->yc W M' H x v
 |[],_,_,h=>h
 |x::d,_,e,h=>by unfold fe at e;simp only[Bool.and_eq_true]at e;obtain⟨v,r,c,a,b⟩:=h;exact⟨v,r,c,Vu e.1 a,XR e.2 b⟩
end
theorem Yq:∀{x:Ex}{v:EF},pE x=true->ju W M H x v->ju W M' H x v
 |[],_,_,h=>h
 |x::d,_,e,h=>by unfold pE at e;simp only[Bool.and_eq_true]at e;obtain⟨v,r,c,a,b⟩:=h;exact⟨v,r,c,Vu e.1 a,Yq e.2 b⟩
def Wi:List Bool->Jl->Option Sto
 |_,[]=>some []
 |[],_::a=>(Wi [] a).map (none::·)
 |false::bs,_::a=>(Wi bs a).map (none::·)
 |true::bs,some (.v x)::a=>(Wi bs a).map (some x::·)
 |true::_,_=>none
def Uj(f:HV->Option PV):List HV->Option (List PV)
 |[]=>some []
 |x::a=>(f x).bind λy=>(Uj f a).map (y::·)
def nD{a:Type}(f:HV->Option PV):List (a×HV)->Option (List (a×PV))
 |[]=>some []
 |x::b=>(f x.2).bind λy=>(nD f b).map ((x.1,y)::·)
def XS(G:AH):Nat->HV->Option PV
 |0,_=>none
 |_+1,.v x=>some x
 |n+1,.t b=>(Uj (XS G n) b).map .t
 |n+1,.g k=>match G[k]? with
  |some (.l b)=>(Uj (XS G n) b).map .l
  |some (.d a)=>(nD (XS G n) a).map .d
  |some (.z a)=>(nD (XS G n) a).map .d
  |some (.o c fs)=>(nD (XS G n) fs).map (.o c)
  |some (.w d)=>some (.t (d.map kP))
  |_=>none
def Kv(G:AH):List Bool->Jl->Option Sto
 |_,[]=>some []
 |[],_::a=>(Kv G [] a).map (none::·)
 |false::bs,_::a=>(Kv G bs a).map (none::·)
 |true::bs,some x::a=>(XS G 8 x).bind λy=>(Kv G bs a).map (some y::·)
 |true::_,none::_=>none
theorem QK{f:HV->Option PV}{N:Ee}(hf:∀x v y,w4 W M A n H x v->f x=some y->Rep W N H y v):∀{b:List HV}{c:En}{a:Ew},zQ W M A n H b c->Uj f b=some a->yc W N H a c
 |[],_,_,h,e=>by cases e;exact h
 |x::b,_,a,h,e=>by obtain⟨v,r,rfl,d,g⟩:=h;unfold Uj at e;obtain⟨y,i,e⟩:=F5.mp e;obtain⟨l,j,rfl⟩:=u8.mp e;exact⟨v,r,rfl,hf _ _ _ d i,QK hf g j⟩
theorem Kw{f:HV->Option PV}{N:Ee}(hf:∀x v y,w4 W M A n H x v->f x=some y->Rep W N H y v):∀{b:List (Key×HV)}{c:Ei}{a:Er},Yv (w4 W M A n H) b c->nD f b=some a->qp W N H a c
 |[],_,_,h,e=>by cases e;exact h
 |x::b,_,a,h,e=>by obtain⟨v,r,rfl,d,g⟩:=h;unfold nD at e;obtain⟨y,i,e⟩:=F5.mp e;obtain⟨l,j,rfl⟩:=u8.mp e;exact⟨v,r,rfl,hf _ _ _ d i,Kw hf g j⟩
theorem cW{f:HV->Option PV}{N:Ee}(hf:∀x v y,w4 W M A n H x v->f x=some y->Rep W N H y v):∀{b:List (Str×HV)}{c:EF}{a:Ex},Yv (w4 W M A n H) b c->nD f b=some a->ju W N H a c
 |[],_,_,h,e=>by cases e;exact h
 |x::b,_,a,h,e=>by obtain⟨v,r,rfl,d,g⟩:=h;unfold nD at e;obtain⟨y,i,e⟩:=F5.mp e;obtain⟨l,j,rfl⟩:=u8.mp e;exact⟨v,r,rfl,hf _ _ _ d i,cW hf g j⟩
end
section
variable {Z:HC}{A:Em}{H:Hp}{G:AH}{σ:St}{ρ:Jl}
theorem ib{W:RC}{M:Ee}{H:Hp}:∀a:List Key,yc W M H (a.map kP) (a.map kV)
 |[]=>rfl
 |k::a=>⟨_,_,rfl,gS k,ib a⟩
theorem Jm(h:HH Z A H G):∀(n:Nat)(x:HV)(v:V)(y:PV),w4 Z.W (HM Z A G.length) A G.length H x v->XS G n x=some y->Rep Z.W (λ_=>True) H y v
 |0,_,_,_,_,e=>by cases e
 |n+1,.v x,v,y,r,e=>by cases e;exact Rep.sub r λ_ _ _=>trivial
 |n+1,.t g,v,y,r,e=>by unfold XS at e;obtain⟨i,b,rfl⟩:=u8.mp e;unfold w4 at r;obtain⟨p,a,rfl,s,q⟩:=r;exact⟨p,a,rfl,s,QK (Jm h n) q b⟩
 |n+1,.g k,v,y,r,e=>by
  obtain⟨m,rfl⟩:=r;unfold XS at e;split at e
  .rename_i g d;obtain⟨i,b,rfl⟩:=u8.mp e;obtain⟨a,f,q⟩:=h.cell k _ d;exact⟨A k,a,rfl,trivial,f,QK (Jm h n) q b⟩
  .rename_i g d;obtain⟨i,b,rfl⟩:=u8.mp e;obtain⟨a,f,q⟩:=h.cell k _ d;exact⟨A k,a,rfl,trivial,.inl f,Kw (Jm h n) q b⟩
  .rename_i g d;obtain⟨i,b,rfl⟩:=u8.mp e;obtain⟨o,a,f,q⟩:=h.cell k _ d;exact⟨A k,a,rfl,trivial,.inr ⟨o,f⟩,Kw (Jm h n) q b⟩
  .rename_i c g d;obtain⟨i,b,rfl⟩:=u8.mp e;obtain⟨l,a,f,q⟩:=h.cell k _ d;exact⟨A k,l,a,rfl,trivial,f,cW (Jm h n) q b⟩
  .rename_i j d;cases e;exact⟨A k,_,rfl,.inl (.inl (h.cell k _ d)),ib j⟩
  .cases e
theorem Kx:∀{bs:Ek}{ρ:Jl}{r:Sto}{i:Nat}{x:PV},Wi bs ρ=some r->r[i]?=some (some x)->ρ[i]?=some (some (.v x))
 |_,[],r,i,x,e,h=>by unfold Wi at e;cases e;simp at h
 |[],_::ρ,r,i,x,e,h=>by
  unfold Wi at e;obtain⟨b,a,rfl⟩:=u8.mp e;cases i with
  |zero=>cases h
  |succ i=>rw[L6]at h ⊢;exact Kx a h
 |false::bs,_::ρ,r,i,x,e,h=>by
  unfold Wi at e;obtain⟨b,a,rfl⟩:=u8.mp e;cases i with
  |zero=>cases h
  |succ i=>rw[L6]at h ⊢;exact Kx a h
 |true::bs,some (.v y)::ρ,r,i,x,e,h=>by
  unfold Wi at e;obtain⟨b,a,rfl⟩:=u8.mp e;cases i with
  |zero=>cases h;rfl
  |succ i=>rw[L6]at h ⊢;exact Kx a h
 |true::bs,none::ρ,r,i,x,e,h=>by cases e
 |true::bs,some (.g _)::ρ,r,i,x,e,h=>by cases e
 |true::bs,some (.t _)::ρ,r,i,x,e,h=>by cases e
theorem Ky:∀{bs:Ek}{ρ:Jl}{r:Sto},Wi bs ρ=some r->r.length=ρ.length
 |_,[],r,e=>by unfold Wi at e;cases e;rfl
 |[],_::ρ,r,e=>by unfold Wi at e;obtain⟨b,a,rfl⟩:=u8.mp e;rw[D4,D4,Ky a]
 |false::bs,_::ρ,r,e=>by unfold Wi at e;obtain⟨b,a,rfl⟩:=u8.mp e;rw[D4,D4,Ky a]
 |true::bs,some (.v y)::ρ,r,e=>by unfold Wi at e;obtain⟨b,a,rfl⟩:=u8.mp e;rw[D4,D4,Ky a]
 |true::bs,none::ρ,r,e=>by cases e
 |true::bs,some (.g _)::ρ,r,e=>by cases e
 |true::bs,some (.t _)::ρ,r,e=>by cases e
theorem Kz:∀{bs:Ek}{ρ:Jl}{r:Sto}{i:Nat}{x:PV},Kv G bs ρ=some r->r[i]?=some (some x)->∃y,ρ[i]?=some (some y)/\XS G 8 y=some x
 |_,[],r,i,x,e,h=>by unfold Kv at e;cases e;simp at h
 |[],_::ρ,r,i,x,e,h=>by
  unfold Kv at e;obtain⟨b,a,rfl⟩:=u8.mp e;cases i with
  |zero=>cases h
  |succ i=>rw[L6]at h ⊢;exact Kz a h
 |false::bs,_::ρ,r,i,x,e,h=>by
  unfold Kv at e;obtain⟨b,a,rfl⟩:=u8.mp e;cases i with
  |zero=>cases h
  |succ i=>rw[L6]at h ⊢;exact Kz a h
 |true::bs,some y::ρ,r,i,x,e,h=>by
  unfold Kv at e;obtain⟨z,c,e⟩:=F5.mp e;obtain⟨b,a,rfl⟩:=u8.mp e;cases i with
  |zero=>cases h;exact⟨y,rfl,c⟩
  |succ i=>rw[L6]at h ⊢;exact Kz a h
 |true::bs,none::ρ,r,i,x,e,h=>by cases e
theorem KA:∀{bs:Ek}{ρ:Jl}{r:Sto},Kv G bs ρ=some r->r.length=ρ.length
 |_,[],r,e=>by unfold Kv at e;cases e;rfl
 |[],_::ρ,r,e=>by unfold Kv at e;obtain⟨b,a,rfl⟩:=u8.mp e;rw[D4,D4,KA a]
 |false::bs,_::ρ,r,e=>by unfold Kv at e;obtain⟨b,a,rfl⟩:=u8.mp e;rw[D4,D4,KA a]
 |true::bs,some y::ρ,r,e=>by unfold Kv at e;obtain⟨z,c,e⟩:=F5.mp e;obtain⟨b,a,rfl⟩:=u8.mp e;rw[D4,D4,KA a]
 |true::bs,none::ρ,r,e=>by cases e
def C8{S:Eb}(a:S.all (·==0)=true){i c:Nat}(h:S[i]?=some c):c=0:=by have:=a0o.mp a c (S8 h);simpa using this
def Am(n:σ.length=r.length)(d:S.all (·==0)=true)(f:∀(i:Nat) x,r[i]?=some (some x)->∃v,σ[i]?=some (some v)/\Rep Z.W M H x v):Rel Z.W (lT H M) S (λ_=>0) H σ r:=by
 have c:∀{k:Nat},S[k]?=some 2->False:=λ{k} h=>by have:=C8 d h;omega
 have o:∀{k:Nat},S[k]?=some 1->False:=λ{k} h=>by have:=C8 d h;omega
 refine⟨zz.refl _,n,λi x e=>?_,λi b=>(c b).elim,λi j b=>(c b).elim,λb=>(c b).elim,λa h=>h.elim,λi b=>(c b).elim⟩;obtain⟨v,g,l⟩:=f i x e;exact⟨v,g,λz=>(c z).elim,λz=>(o z).elim,λ_ _=>l.sub λa m _=>⟨⟨.inl m,id⟩,λi b=>(c b).elim⟩⟩
def sT(R:HR Z A H σ ρ G)(e:Wi bs ρ=some r)(a:S.all (·==0)=true):Rel Z.W (lT H (HM Z A G.length)) S (λ_=>0) H σ r:=
 Am (R.len.trans (Ky e).symm) a λi x h=>R.var i _ (Kx e h)
def sU(R:HR Z A H σ ρ G)(e:Kv G bs ρ=some r)(a:S.all (·==0)=true):Rel Z.W (lT H λ_=>True) S (λ_=>0) H σ r:=
 Am (R.len.trans (KA e).symm) a λi x h=>by obtain⟨y,b,c⟩:=Kz e h;obtain⟨v,d,f⟩:=R.var i y b;exact⟨v,d,Jm R.toHH _ _ _ _ f c⟩
def An(h:HH Z A H G):∀a,Mof (lT H (HM Z A G.length)) S P a->HM Z A G.length a:=λa m=>m.1.1.elim id λn=>h.new a n
end
def hP(bs:Ek)(m:ME):HME:=λa G=>match Wi bs a with
 |some r=>match m r with
  |.ok x=>.ok (.v x) G
  |.exc c fs=>.exc c fs G
  |.wall=>.wall
 |none=>match Kv G bs a with
  |some r=>match m r with
   |.ok x=>if imm x=true then .ok (.v x) G else .wall
   |.exc c fs=>if pE fs=true then .exc c fs G else .wall
   |.wall=>.wall
  |none=>.wall
def hPT(bs:Ek)(m:MT):HMT:=λa G=>match Wi bs a with
 |some r=>match m r with
  |.ok x=>.ok x G
  |.exc c fs=>.exc c fs G
  |.wall=>.wall
 |none=>match Kv G bs a with
  |some r=>match m r with
   |.ok x=>.ok x G
   |.exc c fs=>if pE fs=true then .exc c fs G else .wall
   |.wall=>.wall
  |none=>.wall
def vK{a:Type}(xs:List (a×PV)):List (a×HV):=xs.map λp=>(p.1,.v p.2)
def nE:PV->Option Cell
 |.l b=>some (.l (b.map .v))
 |.d a=>some (.d (vK a))
 |.o c fs=>some (.o c (vK fs))
 |_=>none
def C9:PV->Bool
 |.l b=>fe b
 |.d a=>fe (a.map (·.2))
 |.o _ fs=>pE fs
 |_=>false
def hF(bs:Ek)(m:ME):HME:=λa G=>match Wi bs a with
 |some r=>match m r with
  |.ok x=>match nE x with
   |some c=>.ok (.g G.length) (G++[c])
   |none=>.wall
  |.exc c fs=>.exc c fs G
  |.wall=>.wall
 |none=>match Kv G bs a with
  |some r=>match m r with
   |.ok x=>if C9 x=true then match nE x with
    |some c=>.ok (.g G.length) (G++[c])
    |none=>.wall else .wall
   |.exc c fs=>if pE fs=true then .exc c fs G else .wall
   |.wall=>.wall
  |none=>.wall
section
variable {W:RC}{M M':Ee}{A:Em}{n:Nat}{H:Hp}
theorem Ao:∀{b:Ew}{a:En},yc W M H b a->zQ W M A n H (b.map .v) a
 |[],_,h=>h
 |_::_,_,⟨v,r,e,c,d⟩=>⟨v,r,e,c,Ao d⟩
theorem Ap:∀{b:Er}{a:Ei},qp W M H b a->Yv (w4 W M A n H) (vK b) a
 |[],_,h=>h
 |_::_,_,⟨v,r,e,c,d⟩=>⟨v,r,e,c,Ap d⟩
theorem Aq:∀{b:Ex}{a:EF},ju W M H b a->Yv (w4 W M A n H) (vK b) a
 |[],_,h=>h
 |_::_,_,⟨v,r,e,c,d⟩=>⟨v,r,e,c,Aq d⟩
theorem cX:∀{x:Er}{v:Ei},fe (x.map (·.2))=true->qp W M H x v->qp W M' H x v
 |[],_,_,h=>h
 |x::d,_,e,h=>by rw[E6]at e;unfold fe at e;simp only[Bool.and_eq_true]at e;obtain⟨v,r,c,a,b⟩:=h;exact⟨v,r,c,Vu e.1 a,cX e.2 b⟩
def Ar(b:K0 W M H p x)(e:nE x=some c):ia W M A n H p c:=by
 cases x with
 |l f=>cases e;obtain⟨a,h,r⟩:=b;exact⟨a,h,Ao r⟩
 |d f=>cases e;obtain⟨a,h,r⟩:=b;exact⟨a,h,Ap r⟩
 |o k f=>cases e;obtain⟨g,a,h,r⟩:=b;exact⟨g,a,h,Aq r⟩
 |_=>cases e
def nF(e:C9 x=true)(b:K0 W M H p x):K0 W M' H p x:=by
 cases x with
 |l c=>obtain⟨a,h,r⟩:=b;exact⟨a,h,XR e r⟩
 |d c=>obtain⟨a,h,r⟩:=b;exact⟨a,h,cX e r⟩
 |o k c=>obtain⟨f,a,h,r⟩:=b;exact⟨f,a,h,Yq e r⟩
 |_=>cases e
end
section
variable {X:Cx}{W:RC}{E:XK}{fr:Bool}{S:Eb}{e a:Eh}{es:Eg}{m:ME}{t:MT}{bs:Ek}{pos p:Pos}{i:Nat}{m1:HME}{ms:HMA}
def eG(h:HH Z A H G)(q:pD Z E A G.length H c fs G)(l:∀d es,ju Z.W (λa=>M a\/H a=none) d fs es->ju Z.W (HM Z A G.length) d fs es):XPo ⟨Z.W,E,fr⟩ (lT H M) c fs:=
 λe f es d s g j n=>q A d e f es (h.keep s) (Gro.same s) g j (l d es n)
def DS(bs:Ek)(h:EM X ⟨W,E,fr⟩ S false e m)(u:S.all (·==0)=true:=by rfl):HE X W E e (hP bs m):=λz=>by
 obtain⟨y,B,o⟩:=h z;refine⟨y,B,λZ w A H l C G R Q q=>?_⟩;subst w;unfold hP at q;split at q
 .rename_i r g;refine o _ _ H l r (sT R g u) Q ?_;revert q;cases m r with
  |ok x=>exact λq v d s j=>q A d (R.toHH.keep s) (Gro.same s) v (j.rep.sub λa m _=>An R.toHH a m)
  |exc c fs=>exact λq=>eG R.toHH q λd es h=>h.sub λa m _=>m.elim id λn=>R.toHH.new a n
  |wall=>exact id
 .split at q
  .rename_i r g;refine o _ _ H l r (sU R g u) Q ?_;revert q;cases m r with
   |ok x=>
    intro q v d s j;dsimp only at q;split at q
    .rename_i f;exact q A d (R.toHH.keep s) (Gro.same s) v (Vu f j.rep)
    .exact q.elim
   |exc c fs=>
    intro q;dsimp only at q;split at q
    .rename_i f;exact eG R.toHH q λd es h=>Yq f h
    .exact q.elim
   |wall=>exact id
  .exact q.elim
def lX(bs:Ek)(h:TM X ⟨W,E,fr⟩ S e t)(l:S.all (·==0)=true:=by rfl):HT X W E e (hPT bs t):=λw=>by
 obtain⟨u,y,j⟩:=h w;refine⟨u,y,λZ o A H g z G R Q q=>?_⟩;subst o;unfold hPT at q;split at q
 .rename_i r f;refine j _ _ H g r (sT R f l) Q ?_;revert q;cases t r with
  |ok x=>exact λq d s=>q A d (R.toHH.keep s) (Gro.same s)
  |exc c fs=>exact λq=>eG R.toHH q λd es h=>h.sub λa m _=>m.elim id λn=>R.toHH.new a n
  |wall=>exact id
 .split at q
  .rename_i r f;refine j _ _ H g r (sU R f l) Q ?_;revert q;cases t r with
   |ok x=>exact λq d s=>q A d (R.toHH.keep s) (Gro.same s)
   |exc c fs=>
    intro q;dsimp only at q;split at q
    .rename_i v;exact eG R.toHH q λd es h=>Yq v h
    .exact q.elim
   |wall=>exact id
  .exact q.elim
def bG{Z:HC}{A:Em}{H d:Hp}{G:AH}{c:Cell}{p:Addr}{Q:VK}(h:HH Z A H G)(s:zz H d)(hp:H p=none)(g:ia Z.W (HM Z (exA A G.length p) (G.length+1)) (exA A G.length p) (G.length+1) d p c)(q:HPx Z E A G.length H (KV' Z Q) (.ok (.g G.length) (G++[c]))):Q (.ref p) d:=by
 have f:(G++[c]).length=G.length+1:=by simp
 refine q _ d (h.alloc s hp g) (by rw[f];exact Gro.ext s hp) _ ⟨by rw[f];exact a0l _,?_⟩;rw[Vt]
def As{Z:HC}{A:Em}{n:Nat}{p a:Addr}(m:HM Z A n a)(h:a≠p):HM Z (exA A n p) (n+1) a:=⟨m.1,λk d e=>by
 by_cases c:k=n
 .rw[c,Vt]at e;exact h e.symm
 .rw[JL (by omega)]at e;exact m.2 k (by omega) e⟩
def DT(bs:Ek)(y:LFr ⟨W,E,fr⟩ S te m)(z:S.all (·==0)=true:=by rfl):∀(Z:HC),Z.W=W->∀A H d g G,HR Z A H d g G->∀Q,HPx Z E A G.length H (KV' Z Q) (hF bs m g G)->te d H Q:=λZ B A H d g G R Q q=>by
 subst B;unfold hF at q;split at q
 .rename_i r l;refine y _ _ H d r (sT R l z) Q ?_;revert q;cases m r with
  |ok x=>
   intro q v f s w;dsimp only at q;split at q
   .rename_i c o;obtain⟨p,rfl,hp,u⟩:=w;exact bG R.toHH s hp (Ar (u.gen rfl Fr.refl λa m _=>As (An R.toHH a m.1) m.2) o) q
   .exact q.elim
  |exc c fs=>exact λq=>eG R.toHH q λf es h=>h.sub λa m _=>m.elim id λn=>R.toHH.new a n
  |wall=>exact id
 .split at q
  .rename_i r l;refine y _ _ H d r (sU R l z) Q ?_;revert q;cases m r with
   |ok x=>
    intro q v f s w;dsimp only at q;split at q
    .rename_i j;split at q
     .rename_i c o;obtain⟨p,rfl,hp,u⟩:=w;exact bG R.toHH s hp (Ar (nF j u) o) q
     .exact q.elim
    .exact q.elim
   |exc c fs=>
    intro q;dsimp only at q;split at q
    .rename_i j;exact eG R.toHH q λf es h=>Yq j h
    .exact q.elim
   |wall=>exact id
  .exact q.elim
def DV(bs:Ek)(h:FM X ⟨W,E,fr⟩ S e m)(c:S.all (·==0)=true:=by rfl):HE X W E e (hF bs m):=λj=>by obtain⟨g,d,f⟩:=h j;exact⟨g,d,DT bs f c⟩
def Wn(i:Nat):HME:=λc G=>match c[i]? with
 |some (some x)=>.ok x G
 |_=>.wall
def kg(h:PE X e (aU i)):HE X W E e (Wn i):=λ_=>⟨_,h,λZ l A H g j G R Q q=>by
 unfold Wn at q;split at q
 .rename_i x d;obtain⟨v,c,f⟩:=R.var i x d;exact⟨v,c,q A H R.toHH Gro.refl v f⟩
 .exact q.elim⟩
def sV:HMA:=λ_ G=>.ok [] G
def ZO(m:HME)(ms:HMA):HMA:=λc G=>(m c G).bind λx d=>(ms c d).bind λf g=>.ok (x::f) g
def pF:HA X W E [] sV:=λ_=>⟨_,JG,λZ f A H c d G R Q q=>q A H R.toHH Gro.refl [] rfl⟩
def Vv(h:HE X W E e m1)(B:HA X W E es ms)(I:starEach (e::es) X.env=(false,eval e X.env)::starEach es X.env:=by rfl):HA X W E (e::es) (ZO m1 ms):=λj=>by obtain⟨O,K,z⟩:=h j;obtain⟨U,F,r⟩:=B j;refine⟨_,vD K F I,λZ d A H f g G R Q q=>z Z d A H f g G R _ (HPx.bind q λx u N l J C D v L=>?_)⟩;refine r Z d u N f g l (R.gro J C) _ (HPx.bind D λT y o P w M s c n=>?_);exact s y o w Gro.refl (v::c) ⟨v,c,rfl,L.gro M,n⟩
def Au(ms:HMA):HME:=λf G=>(ms f G).bind λc d=>if c.length<=sizeLine then .ok (.g d.length) (d++[.l c])else .wall
def zQ.len{W:RC}{M:Ee}{A:Em}{n:Nat}{H:Hp}:∀{c:List HV}{d:En},zQ W M A n H c d->d.length=c.length
 |[],_,h=>by cases(show _=_ from h);rfl
 |x::c,_,h=>by obtain⟨v,r,rfl,_,f⟩:=h;rw[D4,D4,zQ.len f]
def Av(h:HA X W E es ms):HE X W E (.List es pos) (Au ms):=λw=>by
 obtain⟨D,y,u⟩:=h w;refine⟨_,fC y,λZ l A H n o G R Q q=>u Z l A H n o G R _ (HPx.bind q λv B j z x C d f g=>?_)⟩;split at d
 .rename_i r;refine⟨by rw[g.len];exact r,λp hp=>?_⟩;have s:zz j (upd j p (.lst f)):=zz.upd hp;exact bG (c:=.l v) x s hp ⟨f,zi,g.gro (Gro.ext s hp)⟩ d
 .exact d.elim
end
section
variable {W:RC}{M:Ee}{A:Em}{n:Nat}{H:Hp}
def zQ.get:∀{a:List HV}{b:En}{i:Nat}{x:HV},zQ W M A n H a b->a[i]?=some x->∃v,b[i]?=some v/\w4 W M A n H x v
 |[],_,_,_,_,e=>by simp at e
 |x::a,_,0,y,h,e=>by obtain⟨v,r,rfl,c,d⟩:=h;simp at e;subst e;exact⟨v,rfl,c⟩
 |x::a,_,i+1,y,h,e=>by obtain⟨v,r,rfl,c,d⟩:=h;simp only[List.getElem?_cons_succ]at e ⊢;exact zQ.get d e
theorem zQ.at(h:zQ W M A n H xs vs)(e:atI xs i=some x):∃v,atI vs i=some v/\w4 W M A n H x v:=by
 unfold atI at e ⊢;rw[h.len];cases q:ixN xs.length i with
 |none=>rw[q]at e;cases e
 |some j=>rw[q]at e;exact h.get e
def zQ.append:∀{a c:List HV}{b d:En},zQ W M A n H a b->zQ W M A n H c d->zQ W M A n H (a++c) (b++d)
 |[],_,_,_,h,k=>by cases(show _=_ from h);exact k
 |x::a,_,_,_,h,k=>by obtain⟨v,r,rfl,e,f⟩:=h;exact⟨v,_,rfl,e,zQ.append f k⟩
def zQ.set{x:HV}{v:V}(e:w4 W M A n H x v):∀{a:List HV}{c:En}(i:Nat),zQ W M A n H a c->zQ W M A n H (a.set i x) (c.set i v)
 |[],_,_,h=>by cases(show _=_ from h);exact rfl
 |y::a,_,0,h=>by obtain⟨v,r,rfl,d,b⟩:=h;exact⟨_,_,rfl,e,b⟩
 |y::a,_,i+1,h=>by obtain⟨v,r,rfl,d,b⟩:=h;exact⟨v,_,rfl,d,zQ.set e i b⟩
variable {κ:Type}[DecidableEq κ] {R:HV->V->Prop}
def Yv.get:∀{a:List (κ×HV)}{b:List (κ×V)}{k:κ}{x:HV},Yv R a b->zr a k=some x->∃v,Qy b k=some v/\R x v
 |[],_,_,_,_,e=>by cases e
 |j::r,_,k,x,h,e=>by
  obtain⟨v,q,rfl,f,i⟩:=h;unfold zr at e;rw[R4]at e;by_cases c:j.1=k
  .rw[D6 c]at e;cases e;exact⟨v,Ks c,f⟩
  .rw[D7 c]at e;obtain⟨u,d,g⟩:=Yv.get i e;exact⟨u,by rw[Kt c];exact d,g⟩
end
def ixH(G:AH):HV->HV->Option HV
 |.g k,.v y=>match G[k]? with
  |some (.l b)=>match y with
   |.i j=>atI b j
   |_=>none
  |some (.d a)=>(pk y).bind λq=>zr a q
  |some (.z a)=>(pk y).bind λq=>zr a q
  |_=>none
 |.t b,.v (.i j)=>atI b j
 |.v x,.v y=>match pIx x y with
  |.ok z=>some (.v z)
  |_=>none
 |_,_=>none
def hIx(c e:HME):HME:=λa G=>(c a G).bind λx d=>(e a d).bind λy b=>match ixH b x y with
 |some z=>.ok z b
 |none=>.wall
def hsp(W:RC)(n:Nat)(f:List HV->AH->HX HV):Sp:=λb H Q E=>∃(Z:HC)(A:Em)(G:AH)(a:List HV),Z.W=W/\a.length=n/\HH Z A H G/\zQ Z.W (HM Z A G.length) A G.length H a b/\HPx Z E A G.length H (KV' Z Q) (f a G)
def sW:∀a H Q E,hsp W n f a H Q E->a.length=n:=λa H Q E ⟨Z,A,G,c,_,b,_,r,_⟩=>r.len.trans b
def Co(h:HH Z A H G)(m:w4 Z.W (HM Z A G.length) A G.length H x v)(f:w4 Z.W (HM Z A G.length) A G.length H y u)(e:ixH G x y=some z)(q:∀d v,zz H d->w4 Z.W (HM Z A G.length) A G.length d z v->Q v d):C4 Z.W.K v u H Q:=by
 unfold ixH at e;split at e
 .rename_i k y;obtain⟨C,rfl⟩:=m;split at e
  .rename_i D g;obtain⟨c,hp,r⟩:=h.cell k _ g;split at e
   .obtain⟨w,b,a⟩:=r.at e;exact .inl (.inl ⟨_,c,_,w,rfl,f,SqL.of hp,b,q H w (zz.refl _) a⟩)
   .cases e
  .rename_i i g;obtain⟨c,hp,r⟩:=h.cell k _ g;obtain⟨j,l,e⟩:=F5.mp e;obtain⟨w,b,a⟩:=r.get e;exact .inr ⟨_,w,rfl,by rw[QC (yj.iff.mpr (show Rep Z.W _ H y u from f)) l,<- b];exact aJ.rk (.inl hp),q H w (zz.refl _) a⟩
  .rename_i i g;obtain⟨o,c,hp,r⟩:=h.cell k _ g;obtain⟨j,l,e⟩:=F5.mp e;obtain⟨w,b,a⟩:=r.get e;exact .inr ⟨_,w,rfl,by rw[QC (yj.iff.mpr (show Rep Z.W _ H y u from f)) l,<- b];exact aJ.rk (.inr ⟨o,hp⟩),q H w (zz.refl _) a⟩
  .cases e
 .obtain⟨p,c,rfl,n,r⟩:=m;obtain⟨w,b,a⟩:=r.at e;exact .inl (.inr (.inl ⟨p,c,_,w,rfl,f,n,b,q H w (zz.refl _) a⟩))
 .split at e
  .rename_i B hz;cases e;refine rT (W:=Z.W) (HM Z A G.length) ⟨Z.W,E0,false⟩ (lT H λ_=>True) H _ _ v u Q h.new (Rep.weak m) (Rep.weak f) ?_;rw[hz];exact λw d s r=>q d w s r
  .cases e
 .cases e
def Cp(D:X.A.units+1<cLine)(g:HE X W E a m1)(c:HE X W E b m2)(J:Y_ b:=by intro _ _;rfl):HE X W E (.Subscript a b pos) (hIx m1 m2):=λf=>by
 obtain⟨T,K,p⟩:=g f;obtain⟨P,I,l⟩:=c f;refine⟨_,my (fH.or (Xw D)) K I J,λZ d A H h i G R Q q=>p Z d A H h i G R _ (HPx.bind q λx m N j g C F v L=>?_)⟩;refine l Z d m N h i j (R.gro g C) _ (HPx.bind F λy o O S c M e u n=>?_);split at e
 .rename_i z hz;rw[f,<- d];exact Co c (L.gro M) n hz λB w s r=>e o B (c.keep s) (Gro.same s) w r
 .exact e.elim
inductive HFw where
 |nx (ρ:Jl) (G:AH)|rt (x:HV) (G:AH)|bk (ρ:Jl) (G:AH)|ct (ρ:Jl) (G:AH)|exc (c:Nat) (fs:Ex) (G:AH)|wall
abbrev HMS:=Jl->AH->HFw
def HPs(Z:HC)(E:XK)(A:Em)(n:Nat)(H:Hp)(D:Ends):HFw->Prop
 |.nx f d=>∀e b a,HR Z e b a f d->Gro Z A n H e d.length b->D.nx a b
 |.rt x d=>∀e b v,HH Z e b d->Gro Z A n H e d.length b->w4 Z.W (HM Z e d.length) e d.length b x v->D.rt v b
 |.bk f d=>∀e b a,HR Z e b a f d->Gro Z A n H e d.length b->D.bk a b
 |.ct f d=>∀e b a,HR Z e b a f d->Gro Z A n H e d.length b->D.ct a b
 |.exc c fs d=>pD Z E A n H c fs d
 |.wall=>False
def HX.fw{b:Type}:HX b->(b->AH->HFw)->HFw
 |.ok a G,f=>f a G
 |.exc c fs G,_=>.exc c fs G
 |.wall,_=>.wall
def LHS(W:RC)(E:XK)(c:TS)(m:HMS):Prop:=∀(Z:HC),Z.W=W->∀A H a b G,HR Z A H a b G->∀D,HPs Z E A G.length H D (m b G)->c D a H
def HS(X:Cx)(W:RC)(E:XK)(st:ER)(m:HMS):Prop:=X.K=W.K->∃a,PS X st a/\LHS W E a m
def HSs(X:Cx)(W:RC)(E:XK)(st:EC)(m:HMS):Prop:=X.K=W.K->∃a,PSs X st a/\LHS W E a m
section
variable {α:Type}{K':α->(Nat->Addr)->Hp->AH->Prop}
def HPs.gro(h:HPs Z E A n H D o)(g:Gro Z A n H A' n' H'):HPs Z E A' n' H' D o:=by
 cases o with
 |nx f G=>exact λd b a r e=>h d b a r (g.trans e)
 |rt x G=>exact λd b v r e=>h d b v r (g.trans e)
 |bk f G=>exact λd b a r e=>h d b a r (g.trans e)
 |ct f G=>exact λd b a r e=>h d b a r (g.trans e)
 |exc c fs G=>exact pD.gro h g
 |wall=>exact h
def HPs.bind{o:HX α}{f:α->AH->HFw}(h:HPs Z E A n H D (o.fw f))(k:∀x d b a,HH Z d b a->Gro Z A n H d a.length b->HPs Z E d a.length b D (f x a)->K' x d b a):HPx Z E A n H K' o:=by
 cases o with
 |ok x a=>exact λj g i e=>k x j g a i e (HPs.gro (o:=f x a) h e)
 |exc c fs a=>exact h
 |wall=>exact h
end
def ZP:HMS:=λa G=>.nx a G
def ZE(a b:HMS):HMS:=λf G=>match a f G with
 |.nx d e=>b d e
 |.rt x e=>.rt x e
 |.bk d e=>.bk d e
 |.ct d e=>.ct d e
 |.exc c fs e=>.exc c fs e
 |.wall=>.wall
def Vw(i:Nat)(m:HME):HMS:=λa G=>(m a G).fw λx b=>.nx (a.set i (some x)) b
def pG(m:HME):HMS:=λb G=>(m b G).fw λx a=>.rt x a
def hIf(t:HMT)(a b:HMS):HMS:=λd G=>(t d G).fw λc e=>if c=true then a d e else b d e
section
variable {X:Cx}{W:RC}{E:XK}{e a o:Eh}{pos p pos' qH:Pos}{m m1 m2:HME}{t1:HMT}{s1 s2:HMS}{x:Str}{st:ER}{sts stt:EC}{i:Nat}
def vG:HSs X W E [] ZP:=λ_=>⟨_,fj,λZ f A H c d G R D q=>q A H c R Gro.refl⟩
def Aw(y:LHS W E t s1)(r:LHS W E u s2):LHS W E (By t u) (ZE s1 s2):=λZ j A H n l G R D q=>by
 refine y Z j A H n l G R _ ?_;unfold ZE at q;revert q;cases s1 l G with
 |nx d f=>exact λq w v h s g=>r Z j w v h d f s D (HPs.gro (o:=s2 d f) q g)
 |rt x f=>exact id
 |bk d f=>exact id
 |ct d f=>exact id
 |exc c fs f=>exact id
 |wall=>exact id
def ym(g:HS X W E st s1)(h:HSs X W E sts s2):HSs X W E (st::sts) (ZE s1 s2):=λc=>by obtain⟨t,j,l⟩:=g c;obtain⟨u,d,f⟩:=h c;exact⟨_,cb j d,Aw l f⟩
def j2(c:HS X W E st s1):HSs X W E [st] s1:=λg=>by obtain⟨t,d,f⟩:=c g;exact⟨_,Y7 d,f⟩
def Ax(h:∀(Z:HC),Z.W=W->∀A H c d G,HR Z A H c d G->∀Q,HPx Z E A G.length H (KV' Z Q) (m d G)->te c H Q):LHS W E (ui te (aV i)) (Vw i m):=λZ f A H c d G R D q=>
 h Z f A H c d G R _ (HPs.bind q λx g s u n j l v r=>l g s _ ((R.gro n j).set r) Gro.refl)
def Ay(c:X.N.Nodup)(l:X.N[i]?=some x)(f:Loc X.env.scope x)(h:HE X W E e m)(d:swapsWith e (some (.Name x pos')) pos.line X.env=pure false:=by rfl)(hf:X.fn x=true\/X.env.scope.names.lookup x=some .local:=by first|exact .inl rfl|exact .inr rfl|assumption):
  HS X W E (.Assign [.Name x pos'] e pos) (Vw i m):=λn=>by
 obtain⟨q,g,j⟩:=h n;exact⟨_,fk c l f g d hf,Ax j⟩
def cY(h:HE X W E e m):HS X W E (.Return (some e) pos) (pG m):=λn=>by obtain⟨z,s,j⟩:=h n;exact⟨_,cf s,λZ c A H d f G R D q=>j Z c A H d f G R _ (HPs.bind q λx g w y r B l v u=>l g w v r Gro.refl u)⟩
def Wo(h:HT X W E c t1)(g:HSs X W E sts s1)(B:HSs X W E stt s2):HS X W E (.If c sts stt pos) (hIf t1 s1 s2):=λn=>by
 obtain⟨K,J,C⟩:=h n;obtain⟨t,I,y⟩:=g n;obtain⟨u,F,z⟩:=B n;refine⟨_,uJ J I F,λZ j A H d l G R D q=>C Z j A H d l G R _ (HPs.bind q λk s f r g v w=>?_)⟩;cases k with
 |true=>show(if true=true then t D d f else u D d f);rw[if_pos rfl];exact y Z j s f d l r (R.gro g v) D w
 |false=>show(if false=true then t D d f else u D d f);rw[if_neg F6];exact z Z j s f d l r (R.gro g v) D w
def uv(j h:HME):HMS:=λc G=>(j c G).fw λx d=>match x with
 |.g k=>match d[k]? with
  |some (.l _)=>(h c d).fw λy g=>match g[k]? with
   |some (.l f)=>if f.length<sizeLine then .nx c (g.set k (.l (f++[y])))else .wall
   |_=>.wall
  |_=>.wall
 |_=>.wall
def Bm{Z:HC}{A:Em}{H:Hp}{G:AH}{d:St}{ρ:Jl}{D:Ends}{k:Nat}{c:Cell}{o l:HO}(R:HR Z A H d ρ G)(j:k<G.length)(h:H (A k)=some l)(f:¬Imm l)(n:ia Z.W (HM Z A G.length) A G.length (upd H (A k) o) (A k) c)(q:HPs Z E A G.length H D (.nx ρ (G.set k c))):D.nx d (upd H (A k) o):=by
 have g:Gro Z A G.length H A (G.set k c).length (upd H (A k) o):=by rw[M3];exact R.toHH.frw j h f
 exact q A _ d (R.gro (R.toHH.write j h f n) g) g
def Vx(Y:HE X W E o m1)(h:HE X W E e m2)(JE:attributeBase o "append" X.env (eval o X.env)=eval o X.env:=by rfl)
  (e_:((backTo p (starEach [e] X.env)).all (λx=>!x.1)&&(backToKw p (keywordEach [] X.env)).all (λx=>x.1.isSome)&&decide ([e].length+([]:List Keyword).length+(if([]:List Keyword).isEmpty then 0 else 1)<30))=true:=by rfl)
  (JD:(qH.endLine==p.line)=true:=by rfl) (N:starEach [e] X.env=[(false,eval e X.env)]:=by rfl) (j:swapsWith (.Call (.Attribute o "append" qH) [e] [] p) none pos.line X.env=pure false:=by rfl):
  HS X W E (.Expr (.Call (.Attribute o "append" qH) [e] [] p) pos) (uv m1 m2):=λM=>by
 obtain⟨to,o1,o2⟩:=Y M;obtain⟨te,a1,a2⟩:=h M;refine⟨_,Jc (mz a0t a1T a1U KQ o1 (vD a1 JG N) JE e_ JD N rfl) j,λZ C A H F I G R D q=>o2 Z C A H F I G R _ (HPs.bind q λx T H1 P O g1 g v rx=>?_)⟩;split at g
 .rename_i k;obtain⟨K,rfl⟩:=rx;split at g
  .rename_i S w;obtain⟨vs0,s,_⟩:=O.cell k _ w;have L:=R.gro O g1;refine⟨.inl ⟨rfl,_,SqL.of s⟩,a2 Z C T H1 F I P L _ (HPs.bind g λy J Q n l z f u U=>?_)⟩;split at f
   .rename_i xs hc;split at f
    .rename_i hl;obtain⟨B,hp,r⟩:=l.cell k _ hc;have d:k<n.length:=E7 K z.le;rw[<- z.agr k K];have g3:=l.frw (o:=.lst (B++[u])) d hp id;have one:zQ Z.W (HM Z J n.length) J n.length Q [y] [u]:=⟨u,[],rfl,U,rfl⟩;exact⟨_,B,u,rfl,rfl,hp,by rw[r.len];exact hl,Bm (c:=.l (xs++[y])) (L.gro l z) d hp id ⟨_,zi,(r.append one).gro g3⟩ f⟩
    .exact f.elim
   .exact f.elim
  .exact g.elim
 .exact g.elim
def eI(h mk mv:HME):HMS:=λc G=>(mv c G).fw λy g=>(h c g).fw λx l=>(mk c l).fw λz d=>match x,z with
 |.g k,.v (.i j)=>match d[k]? with
  |some (.l f)=>match ixN f.length j with
   |some t=>.nx c (d.set k (.l (f.set t y)))
   |none=>.wall
  |_=>.wall
 |_,_=>.wall
def ic(U:HE X W E o m)(h:HE X W E a m1)(Q:HE X W E e m2)
  (ha:∀v,assign (.Subscript o a p) X.env v=(do
   let ov<-holding [v] (eval o X.env)
   let iv<-holding [v,ov] (eval a X.env)
   standAt p
   holding [v,ov,iv] (setItem ov iv v)
   release [v,ov,iv] []):=by intro _;rfl)
  (hs:swapsWithSole [.Subscript o a p] e pos.line X.env=pure false:=by rfl) (M:swappedStores [.Subscript o a p] e X.env=pure none:=by rfl) (C:(assignEach [.Subscript o a p] X.env).map (·.2)=[assign (.Subscript o a p) X.env]:=by rfl):
  HS X W E (.Assign [.Subscript o a p] e pos) (eI m m1 m2):=λB=>by
 obtain⟨to,o1,o2⟩:=U B;obtain⟨ta,a1,a2⟩:=h B;obtain⟨tv,b1,O⟩:=Q B;refine⟨_,oG b1 (uL o1 a1 set_list ha) hs M C,λZ l A H n s G R D q=>O Z l A H n s G R _ (HPs.bind q λy T H1 L C g1 q1 v S=>?_)⟩;have J:=R.gro C g1;refine o2 Z l T H1 n s L J _ (HPs.bind q1 λx A2 N G2 h2 K P w rx=>?_);have R2:=J.gro h2 K;refine a2 Z l A2 N n s G2 R2 _ (HPs.bind P λz A3 H3 G3 F g d u rz=>?_);split at d
 .rename_i k j;obtain⟨h,rfl⟩:=rx;split at d
  .rename_i xs hc;split at d
   .rename_i t ht;obtain⟨I,hp,r⟩:=F.cell k _ hc;have f:k<G3.length:=E7 h g.le;have Y:=F.frw (o:=.lst (I.set t v)) f hp id;rw[<- g.agr k h];exact⟨_,I,j,t,rfl,rz,hp,by rw[r.len];exact ht,Bm (c:=.l (xs.set t y)) (R2.gro F g) f hp id ⟨_,zi,(zQ.set ((S.gro K).gro g) t r).gro Y⟩ d⟩
   .exact d.elim
  .exact d.elim
 .exact d.elim
end
abbrev DW:=List HV->Jl->Option Jl
def hB(p:Ep)(ms:HMA):HME:=λb G=>(ms b G).bind λd a=>match Uj (XS a 8) d with
 |some c=>match p c with
  |.ok z=>if imm z=true then .ok (.v z) a else .wall
  |_=>.wall
 |none=>.wall
def Bn(n:Nat)(ms:HMS)(xs:List HV)(G:AH):HX HV:=match ms (xs.map some++List.replicate (n-xs.length) none) G with
 |.nx _ a=>.ok (.v .n) a
 |.rt x a=>.ok x a
 |.exc c fs a=>.exc c fs a
 |_=>.wall
def eJ{xs:List HV}{n k:Nat}{x:HV}(h:(xs.map some++List.replicate (n-xs.length) none)[k]?=some (some x)):xs[k]?=some x:=by
 rw[a1e]at h;split at h
 .rw[F4]at h;obtain⟨y,a,e⟩:=u8.mp h;cases e;exact a
 .rw[a0s]at h;split at h<;>cases h
def nG(h:HH Z A H G)(r:zQ Z.W (HM Z A G.length) A G.length H xs vs):HR Z A H (start N vs) (xs.map some++List.replicate (N.length-xs.length) none) G:=by
 refine⟨h,?_,λi x e=>?_⟩
 .unfold start;rw[E8,E8,D0,D0,T7,T7,r.len]
 .obtain⟨v,a,b⟩:=r.get (eJ e);have c:i<vs.length:=(F3.mp a).1;refine⟨v,?_,b⟩;unfold start;rw[N9 (by rw[D0];exact c),F4,a];rfl
section
variable {P:Eo}{w:Es}{K:EE}{mg:Ed}{base:Heap}
def pH{x b:Str}{st:ER}{f:Addr}{z:Eu}{N j:Ea}{k n l:Nat}{W:RC}{ms:HMS}(F:Fun K x b st f z)(S:zy N j (zj st))(L:K=W.K)(p:j.length=l)(B:N.length=n)
  (h:∀(d:Value)(A:Ey)(a:List Env)(s:Ef)(H:Hp)(E:XK),vC k (A.deeper (envOfC b (zj st) s.heap.objs.size f d))->HSs (thr (aI (CXe P w) P w K mg base N b (zj st) f d A a s H E) E) W E (vE st) ms):
  qV P w K mg base (CXe P w) (k+1) f z j (hsp W l (Bn n ms)):=by
 subst B p;refine F.okX S sW λd A a s H Y Q E M ⟨Z,R,G,u,C,p,D,r,q⟩=>?_;obtain⟨I,O,X⟩:=h d A a s H E M L;refine⟨I,O,X Z C R H _ _ G (nG D r) _ ?_⟩;unfold Bn at q;revert q;cases ms (u.map some++List.replicate (N.length-u.length) none) G with
 |exc c fs g=>exact id
 |wall=>exact id
 |nx e g=>exact λq m i U R2 o=>q m i R2.toHH o .non rfl
 |rt y g=>exact λq m i v J o T=>q m i J o v T
 |bk e g=>exact λq=>q.elim
 |ct e g=>exact λq=>q.elim
end
def pD1(x:PV):PV->Out PV
 |.i n=>match pk x with|some k=>.ok (.d [(k,.i n)])|none=>.wall
 |_=>.wall
def mD1(mk mv:ME):ME:=λa=>(mk a).bind λx=>(mv a).bind λy=>pD1 x y
def Cq(L:EM X C S w1 a m1)(G:EM X C S w2 b m2):FM X C S (.Dict [some a] [b] pos) (mD1 m1 m2):=λw=>by
 obtain⟨N,M,I⟩:=L w;obtain⟨O,K,D⟩:=G w;refine⟨_,rH (mI M K rG) rfl rfl (by intro h;cases h) (show 1<=15 by decide),λB P H g d R Q q=>λp hp=>?_⟩;have r:zz H (upd H p (.dK [])):=zz.upd hp;unfold mD1 at q;show N g _ _;refine I B P _ g d (R.keep r) _ ?_;cases j:m1 d with
 |exc c fs=>rw[j]at q;exact q
 |wall=>rw[j]at q;exact q
 |ok x=>
  rw[j]at q;intro v T s J;refine D B P _ g d (R.keep (r.trans s)) _ ?_;cases e:m2 d with
  |exc c fs=>have q:zK C B H _ Q ((m2 d).bind _):=q;rw[e]at q;exact q
  |wall=>have q:zK C B H _ Q ((m2 d).bind _):=q;rw[e]at q;exact q
  |ok y=>
   have q:zK C B H _ Q ((m2 d).bind _):=q;rw[e]at q;intro u A s2 E;have q:zK C B H _ Q (pD1 x y):=q;cases y with
   |i n=>
    cases f:pk x with
    |none=>have q:zK C B H _ Q (match pk x with|some k=>.ok (.d [(k,.i n)])|none=>.wall):=q;rw[f]at q;exact q.elim
    |some k=>
    have q:zK C B H _ Q (match pk x with|some k=>.ok (.d [(k,.i n)])|none=>.wall):=q;rw[f]at q;have ev:=QC (J.weak) f;have F:u=.int n:=E.weak;subst ev F;have l:A p=some (.dK []):=(s.trans s2) _ _ zi;refine⟨l,[(k,.int n)],rfl,by show 1<=15;decide,q _ _ (λc o m=>?_) ⟨p,rfl,hp,[(k,.int n)],zi,⟨_,_,rfl,rfl,rfl⟩⟩⟩;have:c≠p:=λz=>by rw[z,hp]at m;cases m
    rw[zm this];exact(r.trans (s.trans s2)) _ _ m
   |_=>exact(show False from q).elim
def aO(G:AH):Nat->HV->Option PV
 |0,_=>none
 |_+1,.v x=>if imm x=true then some x else none
 |n+1,.t b=>(Uj (aO G n) b).map .t
 |n+1,.g k=>match G[k]? with
  |some (.l b)=>(Uj (aO G n) b).map .l
  |some (.d a)=>(nD (aO G n) a).map .d
  |_=>none
section
variable {Z:HC}{A:Em}{H:Hp}{G:AH}
theorem KC{N:Ee}(h:HH Z A H G)(b:∀k,k<G.length->N (A k)):∀(n:Nat)(x:HV)(v:V)(y:PV),w4 Z.W (HM Z A G.length) A G.length H x v->aO G n x=some y->Rep Z.W N H y v
 |0,_,_,_,_,e=>by cases e
 |n+1,.v x,v,y,r,e=>by
  unfold aO at e;split at e
  .rename_i l;cases e;exact Vu l r
  .cases e
 |n+1,.t i,v,y,r,e=>by unfold aO at e;obtain⟨g,c,rfl⟩:=u8.mp e;unfold w4 at r;obtain⟨p,a,rfl,s,q⟩:=r;exact⟨p,a,rfl,s,QK (KC h b n) q c⟩
 |n+1,.g k,v,y,r,e=>by
  obtain⟨j,rfl⟩:=r;unfold aO at e;split at e
  .rename_i i f;obtain⟨g,c,rfl⟩:=u8.mp e;obtain⟨a,d,q⟩:=h.cell k _ f;exact⟨A k,a,rfl,b k j,d,QK (KC h b n) q c⟩
  .rename_i i f;obtain⟨g,c,rfl⟩:=u8.mp e;obtain⟨a,d,q⟩:=h.cell k _ f;exact⟨A k,a,rfl,b k j,.inl d,Kw (KC h b n) q c⟩
  .cases e
def nH:HH ⟨Z.W,H,λ_=>True⟩ A H []:=⟨zz.refl _,λk c e=>(by cases e),λj k a=>absurd a (a1g _),λk b=>absurd b (a1g _)⟩
def W2(g:Gro ⟨Z.W,H,λ_=>True⟩ A 0 H A' n H'):zz H H':=λa o e=>g.fr a o e (.inl ⟨.inl trivial,λk b=>absurd b (a1g _)⟩)
end
def vOf(g:List HV->AH->HX HV)(xs:Ew):Out PV:=match g (xs.map .v) []with
 |.ok y X=>match aO X 8 y with
  |some z=>.ok z
  |none=>.wall
 |.exc c fs _=>if pE fs=true then .exc c fs else .wall
 |.wall=>.wall
theorem pJ{W:RC}{M:Ee}{H:Hp}{Z:HC}{A:Em}(b:∀a,HM Z A 0 a):∀{f:Ek}{g:Ew}{e:En},jb W M H f g e->zQ W (HM Z A 0) A 0 H (g.map .v) e
 |[],_,_,⟨c,d⟩=>by subst c;exact d
 |w::f,_,_,⟨x,v,l,j,c,d,h,i⟩=>by subst c;exact⟨v,j,d,yj.iff.mp (yj.sub h (λa _ _=>b a) λa _ _=>b a),pJ b i⟩
def ie{P:Eo}{w:Es}{K:EE}{l:Ed}{b:Heap}{k n:Nat}{f:Addr}{p:Eu}{j:Ea}{W:RC}{g:List HV->AH->HX HV}{ws:Ek}(F:qV P w K l b (CXe P w) k f p j (hsp W n g))(C:ws.length=n):qV P w K l b (CXe P w) k f p j (lsp W false ws (vOf g)):=
 F.imp λL H Q E ⟨M,o,a,q⟩=>by
  have r:∀a,HM ⟨W,H,λ_=>True⟩ (λ_=>0) 0 a:=λa=>⟨.inl trivial,λk i=>absurd i (a1g _)⟩;refine⟨⟨W,H,λ_=>True⟩,λ_=>0,[],o.map .v,rfl,by rw[D0,a.len.2,C],nH (Z:=⟨W,H,λ_=>True⟩),pJ r a,?_⟩;unfold vOf at q;revert q;cases g (o.map .v) []with
  |wall=>exact λq=>q.elim
  |exc c fs D=>
   intro q;dsimp only at q;split at q
   .rename_i B;exact λx d e s I m h u A J=>q e s I d (W2 (Z:=⟨W,H,λ_=>True⟩) h) u A (Yq B J)
   .exact q.elim
  |ok y D=>
   intro q;dsimp only at q;split at q
   .rename_i z hz;intro x d m h v G;exact q v d (W2 (Z:=⟨W,H,λ_=>True⟩) h) (show Rep W _ d z v from KC m (λk i=>.inr (h.fresh k (M7 _) i)) 8 y v z G hz)
   .exact q.elim
def signsOf:PV->Out (List PV)
 |.s z=>.ok (z.cps.toList.map λc=>.s ⟨#[c]⟩)
 |_=>.wall
def U0(m:ME):MI:=λa=>(m a).bind signsOf
def Az:sj W M N H2 (Its z) (z.cps.toList.map λc=>PV.s ⟨#[c]⟩):=λh f=>by refine⟨λi x d=>?_,by rw[D0];exact a1P a1m.symm⟩;rw[F4]at d;obtain⟨c,b,rfl⟩:=u8.mp d;rw[a2g]at b;refine⟨(a0O.mp b).1,λv e g=>?_⟩;obtain⟨rfl,j,a,rfl⟩:=g;rw[b]at a;cases a;exact⟨zz.refl _,λ_ _=>rfl⟩
def AA(h:EM X C S w e m):IM X C S cc (.Name y py) e (U0 m):=λi=>by
 obtain⟨j,f,g⟩:=h i;refine⟨_,xq f,λB P H d a R Q q=>g B P H d a R _ ?_⟩;unfold U0 at q;revert q;cases m a with
 |exc c fs=>exact id
 |wall=>exact id
 |ok x=>
  intro q v b s r;cases x with
  |s z=>have ev:v=V.str z:=r.weak;exact⟨z,ev,q _ b s Az⟩
  |_=>exact(show False from q).elim
def sX(kvs:Er)(y:PV):Out PV:=match pk y with
 |some k=>.ok ((zr kvs k).getD .n)
 |none=>.wall
def uw(c d:ME):ME:=λb=>(c b).bind λx=>match x with
 |.d a=>(d b).bind (sX a)
 |_=>.wall
def pK(J:X.A.units+1<cLine)(M:EM X C S w1 o m1)(F:EM X C S w2 e m2)(m:M1 X o "get" qH e jt):EM X C S false (.Call (.Attribute o "get" qH) [e] [] jt) (uw m1 m2):=λw=>by
 obtain⟨W,N,G⟩:=M w;obtain⟨U,L,A⟩:=F w;refine⟨_,mJ J N L m,λB P H n l R Q q=>G B P H n l R _ (zI q λx v T O I s=>?_)⟩;cases x with
 |d a=>
  obtain⟨p,g,rfl,_,r,rk⟩:=I.weak;refine⟨p,rfl,.inl ⟨g,r⟩,A B P T n l (R.keep O) _ (zI (o:=m2 l) (f:=sX a) s λy u h s2 D b=>?_)⟩;cases i:pk y with
  |none=>
   have e:sX a y=.wall:=by unfold sX;rw[i]
   rw[e]at b;exact b.elim
  |some k=>
   have e:sX a y=.ok ((zr a k).getD .n):=by unfold sX;rw[i]
   rw[e]at b;have E:=QC D.weak i;subst E;have j:Rd h p (.dK g):=r.elim (λz=>.inl (s2 _ _ z)) λ⟨o,z⟩=>.inr ⟨o,s2 _ _ z⟩;refine⟨Qy g k,.inl ⟨g,k,j,rfl,rfl⟩,?_⟩;cases c:zr a k with
   |none=>rw[c]at b;rw[rk.uq c];exact b _ h (zz.refl _) (RV.of rfl)
   |some x=>rw[c]at b;obtain⟨v,ev,K⟩:=rk.get c;rw[ev];exact b _ h (zz.refl _) (RV.of (K.same s2))
 |_=>exact s.elim
def eK(e mi:HME):HMS:=λa G=>(e a G).fw λx b=>match x with
 |.g k=>match b[k]? with
  |some (.l _)=>(mi a b).fw λy d=>match y,d[k]? with
   |.v (.i i),some (.l c)=>if 0<=i/\i<c.length/\i<1000000 then .nx a (d.set k (.l (c.eraseIdx i.toNat)))else .wall
   |_,_=>.wall
  |_=>.wall
 |_=>.wall
def zQ.erase:∀{a:En}{k:Nat},zQ W M A n H b a->zQ W M A n H (b.eraseIdx k) (a.eraseIdx k):=by
 induction b with
 |nil=>intro a k h;unfold zQ at h;subst h;rw[List.eraseIdx_nil,List.eraseIdx_nil];unfold zQ;rfl
 |cons x b e=>
  intro a k h;unfold zQ at h;obtain⟨v,r,rfl,d,c⟩:=h;cases k with
  |zero=>exact c
  |succ k=>rw[a15,a15];unfold zQ;exact⟨_,_,rfl,d,e c⟩
def ig(P:HE X W E o m1)(ha:HE X W E a m2)(JE:attributeBase o "pop" X.env (eval o X.env)=eval o X.env:=by rfl)
  (e_:((backTo jt (starEach [a] X.env)).all (λx=>!x.1)&&(backToKw jt (keywordEach [] X.env)).all (λx=>x.1.isSome)
   && decide (([a]:List Expr).length+([]:List Keyword).length+(if([]:List Keyword).isEmpty then 0 else 1)<30))=true:=by rfl)
  (JD:(qH.endLine==jt.line)=true:=by rfl) (L:starEach [a] X.env=[(false,eval a X.env)]:=by rfl) (h:swapsWith (.Call (.Attribute o "pop" qH) [a] [] jt) none pos.line X.env=pure false:=by rfl):
  HS X W E (.Expr (.Call (.Attribute o "pop" qH) [a] [] jt) pos) (eK m1 m2):=λK=>by
 obtain⟨to,o1,Y⟩:=P K;obtain⟨ta,a1,S⟩:=ha K;refine⟨_,Jc (mz a0t PySem.F.slot_list_pop PySem.F.type_list_pop mD o1 (vD a1 JG (by rw[L];rfl)) JE e_ JD (by rw[L];rfl) rfl) h,λZ z A H B C G R D q=>Y Z z A H B C G R _ (HPs.bind q λx O H1 M g g1 f v rx=>?_)⟩;split at f
 .rename_i k;obtain⟨F,rfl⟩:=(show _/\_ from rx);split at f
  .rename_i N n;obtain⟨p,m,_⟩:=g.cell k _ n;have I:=R.gro g g1;refine⟨.inl ⟨rfl,p,SqL.of m⟩,S Z z O H1 B C M I _ (HPs.bind f λy A2 H2 U j s d u ru=>?_)⟩;split at d
   .rename_i i J hc;have Q:u=V.int i:=ru;subst Q;by_cases l:0<=i/\i<J.length/\i<1000000
    .rw[if_pos l]at d;obtain⟨b,hp,w⟩:=j.cell k _ hc;have e:k<U.length:=E7 F s.le;rw[<- s.agr k F];have hl:=w.len;have r:i.toNat<b.length:=by omega
     have T:=j.frw (o:=.lst (b.eraseIdx i.toNat)) e hp id;have hx:seqIndex? i b.length=some i.toNat:=by
      have h0:¬i<0:=by omega
      have g:i<(b.length:Int):=by omega
      simp only[seqIndex?,h0,if_false,l.1,g,decide_true,Bool.and_self,if_true]
     exact⟨_,b,i,i.toNat,b[i.toNat],rfl,rfl,hp,by omega,by omega,hx,E5 r,Bm (c:=.l (J.eraseIdx i.toNat)) (I.gro j s) e hp id ⟨_,zi,w.erase.gro T⟩ d⟩
    .rw[if_neg l]at d;exact d.elim
   .exact d.elim
  .exact f.elim
 .exact f.elim
def pk2:List PV->Option (List Key)
 |[x,y]=>(pk x).bind λa=>(pk y).bind λb=>some [a,b]
 |_=>none
def Vy(s:zz H H')(h:Rd H p u):Rd H' p u:=(zz.fr (M:=λ_=>True) s).rd h trivial
theorem Vz{k:ET}:∀{kvs:EV},Qy (dtV kvs) k=(zr kvs k).map V.int
 |[]=>rfl
 |q::r=>by
  unfold dtV Qy zr;rw[E6,R4,R4];by_cases c:q.1=k
  .simp only[c,decide_true];rfl
  .simp only[c,decide_false];exact Vz (kvs:=r)
def sY:putK (dtV a) k (.int n)=dtV (dput a k n):=by
 have e:∀{a:EV},(dtV a).any (λb=>decide (b.1=k))=a.any (λb=>decide (b.1=k))/\(dtV a).map (λb=>if b.1=k then(b.1,V.int n)else b)=dtV (a.map λb=>if b.1=k then(b.1,n)else b):=λ{a}=>by
  induction a with
  |nil=>exact⟨rfl,rfl⟩
  |cons q r d=>
   unfold dtV at d ⊢;refine⟨by rw[E6,P7,P7,d.1],?_⟩;rw[E6,E6,E6,E6,d.2];by_cases c:q.1=k
   .rw[if_pos c,if_pos c]
   .rw[if_neg c,if_neg c]
 unfold putK dput;rw[e.1];split
 .exact e.2
 .unfold dtV;rw[M6];rfl
section
variable {X:Cx}{C:LC}{S Sb Sc:Eb}{e a b o:Eh}{es:Eg}{w1 w2:Bool}{ws:Ek}{m m1 m2:ME}{ms:MA}{pos p pos':Pos}{i x1:Nat}
def RVs.Cr(h:RVs C B S P H ws xs vs)(c:pk2 xs=some ks):vs=ks.map kV/\vs.length<=sizeLine:=by
 have h:=h.weak
 match xs,c with
 |[x,y],c=>obtain⟨n,d,c⟩:=F5.mp c;obtain⟨q,g,c⟩:=F5.mp c;cases c;obtain⟨v,r,rfl,l,u,j,rfl,f,e⟩:=h;cases(show j=[]from e);rw[QC l d,QC f g];exact⟨rfl,by show 2<=sizeLine;decide⟩
def ij:ME:=λ_=>.ok (.dt [])
def cZ:FM X C S (.Dict [] [] pos) ij:=λf=>⟨_,mH,λB P H c d R Q q=>λp hp=>q _ _ (zz.upd hp) ⟨p,rfl,hp,zi⟩⟩
def C_(x:PV)(xs:Ew):Out PV:=match x,pk2 xs with
 |.dt c,some d=>vk ((zr c d).map PV.i)
 |_,_=>.wall
def eM(m:ME)(ms:MA):ME:=λc=>(m c).bind λx=>(ms c).bind λd=>C_ x d
def W4(E:X.A.units+1<cLine)(K:EM X C S w1 a m1)(l:AM X C S ws es ms)(L:Y_ (.Tuple es x1 p):=by intro _ _;rfl):EM X C S false (.Subscript a (.Tuple es x1 p) pos) (eM m1 ms):=λg=>by
 obtain⟨ta,O,s⟩:=K g;obtain⟨tb,J,h⟩:=l g;refine⟨_,my (Xw E) O (WR J) L,λB P H d f R Q q=>s B P H d f R _ (zI q λx v U T D I=>h B P U d f (R.keep T) _ (yK I λxs W Y s2 j c=>?_))⟩;unfold C_ at c;split at c
 .rename_i G Z u;obtain⟨y,N,M⟩:=qr c;obtain⟨n,F,rfl⟩:=u8.mp N;obtain⟨rfl,r⟩:=j.Cr u;obtain⟨p,rfl,_,A⟩:=D.weak;refine⟨r,λz hz=>⟨p,.int n,rfl,.inr ⟨_,_,z,Vy (zz.upd hz) (Vy s2 A),rfl,zi,by rw[Vz,F];rfl⟩,M _ _ (zz.upd hz) (RV.of rfl)⟩⟩
 .exact c.elim
def inT(d:Bool)(ks:ET):PV->Out PV
 |.dt c=>.ok (.b (xor d (zr c ks).isSome))
 |_=>.wall
def U1(c:Bool)(ms:MA)(m:ME):ME:=λd=>(ms d).bind λf=>match pk2 f with
 |some g=>(m d).bind (inT c g)
 |none=>.wall
def ik(j:LA C S ws ta ms)(v:LE C S w1 tb m1):LE C S false (tOp (Bg C.W.K neg) (CW ta) tb) (U1 neg ms m1):=λB P H f g R Q q=>j B P H f g R _ (yK q λG A F x s d=>by
 split at d
 .rename_i E n;obtain⟨rfl,l⟩:=s.Cr n;refine⟨l,λz hz=>v B P _ f g ((R.keep x).keep (zz.upd hz)) _ (zI (jx d (zz.upd hz)) λy u D s2 h c=>?_)⟩;unfold inT at c;split at c
  .obtain⟨p,rfl,_,r⟩:=h.weak;exact .inr ⟨p,_,rfl,.inr ⟨_,_,z,r,rfl,s2 _ _ zi,rfl⟩,by rw[Vz,O1];exact c _ _ (zz.refl _) (RV.of rfl)⟩
  .exact c.elim
 .exact d.elim)
def il(g:X.A.units+1<cLine)(h:AM X C S ws es ms)(l:EM X C S w2 b m2)(j:behindInMarks .NotIn b=false:=by with_unfolding_all rfl):EM X C S false (.Compare (.Tuple es x1 p) [.NotIn] [b] pos) (U1 true ms m2):=λc=>by obtain⟨s,n,q⟩:=h c;obtain⟨r,d,f⟩:=l c;exact⟨_,aX (QD g) (WR n) d j,by rw[c];exact ik q f⟩
def pL(g:X.A.units+1<cLine)(h:AM X C S ws es ms)(l:EM X C S w2 b m2)(j:behindInMarks .In b=false:=by with_unfolding_all rfl):TM X C S (.Compare (.Tuple es x1 p) [.In] [b] pos) (zB (U1 false ms m2)):=λc=>by obtain⟨s,n,q⟩:=h c;obtain⟨r,d,f⟩:=l c;exact⟨_,Xk (oW g) (WR n) d j,K2 (by rw[c];exact ik q f)⟩
def VA(g:X.A.units+1<cLine)(h:AM X C S ws es ms)(l:EM X C S w2 b m2)(j:behindInMarks .NotIn b=false:=by with_unfolding_all rfl):TM X C S (.Compare (.Tuple es x1 p) [.NotIn] [b] pos) (zB (U1 true ms m2)):=λc=>by obtain⟨s,n,q⟩:=h c;obtain⟨r,d,f⟩:=l c;exact⟨_,Xk (QD g) (WR n) d j,K2 (by rw[c];exact ik q f)⟩
def Cs(i:Nat)(ρ:Sto)(o:Out (List PV)):Option (Option PV)->PV->Out Fw
 |some (some (.dt c)),.i n=>o.bind λd=>match pk2 d with
  |some k=>if c.length<sizeLine then .ok (.nx (ρ.set i (some (.dt (dput c k n)))))else .wall
  |none=>.wall
 |_,_=>.wall
def Wq(i:Nat)(ms:MA)(mv:ME):MS:=λc=>(mv c).bind λv=>Cs i c (ms c) c[i]? v
def XT(O:X.A.units+1<cLine)(L:PE X o (aU i))(l:AM X C S ws es ms)(K:EM X C S false e m2)(F:S[i]?=some 2:=by rfl)(Y:swapsWith e (some (.Subscript o (.Tuple es x1 p) pos')) pos.line X.env=pure false:=by rfl):
  SM X C S S Sb Sc (.Assign [.Subscript o (.Tuple es x1 p) pos'] e pos) (Wq i ms m2):=λG=>by
 obtain⟨ta,a1,N⟩:=l G;obtain⟨tv,U,J⟩:=K G;refine⟨_,fL O L (WR a1) U Y,λB P H j d R D q=>J B P H j d R _ ?_⟩;unfold Wq at q;revert q;cases m2 d with
 |ok y=>
  intro q v E A T;have s:=R.keep A;have q:wc C B S Sb Sc D (Cs i d (ms d) d[i]? y):=q;unfold Cs at q;split at q
  .rename_i f n Z q0;obtain⟨h,hp,M⟩:=s.at2 F Z;have hp:E (P i)=some (.dT (dtV f)):=hp;cases(show v=.int n from T.weak);refine⟨_,h,N B P E j d s _ ?_⟩;revert q;cases ms d with
   |ok z=>
    intro q u H2 g Q;have R2:=s.keep g;have q:wc C B S Sb Sc D (match pk2 z with
     |some k=>if f.length<sizeLine then .ok (.nx (d.set i (some (.dt (dput f k n)))))else .wall
     |none=>.wall):=q
    split at q
    .rename_i k l;split at q
     .rename_i hz;obtain⟨rfl,x⟩:=Q.Cr l;refine⟨x,λt I=>?_⟩;have W:=R2.keep (zz.upd (o:=.tup (k.map kV)) I);have r:=zz.upd (o:=.tup (k.map kV)) I _ _ (g _ _ hp);refine⟨_,_,rfl,oO.t r zi (by unfold dtV;rw[D0];exact hz),q P _ j (W.wr F M h (by exact id) ?_)⟩;show upd _ _ _ _=_;rw[zi,sY]
     .exact q.elim
    .exact q.elim
   |exc c fs=>exact id
   |wall=>exact id
  .exact q.elim
 |exc c fs=>exact id
 |wall=>exact id
end
def Ct{g:Type}{P:List g->Prop}{us:List g}(i:us.length=6)(h:∀a b c d e f,P [a,b,c,d,e,f]):P us:=by
 match us,i with|[a,b,c,d,e,f],_=>exact h a b c d e f
def Cu{i:Type}{P:List i->Prop}{us:List i}(j:us.length=7)(h:∀a b c d e f g,P [a,b,c,d,e,f,g]):P us:=by
 match us,j with|[a,b,c,d,e,f,g],_=>exact h a b c d e f g
end L2
namespace L2
open PySem PySem.W PyProof.Rows
end L2
namespace L2
open PySem PySem.Spec PyProof.Rows PySem.W
def SqT.same{K:EE}{H H':Hp}{p:Addr}{xs:En}(h:SqT K H p xs)(s:zz H H'):SqT K H' p xs:=by
 rcases h with h|h
 .rcases h with h|⟨o,h⟩
  .exact .inl (.inl (s _ _ h))
  .exact .inl (.inr ⟨o,s _ _ h⟩)
 .exact .inr h
end L2
namespace L2
open PySem PySem.Spec PyProof.Rows PySem.W
section
variable {X:Cx}
def sZ:V->List V->Hp->VK->Prop:=λx b H Q=>∃l a i y,x=.ref l/\b=[.int i,y]/\H l=some (.lst a)/\0<=i/\i.toNat<=a.length/\a.length<sizeLine/\Q .non (upd H l (.lst (a.take i.toNat++y::a.drop i.toNat)))
def ip:MtM X "list.insert" sZ:=by
 intro d s B H x A v D Q I p o h;obtain⟨l,m,i,y,rfl,rfl,c,F,E,hz,q⟩:=h;cases p;obtain⟨u,w,rfl,j,b⟩:=o.two;obtain⟨t,rfl⟩:=j;obtain⟨z,a,n,r,C,e⟩:=I.uo c;have g:i<2 ^ 63:=by
  have:m.length<2 ^ 40:=by rw[a0j]at hz;omega
  omega
 have hf:¬(!Builtin.List.listFitsIndex i)=true:=by
  unfold Builtin.List.listFitsIndex;rw[D6 (show -(2 ^ 63:Int)<=i by omega),D6 (show i<2 ^ 63 from g)]
  decide
 refine a1F a1X ⟨_,e,rfl⟩ PySem.F.entry_list_insert (PySem.F.args_list_insert_3 _ _ _) (AutoSeq1.list_insert_list_int_val_1 l a.toArray n i t w hf (by rw[F0];omega)) ⟨e,?_⟩;refine⟨.non,_,I.BM (its':=a.take i.toNat++w::a.drop i.toNat) c e ?_ ((r.take _).append (.cons b (r.drop _))) ?_,rfl,q⟩
 .have f:(if i<0 then(i+(a.toArray.size:Int)).toNat else min i.toNat a.toArray.size)=i.toNat:=by rw[if_neg (by omega),F0];omega
  show(a.toArray.extract 0 (if i<0 then(i+(a.toArray.size:Int)).toNat else min i.toNat a.toArray.size)).push w++a.toArray.extract (if i<0 then(i+(a.toArray.size:Int)).toNat else min i.toNat a.toArray.size)=_;rw[f];apply Array.toList_inj.mp;simp[List.extract_eq_drop_take];apply a0B;rw[S4];exact D3 _
 .rw[E8,D4,a0L,S4];omega
end
def Bo(g:HME)(f:HMA):HMS:=λb G=>(g b G).fw λx c=>match x with
 |.g k=>match c[k]? with
  |some (.l _)=>(f b c).fw λe d=>match e with
   |[.v (.i i),y]=>match d[k]? with
    |some (.l a)=>if 0<=i/\i.toNat<=a.length/\a.length<sizeLine then .nx b (d.set k (.l (a.take i.toNat++y::a.drop i.toNat)))else .wall
    |_=>.wall
   |_=>.wall
  |_=>.wall
 |_=>.wall
def zQ.take{W:RC}{M:Ee}{A:Em}{n:Nat}{H:Hp}:∀{b:List HV}{a:En}(k:Nat),zQ W M A n H b a->zQ W M A n H (b.take k) (a.take k)
 |[],a,k,h=>by unfold zQ at h;subst h;rw[List.take_nil,List.take_nil];unfold zQ;rfl
 |x::b,a,0,h=>by rw[List.take_zero,List.take_zero];unfold zQ;rfl
 |x::b,a,k+1,h=>by unfold zQ at h;obtain⟨v,r,rfl,c,d⟩:=h;rw[a2J,a2J];unfold zQ;exact⟨v,_,rfl,c,d.take k⟩
def zQ.drop{W:RC}{M:Ee}{A:Em}{n:Nat}{H:Hp}:∀{b:List HV}{a:En}(k:Nat),zQ W M A n H b a->zQ W M A n H (b.drop k) (a.drop k)
 |[],a,k,h=>by unfold zQ at h;subst h;rw[List.drop_nil,List.drop_nil];unfold zQ;rfl
 |x::b,a,0,h=>h
 |x::b,a,k+1,h=>by unfold zQ at h;obtain⟨v,r,rfl,d,c⟩:=h;rw[a2K,a2K];exact c.drop k
def iq(ho:HE X W E o m1)(h:HA X W E [e,f] ma)(JE:attributeBase o "insert" X.env (eval o X.env)=eval o X.env:=by rfl)
  (e_:((backTo p (starEach [e,f] X.env)).all (λx=>!x.1)&&(backToKw p (keywordEach [] X.env)).all (λx=>x.1.isSome)&&decide ([e,f].length+([]:List Keyword).length+(if([]:List Keyword).isEmpty then 0 else 1)<30))=true:=by rfl)
  (JD:(qH.endLine==p.line)=true:=by rfl) (hs:starEach [e,f] X.env=(false,eval e X.env)::starEach [f] X.env:=by rfl) (C:(backTo p (starEach [f] X.env)).any (·.1)=false:=by rfl) (l:swapsWith (.Call (.Attribute o "insert" qH) [e,f] [] p) none pos.line X.env=pure false:=by rfl):
  HS X W E (.Expr (.Call (.Attribute o "insert" qH) [e,f] [] p) pos) (Bo m1 ma):=λO=>by
 obtain⟨to,o1,o2⟩:=ho O;obtain⟨te,a1,a2⟩:=h O;refine⟨_,Jc (mz a0t a1X PySem.F.type_list_insert ip o1 a1 JE e_ JD hs C) l,λZ I A H J K G R D q=>o2 Z I A H J K G R _ (HPs.bind q λx Y H1 Q P g1 g v rx=>?_)⟩;split at g
 .rename_i k;obtain⟨M,rfl⟩:=rx;split at g
  .rename_i U z;obtain⟨vs0,w,_⟩:=P.cell k _ z;have N:=R.gro P g1;refine⟨.inl ⟨rfl,_,SqL.of w⟩,a2 Z I Y H1 J K Q N _ (HPs.bind g λys L S s m F b us a=>?_)⟩;split at b
   .rename_i i y;unfold zQ at a;obtain⟨v1,r1,rfl,e1,a⟩:=a;unfold zQ at a;obtain⟨u,r2,rfl,T,a⟩:=a;unfold zQ at a;subst a;cases(show _=_ from e1);split at b
    .rename_i B hc;split at b
     .rename_i n;obtain⟨j,hp,r⟩:=m.cell k _ hc;have d:k<s.length:=E7 M F.le;rw[<- F.agr k M];have g3:=m.frw (o:=.lst (j.take i.toNat++u::j.drop i.toNat)) d hp id;have one:zQ Z.W (HM Z L s.length) L s.length S (y::B.drop i.toNat) (u::j.drop i.toNat):=by unfold zQ;exact⟨u,_,rfl,T,r.drop _⟩
      exact⟨_,j,i,u,rfl,rfl,hp,n.1,by rw[r.len];exact n.2.1,by rw[r.len];exact n.2.2,Bm (c:=.l (B.take i.toNat++y::B.drop i.toNat)) (N.gro m F) d hp id ⟨_,zi,((r.take _).append one).gro g3⟩ b⟩
     .exact b.elim
    .exact b.elim
   .exact b.elim
  .exact g.elim
 .exact g.elim
def AB:PV->Option Int->Option Int->Out PV
 |.t a,b,c=>if HT.sIx a.length 0 b=0/\HT.sIx a.length a.length c=a.length then .wall else .ok (.t (Wh a b c))
 |_,_,_=>.wall
section
variable {X:Cx}{C:LC}{S:Eb}{w:Bool}{e:Eh}{lo hi:EX}{m:ME}{ml mh:MO}{p2 pos:Pos}
def ir(h:EM X C S w e m)(F:OM X C S lo ml)(D:OM X C S hi mh):EM X C S false (.Subscript e (.Slice lo hi none p2) pos) (mSl AB m ml mh):=λg=>by
 obtain⟨T,O,G⟩:=h g;obtain⟨W,N,A⟩:=F g;obtain⟨U,K,E⟩:=D g;refine⟨_,cm uX O N K,λB P H i b R Q q=>G B P H i b R _ (zI q λx v u s I a=>A B P u i b (R.keep s) _ ?_)⟩;revert a;cases ml b with
 |exc c fs=>exact id
 |wall=>exact id
 |ok l=>
  intro a y s2;refine E B P y i b ((R.keep s).keep s2) _ ?_;have a:zK C B u (RV C B S P false) Q ((mh b).bind λh=>AB x l h):=a;have a:=jx a s2;revert a;cases mh b with
  |exc c fs=>exact id
  |wall=>exact id
  |ok h=>
   intro a J n;have a:=jx (o:=AB x l h) a n;have L:=(I.same s2).same n;cases x with
   |t d=>
    obtain⟨p,j,rfl,hp,r⟩:=L;have f:j.length=d.length:=(yc.len r).symm▸rfl;have a:zK C B J (RV C B S P false) Q (if HT.sIx d.length 0 l=0/\HT.sIx d.length d.length h=d.length then .wall else .ok (.t (Wh d l h))):=a;split at a
    .exact a.elim
    .rename_i M;exact⟨p,j,rfl,g▸hp,by rw[f];exact M,λz hz=>a _ _ (zz.upd hz) (RV.of (gc hz r.cut))⟩
   |_=>exact a.elim
end
section
variable {X:Cx}{pins:D_}{σ:St}{H:Hp}{s:Ef}{h':Heap}{ch:ES}{T:Addr}{o:HO}{t':Nat}
def Inv.Cv(I:Inv X pins σ H s)(hf:∀b∈ch,dG X pins H b)(k:∀b u,b∉ch->s.heap.get? b=some u->h'.get? b=some u)(hp:s.heap.objs.size<=T)(new:y3 X.prog X.w (upd H T o) h' T o)(w:X.m<=t':=by ac_rfl):Inv X pins σ (upd H T o) { s with heap:=h',toks:=t' }:=by
 have d:H T=none:=I.hok.fresh hp;have f:∀b u,s.heap.get? b=some u->b≠T:=λb u e=>F1 (E7 (D9 e) hp);refine I.step (g':=s.gens) (d':=s.drawn) (ch:=ch) (λb hb=>⟨(hf b hb).2.2.2.1,(hf b hb).2.1,(hf b hb).2.2.2.2.1,(hf b hb).2.2.2.2.2⟩) (λb o _ _ a e _=>k b o a e) (λb o _ _ a e _=>⟨o.slots,k b o a e⟩) (λb o _ e n=>by rw[zm (f b o e)];exact n)
  (λb o a e=>⟨o,k b o a e⟩) (λb i e=>by rw[zm (zR e d)];exact e) (λb o u e=>by rw[zm (zR e d)];exact e) (λb p e=>⟨#[],by rw[zm (zR e d),e];simp⟩) (λm l=>?_) (λb u e=>?_) I.bare
 .obtain⟨o,j,h,g,r⟩:=l;exact⟨o,j,h,k _ o (λz=>(hf _ z).2.1 rfl) g,r⟩
 .by_cases hb:b=T
  .subst hb;rw[zi]at e;cases e;exact new
  .rw[zm hb]at e;refine(I.hok b u e).lM (λc v a q=>k c v (λz=>?_) q) (λc q=>by rw[zm (zR q d)];exact q) λc i q=>by rw[zm (zR q d)];exact q
   rcases a with a|a
   .subst a;rw[(hf _ z).1]at e;cases e
   .rw[(hf _ z).1]at a;cases a
def Inv.Cw(I:Inv X pins σ H s)(hf:∀b∈ch,dG X pins H b)(k:∀b u,b∉ch->s.heap.get? b=some u->h'.get? b=some u)(l:X.m<=t':=by ac_rfl):Inv X pins σ H { s with heap:=h',toks:=t' }:=by
 refine I.step (g':=s.gens) (d':=s.drawn) (ch:=ch) (λb hb=>⟨(hf b hb).2.2.2.1,(hf b hb).2.1,(hf b hb).2.2.2.2.1,(hf b hb).2.2.2.2.2⟩) (λb o _ _ a e _=>k b o a e) (λb o _ _ a e _=>⟨o.slots,k b o a e⟩) (λb o _ e n=>n)
  (λb o a e=>⟨o,k b o a e⟩) (λb g e=>e) (λb o u e=>e) (λb j e=>⟨#[],by rw[e];simp⟩) (λm i=>?_) (λb u e=>?_) I.bare
 .obtain⟨o,h,f,d,r⟩:=i;exact⟨o,h,f,k _ o (λz=>(hf _ z).2.1 rfl) d,r⟩
 .refine(I.hok b u e).lM (λc v a q=>k c v (λz=>?_) q) (λc q=>q) λc g q=>q;rcases a with a|a
  .subst a;rw[(hf _ z).1]at e;cases e
  .rw[(hf _ z).1]at a;cases a
end
def Itw(n:Nat)(ok:Hp->Prop)(a:Nat->List V):It:=
 ⟨λi H=>i<n/\ok H,λi H x b=>∃T,x=.ref T/\H T=none/\b=upd H T (.tup (a i)),λi H=>i=n/\ok H⟩
def Bp(xs ys:En)(i:Nat):List V:=[xs[i]?.getD .non,ys[i]?.getD .non]
def s_(b:row.length<=sizeLine)(r:Vals row vals.toList)(a:h.IsTuple T vals):y3 P w (upd H T (.tup row)) h T (.tup row):=⟨b,vals.toList,r,a⟩
def DX(K:EE)(h:TA):TI:=λg H R=>h g H λf e=>∃a b d c,f=[.ref a,.ref b]/\SqL K e a d/\SqL K e b c/\R (Itw (min d.length c.length) (λH=>SqL K H a d/\SqL K H b c) (Bp d c)) e
section
variable {e a:Eh}{m:ME}{ms:MA}
def nI(xs ys:Ew):List PV:=List.zipWith (λx y=>.t [x,y]) xs ys
def Dc:List PV->Out (List PV)
 |[.l c,.l d]=>.ok (nI c d)
 |_=>.wall
def AD(ms:MA):MI:=λc=>(ms c).bind Dc
def U2(h:H T=none):zz H (upd H T o):=λa u e=>by rw[zm (zR e h)];exact e
def DY(q:xs.length=n)(g:∀a,M a->N a)(h:∀c,Fr N H2 c->ok c)(r:∀i x,xs[i]?=some x->∃d,x=.t d/\yc W M H2 d (row i)):sj W M N H2 (Itw n ok row) xs:=λc f=>by refine⟨λi x j=>?_,q,h c f⟩;obtain⟨d,rfl,w⟩:=r i x j;refine⟨⟨by have:=(F3.mp j).1;omega,h c f⟩,λv s u=>?_⟩;obtain⟨T,rfl,l,rfl⟩:=u;refine⟨U2 l,λy sM=>⟨T,row i,rfl,.inl (.inl (zi ..)),?_⟩⟩;exact yc.gen (λa o h m=>U2 l _ _ (f a o h (m.imp (g a) id))) (λa m n=>sM a m n) w
end
def bH(kvs:Er)(y z:PV):Out PV:=match pk y with
 |some k=>.ok ((zr kvs k).getD z)
 |none=>.wall
def bI(c e d:ME):ME:=λa=>(c a).bind λx=>match x with
 |.d b=>(e a).bind λy=>(d a).bind (bH b y)
 |_=>.wall
def iu(T:X.A.units+1<cLine)(Z:EM X C S w1 o m1)(L:EM X C S w2 e m2)(h3:EM X C S false f m3)(m:M2 X o "get" qH e f jt):EM X C S false (.Call (.Attribute o "get" qH) [e,f] [] jt) (bI m1 m2 m3):=λr=>by
 obtain⟨ta,a1,M⟩:=Z r;obtain⟨tb,Y,F⟩:=L r;obtain⟨tc,O,J⟩:=h3 r;refine⟨_,mK T a1 Y O m,λB P H j c R Q q=>M B P H j c R _ (zI q λx v H1 D N A=>?_)⟩;cases x with
 |d a=>
  obtain⟨p,h,rfl,_,s,rk⟩:=N.weak;refine⟨p,rfl,.inl ⟨h,s⟩,F B P H1 j c (R.keep D) _ (zI (o:=m2 c) (f:=λy=>(m3 c).bind (bH a y)) A λy u E s2 G I=>J B P E j c ((R.keep D).keep s2) _ (zI (o:=m3 c) (f:=bH a y) I λz t n w U b=>?_))⟩;cases i:pk y with
  |none=>
   have e:bH a y z=.wall:=by unfold bH;rw[i]
   rw[e]at b;exact b.elim
  |some k=>
   have e:bH a y z=.ok ((zr a k).getD z):=by unfold bH;rw[i]
   rw[e]at b;have K:=QC G.weak i;subst K;have l:Rd n p (.dK h):=Vy w (Vy s2 s);refine⟨Qy h k,.inl ⟨h,k,l,rfl,rfl⟩,?_⟩;cases g:zr a k with
   |none=>rw[g]at b;rw[rk.uq g];exact b _ n (zz.refl _) U
   |some x=>rw[g]at b;obtain⟨v,ev,W⟩:=rk.get g;rw[ev];exact b _ n (zz.refl _) (RV.of ((W.same s2).same w))
 |_=>exact A.elim
def AE(K:EE):List V->Hp->VK->Prop:=λc H Q=>∃(p:Addr)(b:EB),c=[.ref p]/\SqL K H p (b.map V.int)/\b≠[]/\∀M,M∈b->(∀a∈b,M<=a)->Q (.int M) H
def iw(A:X.calm=true):Zz X (.builtin "min") (AE X.K):=by
 intro f s G H B K Q I r h;obtain⟨p,F,rfl,x,d,q⟩:=h;obtain⟨u,rfl,y⟩:=vals1 r;cases y;obtain⟨g,C,o,_⟩:=I.list x;obtain⟨b,rfl,rfl⟩:=f6 C;have e:(b.map (λz=>Value.int z.1 z.2)).toArray=intItems b.toArray:=by unfold intItems;simp
 have c:0<b.toArray.size:=by
  rw[F0];cases b with
  |nil=>exact absurd rfl d
  |cons a r=>simp
 refine N5 (n:=X.m) (by ac_rfl)<|min_intList (xs:=b.toArray) (I.ok.hd A) (by rw[<- e];exact o.isList) c λv J m i w L=>?_
 obtain⟨t,rfl⟩:=intItems_at i;obtain⟨M,l⟩:=argBest_lt (numAt b.toArray) (b.toArray.size-1);refine⟨.int _,H,I.kept (t':=m) w,⟨t,rfl⟩,q _ ?_ λa D=>?_⟩
 .rw[numAt_eq];exact getD_mem (by rw[D0];rw[F0]at *;omega)
 .obtain⟨j,E,rfl⟩:=mem_getD D;rw[D0]at E;have:=l j (by rw[F0];omega);rw[numAt_eq (j:=j)]at this;exact this
def ff:List Int->Int
 |[]=>0
 |[a]=>a
 |a::r=>min a (ff r)
theorem QL:∀{ns:EB},ns≠[]->ff ns∈ns
 |[],h=>absurd rfl h
 |[a],_=>by simp[ff]
 |a::b::r,_=>by
  have ih:=QL (ns:=b::r) (by simp);show min a (ff (b::r))∈_;rcases Int.le_total a (ff (b::r))with h|h
  .rw[Int.min_eq_left h];exact D8
  .rw[Int.min_eq_right h];exact D5 _ ih
theorem XU:∀{d:EB}{a:Int},a∈d->ff d<=a
 |[],_,h=>by cases h
 |[b],a,h=>by simp at h;subst h;exact O8 _
 |b::c::r,a,h=>by
  show min b (ff (c::r))<=a;rcases G0.mp h with rfl|h
  .exact Int.min_le_left ..
  .exact Int.le_trans (Int.min_le_right ..) (XU h)
def eN:List PV->Out PV
 |[.l b]=>vk ((oX b).bind λa=>if a=[]then none else some (.i (ff a)))
 |_=>.wall
def tf:LfC W (AE W.K) eN:=λM C B H l d Q n h q=>by
 unfold eN at q;split at q
 .obtain⟨z,e,q⟩:=qr q;obtain⟨a,i,e⟩:=F5.mp e;by_cases hz:a=[]
  .rw[if_pos hz]at e;cases e
  .rw[if_neg hz]at e;cases e;obtain⟨v,r,rfl,⟨p,d,rfl,_,c,g⟩,f⟩:=h;cases(show _=_ from f);rw[gp g i]at c;refine⟨p,a,rfl,SqL.of c,hz,λM j b=>?_⟩;have:M=ff a:=Int.le_antisymm (b _ (QL hz)) (XU j);rw[this];exact q _ H (zz.refl _) rfl
 .exact q.elim
def iy(b:X.calm=true)(c:Gl X "min")(a:X.mg "min"=none)(d:AM X C S ws [e] ms)(he:starEach [e] X.env=[(false,eval e X.env)]:=by rfl):EM X C S false (.Call (.Name "min" p) [e] [] pos) (zh eN ms):=
 cH (λf=>f▸iw b) tf c a PyProof.Rows.boot_min d (he:=he)
section
variable {X:Cx}{pins:D_}{σ:St}{H:Hp}{s:Ef}
def iz(I:Inv X pins σ H s)(h:SqT X.K H b (ks.map kV)):(tupleKind (yf X.prog X.w)).is s.heap ks b:=by obtain⟨a,r,⟨o,c,d,n,e⟩,_⟩:=I.tuple h;exact⟨o,a.toArray,n,c,d,e,by simpa using KR r⟩
def DZ(K:EE):R2:=λx y H Q=>∃a b c d v,x=.ref a/\y=.ref b/\Rd H a (.dT c)/\SqT K H b (d.map kV)/\Qy c d=some v/\Q v H
def tw(I:Inv X pins σ H s)(e:Rd H a (.dT kvs)):s.TypeIs (.ref a) "dict":=by obtain⟨z,h,i,d,o,f,g,b,c,j⟩:=KU I.hok e;exact⟨o,b,c.1⟩
def nJ(E:X.A.units+1<cLine):IxR X (DZ X.K):=by
 intro f d pins s σ H x y v u Q I L D h K;obtain⟨a,b,J,n,B,rfl,rfl,e,C,l,q⟩:=h;cases L;cases(show u=Value.ref b from D);have w:=tw I e;unfold subscriptTail;refine f8 ?_;rw[a2l w.not_modules];refine f8 (a0U w PySem.F.slot_dict_getitem.lookup ?_);have c:wpAny (Fg X) X.A (subscripted d false (.ref a) (.ref b)) (λr g=>wpAny (Fg X) X.A (letTemporaryGo f (.ref a) r >>= λ_=>pure r) (EP X pins σ Q) X.xe g) X.xe s:=by rw[K];obtain⟨z,N,F,j,G⟩:=KU I.hok e;obtain⟨M,A,m⟩:=JF.some_of (v:=B) (o:=(atKey F n).map (·.2)) (by rw[<- l];exact j.val n);obtain⟨p,hp,i⟩:=u8.mp A;refine wpAny_operating (a2U (P5 E) (iz I C) G hp ?_);rw[i];exact f8 (a2u (v4 ⟨_,H,I.tok _,m,q⟩))
 first
  |exact v4 (f8 c)
  |exact f8 (v4 (f8 c))
  |exact f8 c
end
def Cy:PV->PV->Out PV
 |.dt a,.t b=>match pk2 b with
  |some c=>vk ((zr a c).map PV.i)
  |none=>.wall
 |_,_=>.wall
def U3(h:yc W M H xs vs)(a:pk2 xs=some ks):vs=ks.map kV:=by
 match xs,a with
 |[x,y],a=>obtain⟨i,b,a⟩:=F5.mp a;obtain⟨j,d,a⟩:=F5.mp a;cases a;obtain⟨v,r,rfl,g,u,f,rfl,c,e⟩:=h;cases(show f=[]from e);rw[QC (yj.iff.mpr g) b,QC (yj.iff.mpr c) d];rfl
def AF(s:X.A.units+1<cLine)(F:EM X C S w1 a m1)(j:EM X C S w2 b m2)(G:Y_ b:=by intro _ _;rfl):EM X C S false (.Subscript a b pos) (mOp Cy m1 m2):=λd=>by
 obtain⟨W,K,l⟩:=F d;obtain⟨U,E,g⟩:=j d;refine⟨_,my (nJ s) K E G,λB P H e f R Q q=>l B P H e f R _ (zI q λx v N M r D=>g B P N e f (R.keep M) _ (zI D λy u T s2 h c=>?_))⟩;unfold Cy at c;split at c
 .split at c
  .rename_i i o;obtain⟨y,J,I⟩:=qr c;obtain⟨n,w,rfl⟩:=u8.mp J;obtain⟨p,rfl,_,m⟩:=r.weak;obtain⟨z,O,rfl,L,A⟩:=h.weak;cases U3 A o;exact⟨p,z,_,i,.int n,rfl,rfl,Vy s2 m,by rw[d];exact L,by rw[Vz,w];rfl,I _ _ (zz.refl _) (RV.of rfl)⟩
  .exact c.elim
 .exact c.elim
def AG(K:EE):R2:=λx y H Q=>∃a b c d,x=.ref b/\y=.ref a/\Rd H a (.dT c)/\SqT K H b (d.map kV)/\Q (.bl (!(Qy c d).isSome)) H
def tD(n:X.A.units+1<cLine):OpR X (compareOp .NotIn) (AG X.K):=by intro g s r H x y v u Q I p l h;obtain⟨a,b,d,f,rfl,rfl,e,j,q⟩:=h;cases(show v=Value.ref b from p);cases(show u=Value.ref a from l);obtain⟨z,m,w,c,o⟩:=KU I.hok e;refine wpAny_notIn_heap (P5 n) (iz I j) m o ?_;have i:=(c.val f).wa;rw[O1]at i;rw[<- i];exact⟨.bl (!(Qy d f).isSome),H,I.tok _,rfl,q⟩
def iA:PV->PV->Out PV
 |.t b,.dt a=>match pk2 b with
  |some c=>.ok (.b (!(zr a c).isSome))
  |none=>.wall
 |_,_=>.wall
def tE{e b:TE}{K:EE}(r:K=C.W.K)(s:LE C S w1 e m1)(h:LE C S w2 b m2):LE C S false (tOp (AG K) e b) (mOp iA m1 m2):=λB P H c d R Q q=>s B P H c d R _ (zI q λx v A w l o=>h B P A c d (R.keep w) _ (zI o λy u E s2 f a=>by
 unfold iA at a;split at a
 .split at a
  .rename_i g i;obtain⟨p,rfl,_,j⟩:=f.weak;obtain⟨z,D,rfl,m,n⟩:=l.weak;cases U3 n i;exact⟨p,z,_,g,rfl,rfl,j,by rw[r];exact m.same s2,by rw[Vz,O1];exact a _ _ (zz.refl _) (RV.of rfl)⟩
  .exact a.elim
 .exact a.elim))
def iB(f:X.A.units+1<cLine)(g:EM X C S w1 a m1)(i:EM X C S w2 b m2)(h:behindInMarks .NotIn b=false:=by with_unfolding_all rfl):TM X C S (.Compare a [.NotIn] [b] pos) (zB (mOp iA m1 m2)):=λc=>by obtain⟨n,j,l⟩:=g c;obtain⟨m,d,e⟩:=i c;exact⟨_,Xk (tD f) j d h,K2 (tE c l e)⟩
abbrev Cx.up(X:Cx):Cx:={ X with m:=1 }
section
variable {X:Cx}{pins:D_}{σ:St}{H:Hp}{s:Ef}
def Cx.Ok.up(o:X.Ok):X.up.Ok:=⟨o.mod,o.kind,o.glob,o.blt,o.above,o.inj,o.has,o.cab,o.hd,o.frames,o.stk,o.exf,o.bs,o.bsz,o.uf,o.ug,o.aS,o.frf⟩
def Cx.Ok.down(o:X.up.Ok):X.Ok:=⟨o.mod,o.kind,o.glob,o.blt,o.above,o.inj,o.has,o.cab,o.hd,o.frames,o.stk,o.exf,o.bs,o.bsz,o.uf,o.ug,o.aS,o.frf⟩
def Inv.up(I:Inv X pins σ H s)(h:1<=s.toks):Inv X.up pins σ H s:=⟨I.ok.up,I.os,I.bare,I.base,I.loc,I.cell,I.free,I.QZ,I.pin,I.hok,I.len,h⟩
def Inv.down(I:Inv X.up pins σ H s)(a:X.m<=1):Inv X pins σ H s:=⟨I.ok.down,I.os,I.bare,I.base,I.loc,I.cell,I.free,I.QZ,I.pin,I.hok,I.len,F2 a I.tk⟩
def SP.down(c:X.m<=1)(h:SP X.up pins D f s):SP X pins D f s:=by
 cases f with
 |ret u=>obtain⟨v,a,b,I,r,q⟩:=h;exact⟨v,a,b,I.down c,r,q⟩
 |next=>obtain⟨a,b,I,q⟩:=h;exact⟨a,b,I.down c,q⟩
 |brk=>obtain⟨a,b,I,q⟩:=h;exact⟨a,b,I.down c,q⟩
 |cont=>obtain⟨a,b,I,q⟩:=h;exact⟨a,b,I.down c,q⟩
def yy(h:Passes CX X E)(a:X.m<=1:=by exact M7 _):Passes CX X.up E:=λpins σ H s e b I c d=>h pins σ H s e b (I.down a) c (F2 a d)
end
structure eO(P:Eo)(w:Es)(K:Ej)(mg:Ed)(base:Heap)(CX:CXT)(k:Nat)(f:Addr)(fd:Eu)(ps:Ea)(sp:Sp):Prop where
 len:∀vs H Q E,sp vs H Q E->vs.length=ps.length
 run:∀(A:Ey)(outer:List Env)(s:Ef)(H:Hp)(args:Args)(us:El)(vs:En) (Q:VK) (E:XK),1<=s.toks->vC k A->oJ P w K mg base A outer s H->BindsTo s fd args (ps.zip us)->Vals vs us->sp vs H Q E->
  codeAny (model P w) A (.call (.ref f) args) (CR CX outer P w H s Q E) s
section
variable {P:Eo}{w:Es}{K:Ej}{mg:Ed}{base:Heap}
def AI{k:Nat}{f:Addr}{name c:Str}{h:Arguments}{i:EC}{a:Scope}{U kV z O g ct oc:Value}{T od:EH}
  {G:Ez}{N C:Ea}{sp:Sp}(lk:K.lookup f=some ⟨oc,od,.func (PySem.W.fnOf name c h i a U kV z O T g ct),G⟩) (D:PySem.W.codeIn K g c=true) (S:zy N C a)
  (len:∀j H Q E,sp j H Q E->j.length=C.length)
  (X:∀(A:Ey)(d:List Env)(s:Ef)(H:Hp)(j:En)(Q:VK)(E:XK),vC k (A.deeper (envOfC c a s.heap.objs.size f g))->sp j H Q E->
   ∃t,PSs (thr (aI (CXe P w) P w K mg base N c a f g A d s H E) E).up i t/\t { nx:=λ_ B=>Q .non B,rt:=Q } (start N j) H):
  eO P w K mg base (CXe P w) (k+1) f (PySem.W.fnOf name c h i a U kV z O T g ct) C sp:=by
 refine⟨len,λA d s H args us j Q E M L p hb r hsp=>?_⟩;have Z:=len _ _ _ _ hsp;have R:K.In s.heap:=p.mod.kin.keeps λb o e=>(p.bs b o e).1;have l:∀y∈C.zip us,a.names.lookup y.1=some .local\/(a.names.lookup y.1=some .cell/\((cellsFrom (s.heap.objs.size+1) a.names []).lookup y.1).isSome=true):=λ⟨n,v⟩ hy=>by
  rcases S.par n (a1c hy).1 with q|q
  .exact .inl q
  .exact .inr ⟨q,a04 _ _ _ (.inl q)⟩
 refine a2f L.depth (R _ _ lk) rfl S.co S.gen rfl (a2R R D) (hb _ _ _ _ ?_);refine N5 (n:=1) M (a1t S.kind l λW Y s1 x h1=>?_);subst Y;refine⟨(p.mod.nolimit.keeps λb o e=>(p.bs b o e).1).keeps x.toInCall.keep,codeAny_func ?_⟩;obtain⟨t,M,hq⟩:=X A d s H j Q E (L.deeper _) hsp;have I:=((Uu (CX:=CXe P w) (E:=E) (f:=f) (cd:=g) S L.hd p Z r x).Ui (Bb (aI (CXe P w) P w K mg base N c a f g A d s H E) E)).up h1;refine S0 (M [] s1 (start N j) H _ I hq) (λfl s' m=>?_) λe s' m=>oR m;cases fl with
 |ret u=>obtain⟨v,F,B,J,rv,q⟩:=m;exact⟨v,B,J.os,J.bare,J.base,J.hok,rv,q⟩
 |next=>obtain⟨F,B,J,q⟩:=m;exact⟨V.non,B,J.os,J.bare,J.base,J.hok,rfl,q⟩
 |brk=>exact(m.choose_spec.choose_spec.2:False).elim
 |cont=>exact(m.choose_spec.choose_spec.2:False).elim
def U4{x b:Str}{st:ER}{f:Addr}{o:Eu}{N j:Ea}{k n:Nat}{W:RC}{fr:Bool}{ws:Ek}{ms:MS}{S' Sb Sc:Eb}(F:Fun K x b st f o)(S:zy N j (zj st))(I:K=W.K)(G:ws.length=j.length)(u:N.length=n)(X:ws.length<=n)
  (h:∀(d:Value)(A:Ey)(a:List Env)(s:Ef)(H:Hp)(E:XK),vC k (A.deeper (envOfC b (zj st) s.heap.objs.size f d))->SsM (thr (aI (CXe P w) P w K mg base N b (zj st) f d A a s H E) E).up ⟨W,E,fr⟩ (Qc ws n) S' Sb Sc (vE st) ms):
  eO P w K mg base (CXe P w) (k+1) f o j (lsp W fr ws (ZA fr n ms)):=by
 subst u;obtain⟨oc,od,kV,O,pm,an,d,ct,osl,rfl,U,i⟩:=F.ex;refine AI U i S (gq G) λA a s H vs Q E L ⟨M,m,ha,q⟩=>?_;obtain⟨B,R,t2⟩:=h d A a s H E L I;refine⟨B,R,t2 (lT H M) _ H _ _ (UR ha X) _ ?_⟩;unfold ZA at q;revert q;cases ms (m.map some++List.replicate (N.length-m.length) none)with
 |exc c fs=>exact λq e C Z p s Y D h3=>q e C Z p s Y D h3
 |wall=>exact id
 |ok T=>
  cases T with
  |nx g=>
   intro q P' l z J;cases fr with
   |true=>exact q.elim
   |false=>exact q .non l J.same rfl
  |rt y=>exact λq v l s r=>q v l s r
  |bk g=>exact λq=>q.elim
  |ct g=>exact λq=>q.elim
end
section
variable {X:Cx}{CX:CXT}{C:LC}{S S1 S' Sb Sc:Eb}{k i:Nat}{f:Addr}{fd:Eu}{ps:Ea}{sp:Sp}{E:XK}{x:Str}{p pos qH jt py pz:Pos}{e a b o:Eh}{es:Eg}{ta:TE}{t:TA}{fr w w1 w2:Bool}{ws:Ek}{g:Ep}{m m1 m2:ME}{ms:MA}
def tF(F:eO X.prog X.w X.K X.mg X.base CX k f fd ps sp)(z:1<=X.m)(D:vC k X.A)(hb:Binds X.K fd ps [])(A:Passes CX X E)
  (I:Inv X pins σ H s) (r:Vals l d) (h:sp l H Q E):wpAny (Fg X) X.A (call (.ref f) d) (EP X pins σ Q) X.xe s:=by
 have q:=hb s d I.kIn (by rw[M5,<- r.length];exact F.len _ _ _ _ h);rw[M5]at q;refine a0K (a1y (n:=X.m) I.tk<|a0D (F.run X.A X.stack s H ⟨d,[]⟩ d l Q E (F2 z I.tk) D I.Ba q r h) λr y c B=>?_);cases r with
 |error e=>exact A pins σ H s e y I c B
 |ok v=>
  cases v with
  |ret u=>exact I.after c
  |next=>exact False.elim c
  |brk=>exact False.elim c
  |cont=>exact False.elim c
def vn(F:eO X.prog X.w X.K X.mg X.base (CXe X.prog X.w) k f fd ps (lsp C.W fr ws g))(T:1<=X.m)(J:vC k X.A)(L:Gl X x)(W:X.mg x=some (.ref f))(G:keepIn X.K (.ref f)=true)(hb:Binds X.K fd ps [])(U:Passes (CXe X.prog X.w) X C.E)(Z:AM X C S ws (e::es) ms)
  (n:(x==("__debug__":Str))=false:=by decide) (he:starEach (e::es) X.env=(false,eval e X.env)::starEach es X.env:=by rfl) (u:(backTo pos (starEach es X.env)).any (·.1)=false:=by rfl):EM X C S false (.Call (.Name x p) (e::es) [] pos) (zh g ms):=λO=>by
 obtain⟨ta,Y,D⟩:=Z O;refine⟨λc H Q=>ta c H λl v=>lsp C.W fr ws g l v Q C.E,λd s c H Q I h=>?_,λB P H c A R Q q=>D B P H c A R _ (yK q λM l v z K N=>⟨_,M,K.args,cJ (R.keep z) N⟩)⟩;refine O9 (Jb I L W ?_ n);refine T5 (h₀:=X.base) I.ok.mod.kin G (thn (Y pos d s c H _ I h) λus z ⟨l,v,y,r,q⟩=>⟨y.kIn,?_⟩) he u;exact tF F T J hb U y r q
def PEm(X:Cx)(e:Eh)(t:TE):Prop:=
 ∀(c:D_)(s:Ef)(d:St)(H:Hp)(Q:VK),Inv X c d H s->t d H Q->wpAny (Fg X) X.A (eval e X.env) (λv h=>1<=h.toks/\EP X c d Q v h) X.xe s
def PAm(X:Cx)(es:Eg)(t:TA):Prop:=
 ∀(pos:Pos)(c:D_)(s:Ef)(d:St)(H:Hp)(Q:List V->Hp->Prop),Inv X c d H s->t d H Q->wpAny (Fg X) X.A (spliced (backTo pos (starEach es X.env))) (λv h=>1<=h.toks/\AP X c d Q v h) X.xe s
def EMm(X:Cx)(C:LC)(S:Eb)(w:Bool)(e:Eh)(m:ME):Prop:=X.K=C.W.K->∃c,PEm X e c/\LE C S w c m
def AMm(X:Cx)(C:LC)(S:Eb)(ws:Ek)(es:Eg)(m:MA):Prop:=X.K=C.W.K->∃ta,PAm X es ta/\LA C S ws ta m
def SMm(X:Cx)(C:LC)(S S' Sb Sc:Eb)(st:ER)(m:MS):Prop:=X.K=C.W.K->∃d,(∀(c:D_)(s:Ef)(h:St)(H:Hp)(D:Ends),Inv X c h H s->d D h H->wpAny (Fg X) X.A (exec st X.env) (λf l=>1<=l.toks/\SP X c D f l) X.xe s)/\LS C S S' Sb Sc d m
def EMm.weak(h:EMm X C S w e m):EMm X C S true e m:=λD=>by
 obtain⟨A,u,y⟩:=h D;refine⟨A,u,λB P H n d R Q q=>y B P H n d R Q ?_⟩;revert q;cases m d with
 |ok r=>exact λq v l s z=>q v l s (by unfold RV;rw[if_pos rfl];exact z.weak)
 |exc c fs=>exact id
 |wall=>exact id
def nK:EMm X C S false (.Constant (.int n) jj pos) (mC (.i n)):=λ_=>
 ⟨tC (.int n),λ_ _ _ H _ I h=>a2N ⟨Nat.le_add_left 1 _,.int n,H,I.tok _,⟨_,rfl⟩,h⟩,λB P H c d R Q q=>(show zK C B H (RV C B S P false) Q (.ok (.i n))from q) (.int n) H (zz.refl _) (RV.of rfl)⟩
def iC(A:LE C S w te m)(y:LA C S ws t ms):LA C S (w::ws) (uV te t) (zb m ms):=λB P H u l R Q q=>A B P H u l R _ (WY (T:=λH o=>Xu C B H (λd=>RVs C B S P d (w::ws)) Q o) (λ_ _ _ s h=>K7 s h) (λ_ _ h=>h) (λh=>h) q λx v I G D n=>by
 refine y B P I u l (R.keep G) _ ?_;revert n;cases ms l with
 |ok F=>exact λn r d s2 z=>n (v::r) d s2 ⟨x,v,F,r,rfl,rfl,D.same s2,z⟩
 |exc c fs=>exact id
 |wall=>exact id)
def tG(h:EMm X C S w e m)(B:AM X C S ws es ms)(K:starEach (e::es) X.env=(false,eval e X.env)::starEach es X.env:=by rfl):AMm X C S (w::ws) (e::es) (zb m ms):=λn=>by obtain⟨P,M,A⟩:=h n;obtain⟨ta,J,r⟩:=B n;refine⟨_,λpos c s l H Q I h=>?_,iC A r⟩;rw[K];show wpAny _ _ (spliced ((false,eval e X.env)::backTo pos (starEach es X.env))) _ _ s;refine N6 (thn (M c s l H _ I h) λu N ⟨d,x,O,z,D,G⟩=>?_);exact xu d (J pos c N l O _ z G) λR s2 d ⟨F,q,L,v,y⟩=>⟨d,x::F,q,L,.cons D v,y⟩
def tH(h:EM X C S w e m)(A:AMm X C S ws es ms)(K:starEach (e::es) X.env=(false,eval e X.env)::starEach es X.env:=by rfl):AMm X C S (w::ws) (e::es) (zb m ms):=λl=>by obtain⟨P,M,z⟩:=h l;obtain⟨ta,J,q⟩:=A l;refine⟨_,λpos c s d H Q I h=>?_,iC z q⟩;rw[K];show wpAny _ _ (spliced ((false,eval e X.env)::backTo pos (starEach es X.env))) _ _ s;refine N6 (thn (M c s d H _ I h) λu N ⟨x,O,y,B,G⟩=>?_);exact thn (J pos c N d O _ y G) λR s2 ⟨D,F,n,L,r,v⟩=>⟨D,x::F,n,L,.cons B r,v⟩
def iD(F:qV X.prog X.w X.K X.mg X.base (CXe X.prog X.w) k f fd ps (lsp C.W fr ws g))(M:vC k X.A)(O:Gl X x)(hm:X.mg x=some (.ref f))(L:keepIn X.K (.ref f)=true)(hb:Binds X.K fd ps [])(Z:Passes (CXe X.prog X.w) X C.E)(ha:AMm X C S ws (e::es) ms)
  (l:(x==("__debug__":Str))=false:=by decide) (he:starEach (e::es) X.env=(false,eval e X.env)::starEach es X.env:=by rfl) (u:(backTo pos (starEach es X.env)).any (·.1)=false:=by rfl):EMm X C S false (.Call (.Name x p) (e::es) [] pos) (zh g ms):=λY=>by
 obtain⟨ta,a1,K⟩:=ha Y;refine⟨_,λc s n H Q I h=>?_,λB P H n G R Q q=>K B P H n G R (λd y=>lsp C.W fr ws g (d++[]) y Q C.E) (yK q λT d y A N W=>by rw[M5];exact⟨_,T,N.args,cJ (R.keep A) W⟩)⟩;refine O9 (Jb I O hm ?_ l);refine T5 (h₀:=X.base) I.ok.mod.kin L (thn (a1 pos c s n H _ I h) λus A ⟨U,d,y,z,r,q⟩=>⟨z.kIn,?_⟩) he u;exact xu U (fD F M hb .nil Z z r q) λv s2 J D=>⟨J,D⟩
def tI(J:X.A.units+1<cLine)(N:EM X C S w1 a m1)(D:EMm X C S w2 b m2)(O:Y_ b:=by intro _ _;rfl):EMm X C S false (.Subscript a b pos) (mOp pIx m1 m2):=λd=>by obtain⟨ta,T,F⟩:=N d;obtain⟨Z,M,r⟩:=D d;have n:=(fH (X:=X)).or (Xw (X:=X) J);refine⟨_,λc s l H Q I h=>?_,f7 (by rw[d]at n;exact rT) F r⟩;refine Subscript_ (thn (T c s l H _ I h) λv W ⟨x,Y,B,G,L⟩=>thn (M c W l Y _ B L) λu s2 ⟨K,y,q,P,z,A⟩=>?_);exact xu K (n a b c s2 l q x y v u Q P G z (by rw[d];exact A) (O _ _)) λv s3 U R=>⟨U,R⟩
def nM(d:X.N.Nodup)(h:EMm X C S false e m)(z:X.N[i]?=some x:=by rfl)(K:Loc X.env.scope x:=by exact .inl rfl)(J:swapsWith e (some (.Name x pos')) pos.line X.env=pure false:=by rfl)(hf:X.fn x=true\/X.env.scope.names.lookup x=some .local:=by first|exact .inl rfl|exact .inr rfl|assumption):
  SMm X C S (S.set i 0) Sb Sc (.Assign [.Name x pos'] e pos) (qu i m):=λG=>by
 obtain⟨O,M,u⟩:=h G;refine⟨_,λc s n H D I h=>?_,gC u⟩;refine wpAny_Assign_Name (thn (M c s n H _ I h) λv P ⟨B,y,N,q,A,F⟩=>?_) J;exact xu B (Kp q d z K A (Q:=λ_ s2=>SP X c D .next s2) (λs2 L=>⟨_,N,L,F⟩) hf) λ_ s2 r l=>⟨r,l⟩
def Cz{st:ER}{d:EC}{l s2:MS}(L:SMm X C S S1 Sb Sc st l)(A:SsM X.up C S1 S' Sb Sc d s2)(M:X.m<=1:=by exact M7 _):SsM X C S S' Sb Sc (st::d) (zZ l s2):=λr=>by
 obtain⟨t,N,B⟩:=L r;obtain⟨u,K,y⟩:=A r;refine⟨_,λc s z H D I h=>?_,oY B y⟩;refine a1M (thn (N c s z H { D with nx:=u D } I h) λf l ⟨G,q⟩=>?_);cases f with
 |next=>obtain⟨n,F,J,q⟩:=q;exact thn (K c l n F D (J.up G) q) λ_ _ q=>q.down M
 |ret v=>exact q
 |brk=>exact q
 |cont=>exact q
def U5(y z:Str)(m:ME):ME:=λc=>(m c).bind λx=>match x with
 |.s w=>if(y==z)=false/\w.length+(w.length+1)*z.length<=16777216 then .ok (.s (Txt.replace w y z))else .wall
 |_=>.wall
def tJ(L:1<=X.m)(u:EM X C S w o m)
  (N:attributeBase o "replace" X.env (eval o X.env)=eval o X.env:=by rfl)
  (F:((backTo jt (starEach [.Constant (.str y) jy py,.Constant (.str z) jz pz] X.env)).all (λx=>!x.1)&&(backToKw jt (keywordEach [] X.env)).all (λx=>x.1.isSome)
   && decide (([.Constant (.str y) jy py,.Constant (.str z) jz pz]:List Expr).length+([]:List Keyword).length+(if([]:List Keyword).isEmpty then 0 else 1)<30))=true:=by rfl)
  (J:(qH.endLine==jt.line)=true:=by rfl):EM X C S false (.Call (.Attribute o "replace" qH) [.Constant (.str y) jy py,.Constant (.str z) jz pz] [] jt) (U5 y z m):=λK=>by
 obtain⟨O,M,A⟩:=u K;refine⟨_,λd s l H Q I h=>bb M N F J d s l H Q (F2 L I.tk) I h,λB P H l n R Q q=>A B P H l n R _ ?_⟩;unfold U5 at q;revert q;cases m n with
 |exc c fs=>exact id
 |wall=>exact id
 |ok x=>
  intro q v D G r;cases x with
  |s w=>
   have ev:v=V.str w:=r.weak;by_cases h:(y==z)=false/\w.length+(w.length+1)*z.length<=16777216
   .have q:zK C B H (RV C B S P false) Q (if(y==z)=false/\w.length+(w.length+1)*z.length<=16777216 then Out.ok (PV.s (Txt.replace w y z))else .wall):=q;rw[if_pos h]at q;exact⟨w,ev,h.1,h.2,q _ D G (RV.of rfl)⟩
   .have q:zK C B H (RV C B S P false) Q (if(y==z)=false/\w.length+(w.length+1)*z.length<=16777216 then Out.ok (PV.s (Txt.replace w y z))else .wall):=q;rw[if_neg h]at q;exact q.elim
  |_=>exact(show False from q).elim
end
abbrev IsZ(h:Heap)(z TI TO:Addr)(f0:Value)(b:Bool):Prop:=
 h.get? z=some { cls:=.type "zip",dict:=none,data:=.fields #[f0,.bool b,.bool false,.ref TI,.ref TO],slots:=#[] }
def pM(a:Value):Prop:=a=.none\/∃b:Nat,a=rawInt b
section
variable {prog:Eo}{w:Es}{A:Ey}{E:Ec}{s:Ef}{z TI TO i1 i2 l1 l2:Addr}{k:Nat}{xs ys:EA}{x y a c f0:Value}{b:Bool}
def iE(hz:IsZ s.heap z TI TO f0 b)(hf:pM f0)(f:Q true s)(i:∀e,IsZ e z TI TO f0 true->e.objs.size=s.heap.objs.size->Heap.ExtBut z s.heap e->Q false { s with heap:=e }):wpAny (model prog w) A (Builtin.SmallTypes.ownedTupleIsFree (.ref z)) Q E s:=by
 unfold Builtin.SmallTypes.ownedTupleIsFree;rcases hf with rfl|⟨d,rfl⟩
 .exact f8 (M9 hz rfl (x:=.none) rfl (v4 f))
 .refine f8 (M9 hz rfl (x:=.int d 0) rfl ?_);show wpAny _ _ (loadIfAlive ((d:Int)).toNat >>= _) _ _ s;have l:∀{Q:Option Obj->Shared->Prop},Q (s.heap.get? d) s->wpAny (model prog w) A (loadIfAlive ((d:Int)).toNat) Q E s:=λh n p _=>by rw[a1C];exact h
  refine f8 (l ?_);cases s.heap.get? d with
  |none=>exact v4 f
  |some o=>
   show wpAny _ _ (field (.ref z) 1 >>= _) _ _ s;refine f8 (M9 hz rfl (x:=.bool b) rfl ?_);cases b with
   |true=>exact v4 (i s.heap hz rfl (Heap.SameBut.refl _ _).extBut)
   |false=>exact f8 (S6 hz (by simp) λg m j=>v4 (i g m j.1 j.extBut))
def iF{Q:Ec}(D:ZipApart z TI TO i1 i2 l1 l2)(hz:IsZ s.heap z TI TO f0 b)(hf:pM f0)(hTI:IsPair s.heap TI (.ref i1) (.ref i2))(hTO:IsPair s.heap TO a c)(h1:s.heap.IsListIter i1 l1 k)(h2:s.heap.IsListIter i2 l2 k)(p1:s.heap.IsList l1 xs)(p2:s.heap.IsList l2 ys)(hx:xs[k]?=some x)(hy:ys[k]?=some y)
  (hQ:∀h' g0 gb,IsZ h' z TI TO g0 gb->pM g0->(∃a c,IsPair h' TO a c)->h'.IsListIter i1 l1 (k+1)->h'.IsListIter i2 l2 (k+1)->IsPair h' s.heap.objs.size x y->(∀c o,c≠z->c≠TO->c≠i1->c≠i2->s.heap.get? c=some o->h'.get? c=some o)->Q (.ref s.heap.objs.size) { s with heap:=h' }):
  wpAny (model prog w) A (Builtin.«zip.__next__» ⟨[.ref z],[]⟩) (λfin s'=>∃v,fin=.done (.ret v)/\Q v s') E s:=by
 refine f8 (m:=field (.ref z) 2) (M9 hz rfl (x:=.bool false) rfl ?_);refine f8 (m:=field (.ref z) 3) (M9 hz rfl (x:=.ref TI) rfl (f8 (T3 hTI rfl ?_)));refine f8 (m:=Builtin.SmallTypes.ownedTupleIsFree (.ref z)) (iE hz hf ?_ λg0 z0 sz0 x0=>?_)
 .simp only[if_true];refine f8 (a1J (f8 (M9 hz rfl (x:=.ref TO) rfl (f8 (S6 hz (by simp) λg1 z1 e1=>f8 ?_)))));replace z1:IsZ g1 z TI TO .ellipsis b:=z1;simp only[List.zipIdx_cons,List.zipIdx_nil,List.forIn_cons,List.forIn_nil];have x1:=e1.extBut;refine f8 (f8 (a06 (f8 (m:=Builtin.SmallTypes.nextOf (.ref i1)) (R9 (h1.extBut x1 D.i1z) (p1.extBut x1 D.l1z) hx λg2 n1 e2=>v4 ?_))));have x2:=e2.extBut;have t2:IsPair g2 TO a c:=x2 _ _ D.TOi1 (x1 _ _ D.TOz hTO);refine f8 (T3 t2 rfl (f8 (a1h t2 λg3 t3 e3=>f8 (a1p (v4 ?_)))));replace t3:IsPair g3 TO x c:=t3;have x3:=e3.extBut;refine f8 (f8 (a06 (f8 (m:=Builtin.SmallTypes.nextOf (.ref i2)) (R9 (((h2.extBut x1 D.i2z).extBut x2 D.i12.symm).extBut x3 D.TOi2.symm) (((p2.extBut x1 D.l2z).extBut x2 D.l2i1).extBut x3 D.l2TO) hy λg4 n2 e4=>v4 ?_))));have x4:=e4.extBut;have t4:IsPair g4 TO x c:=x4 _ _ D.TOi2 t3;refine f8 (T3 t4 rfl (f8 (a1h t4 λg5 t5 e5=>f8 (a1p (v4 (v4 ?_))))));replace t5:IsPair g5 TO x y:=t5;have x5:=e5.extBut;refine f8 (T3 t5 rfl (f8 (wpAny_newTuple ?_)));have sz:g5.objs.size=s.heap.objs.size:=by rw[e5.1,e4.1,e3.1,e2.1,e1.1]
  have z5:IsZ g5 z TI TO .ellipsis b:=x5 _ _ D.TOz.symm (x4 _ _ D.i2z.symm (x3 _ _ D.TOz.symm (x2 _ _ D.i1z.symm z1)));have lz:z<g5.objs.size:=D9 z5;refine f8 (m:=Builtin.SmallTypes.ownedTupleHandOut (.ref z) (.ref g5.objs.size)) ?_;unfold Builtin.SmallTypes.ownedTupleHandOut;have z6:IsZ (g5.push { cls:=.type "tuple",data:=.seq #[x,y] }) z TI TO .ellipsis b:=D2 _ z5;refine f8 (S6 z6 (by simp) λg7 z7 e7=>S6 (show IsZ g7 z TI TO (rawInt g5.objs.size) b from z7) (by simp) λg8 z8 e8=>?_);replace z8:IsZ g8 z TI TO (rawInt g5.objs.size) false:=z8;have up:∀c o,c≠z->g5.get? c=some o->g8.get? c=some o:=λc o c1 e=>e8.extBut _ _ c1 (e7.extBut _ _ c1 (D2 _ e));have T8:IsPair g8 g5.objs.size x y:=e8.extBut _ _ (P4 lz) (e7.extBut _ _ (P4 lz) (F8 _ rfl));rw[sz]at z8 T8;refine v4 ⟨_,rfl,?_⟩;rw[sz];exact hQ g8 _ _ z8 (.inr ⟨_,rfl⟩) ⟨_,_,up _ _ D.TOz t5⟩ ((((n1.extBut x3 D.TOi1.symm).extBut x4 D.i12).extBut x5 D.TOi1.symm).at λo e=>up _ o D.i1z e) ((n2.extBut x5 D.TOi2.symm).at λo e=>up _ o D.i2z e) T8 λc o c1 c2 c3 c4 e=>up c o c1 (x5 _ _ c2 (x4 _ _ c4 (x3 _ _ c2 (x2 _ _ c3 (x1 _ _ c1 e)))))
 .simp only[Bool.false_eq_true,if_false,List.forIn_toArray,List.forIn_cons,List.forIn_nil];refine f8 (f8 (f8 (L8 (f8 (m:=Builtin.SmallTypes.nextOf (.ref i1)) (R9 (h1.extBut x0 D.i1z) (p1.extBut x0 D.l1z) hx λg2 n1 e2=>v4 (v4 ?_))))));have x2:=e2.extBut;refine f8 (f8 (L8 (f8 (m:=Builtin.SmallTypes.nextOf (.ref i2)) (R9 ((h2.extBut x0 D.i2z).extBut x2 D.i12.symm) ((p2.extBut x0 D.l2z).extBut x2 D.l2i1) hy λg4 n2 e4=>v4 (v4 (v4 ?_))))));have x4:=e4.extBut;refine f8 (wpAny_newTuple ?_ (show 2<=sizeLine by decide));have sz:g4.objs.size=s.heap.objs.size:=by rw[e4.1,e2.1,sz0]
  have up:∀c o,g4.get? c=some o->(g4.push { cls:=.type "tuple",data:=.seq #[x,y] }).get? c=some o:=λc o e=>D2 _ e;have T8:IsPair (g4.push { cls:=.type "tuple",data:=.seq #[x,y] }) g4.objs.size x y:=F8 _ rfl;rw[sz]at T8;refine v4 ⟨_,rfl,?_⟩;rw[sz];exact hQ _ _ _ (up _ _ (x4 _ _ D.i2z.symm (x2 _ _ D.i1z.symm z0))) hf ⟨_,_,up _ _ (x4 _ _ D.TOi2 (x2 _ _ D.TOi1 (x0 _ _ D.TOz hTO)))⟩ ((n1.extBut x4 D.i12).at λo e=>up _ o e) (n2.at λo e=>up _ o e) T8 λc o c1 c2 c3 c4 e=>up _ _ (x4 _ _ c4 (x2 _ _ c3 (x0 _ _ c1 e)))
def iG(hh:A.handled=none)(D:ZipApart z TI TO i1 i2 l1 l2)(hz:IsZ s.heap z TI TO f0 b)(hf:pM f0)(hTI:IsPair s.heap TI (.ref i1) (.ref i2))(hTO:IsPair s.heap TO a c)(h1:s.heap.IsListIter i1 l1 k)(h2:s.heap.IsListIter i2 l2 k)(p1:s.heap.IsList l1 xs)(p2:s.heap.IsList l2 ys)(hend:xs[k]?=none\/ys[k]?=none)
  (hE:∀h' e,(∀c o,c≠z->c≠TO->c≠i1->c≠i2->s.heap.get? c=some o->h'.get? c=some o)->(∃o,h'.get? e=some o/\o.cls=.type "StopIteration")->E (.ref e) { s with heap:=h' }):
  wpAny (model prog w) A (Builtin.«zip.__next__» ⟨[.ref z],[]⟩) Q E s:=by
 refine f8 (m:=field (.ref z) 2) (M9 hz rfl (x:=.bool false) rfl ?_);refine f8 (m:=field (.ref z) 3) (M9 hz rfl (x:=.ref TI) rfl (f8 (T3 hTI rfl ?_)));refine f8 (m:=Builtin.SmallTypes.ownedTupleIsFree (.ref z)) (iE hz hf ?_ λg0 z0 sz0 x0=>?_)
 .simp only[if_true];refine f8 (a1J (f8 (M9 hz rfl (x:=.ref TO) rfl (f8 (S6 hz (by simp) λg1 z1 e1=>f8 ?_)))));replace z1:IsZ g1 z TI TO .ellipsis b:=z1;simp only[List.zipIdx_cons,List.zipIdx_nil,List.forIn_cons,List.forIn_nil];have x1:=e1.extBut;have out:∀{g:Heap}{e:Addr},IsZ g z TI TO .ellipsis b->(∃o,g.get? e=some o/\o.cls=.type "StopIteration")->e≠z:=λhz ⟨o,ho,hc⟩ q=>by subst q;rw[hz]at ho;cases ho;simp at hc
  cases hx:xs[k]? with
  |none=>refine f8 (f8 (a06 (f8 (m:=Builtin.SmallTypes.nextOf (.ref i1)) (a0G hh (h1.extBut x1 D.i1z) (p1.extBut x1 D.l1z) hx λg2 e x2 he=>?_))));have z2:IsZ g2 z TI TO .ellipsis b:=x2 _ _ D.i1z.symm z1;have ne:=out z2 he;obtain⟨oe,hoe,hce⟩:=he;exact S6 z2 (by simp) λg3 _ e3=>hE g3 e (λc o c1 _ c3 _ q=>e3.extBut _ _ c1 (x2 _ _ c3 (x1 _ _ c1 q))) ⟨oe,e3.extBut _ _ ne hoe,hce⟩
  |some x=>have hy:=hend.resolve_left (by rw[hx];intro q;cases q);refine f8 (f8 (a06 (f8 (m:=Builtin.SmallTypes.nextOf (.ref i1)) (R9 (h1.extBut x1 D.i1z) (p1.extBut x1 D.l1z) hx λg2 n1 e2=>v4 ?_))));have x2:=e2.extBut;have t2:IsPair g2 TO a c:=x2 _ _ D.TOi1 (x1 _ _ D.TOz hTO);refine f8 (T3 t2 rfl (f8 (a1h t2 λg3 t3 e3=>f8 (a1p (v4 ?_)))));have x3:=e3.extBut;refine f8 (f8 (a06 (f8 (m:=Builtin.SmallTypes.nextOf (.ref i2)) (a0G hh (((h2.extBut x1 D.i2z).extBut x2 D.i12.symm).extBut x3 D.TOi2.symm) (((p2.extBut x1 D.l2z).extBut x2 D.l2i1).extBut x3 D.l2TO) hy λg4 e x4 he=>?_))));have z4:IsZ g4 z TI TO .ellipsis b:=x4 _ _ D.i2z.symm (x3 _ _ D.TOz.symm (x2 _ _ D.i1z.symm z1));have ne:=out z4 he;obtain⟨oe,hoe,hce⟩:=he;exact S6 z4 (by simp) λg5 _ e5=>hE g5 e (λc o c1 c2 c3 c4 q=>e5.extBut _ _ c1 (x4 _ _ c4 (x3 _ _ c2 (x2 _ _ c3 (x1 _ _ c1 q))))) ⟨oe,e5.extBut _ _ ne hoe,hce⟩
 .simp only[Bool.false_eq_true,if_false,List.forIn_toArray,List.forIn_cons,List.forIn_nil];cases hx:xs[k]? with
  |none=>exact f8 (f8 (f8 (L8 (f8 (m:=Builtin.SmallTypes.nextOf (.ref i1)) (a0G hh (h1.extBut x0 D.i1z) (p1.extBut x0 D.l1z) hx λg2 e x2 he=>hE g2 e (λc o c1 _ c3 _ q=>x2 _ _ c3 (x0 _ _ c1 q)) he)))))
  |some x=>have hy:=hend.resolve_left (by rw[hx];intro q;cases q);refine f8 (f8 (f8 (L8 (f8 (m:=Builtin.SmallTypes.nextOf (.ref i1)) (R9 (h1.extBut x0 D.i1z) (p1.extBut x0 D.l1z) hx λg2 n1 e2=>v4 (v4 ?_))))));have x2:=e2.extBut;exact f8 (f8 (L8 (f8 (m:=Builtin.SmallTypes.nextOf (.ref i2)) (a0G hh ((h2.extBut x0 D.i2z).extBut x2 D.i12.symm) ((p2.extBut x0 D.l2z).extBut x2 D.l2i1) hy λg4 e x4 he=>hE g4 e (λc o c1 _ c3 c4 q=>x4 _ _ c4 (x2 _ _ c3 (x0 _ _ c1 q))) he))))
def iH(D:ZipApart z TI TO i1 i2 l1 l2)(hz:IsZ s.heap z TI TO f0 b)(hf:pM f0)(h:IsPair s.heap TI (.ref i1) (.ref i2))(g:IsPair s.heap TO a c)(B:s.heap.IsListIter i1 l1 k)(m:s.heap.IsListIter i2 l2 k)(q:s.heap.IsList l1 xs)(u:s.heap.IsList l2 ys)(C:xs[k]?=some x)(G:ys[k]?=some y)
  (r:∀d e f,IsZ d z TI TO e f->pM e->(∃a c,IsPair d TO a c)->d.IsListIter i1 l1 (k+1)->d.IsListIter i2 l2 (k+1)->IsPair d s.heap.objs.size x y->(∀c o,c≠z->c≠TO->c≠i1->c≠i2->s.heap.get? c=some o->d.get? c=some o)->Q (some (.ref s.heap.objs.size)) { s with heap:=d }):
  wpAny (model prog w) A (pyNext (.ref z)) Q E s:=by
 have i:s.TypeIs (.ref z) "zip":=⟨_,hz,rfl⟩;unfold pyNext;exact f8 (a0P (wpAny_callSpecial?_slot (name:=Str.ofString "__next__") i a1i (a07 a1i i F.entry_zip_next (iF D hz hf h g B m q u C G λd e f H n j v l I p=>v4 (r d e f H n j v l I p)) (F.args_zip_next_1 _))))
def iI(l:A.handled=none)(D:ZipApart z TI TO i1 i2 l1 l2)(hz:IsZ s.heap z TI TO f0 b)(hf:pM f0)(i:IsPair s.heap TI (.ref i1) (.ref i2))(h:IsPair s.heap TO a c)(C:s.heap.IsListIter i1 l1 k)(p:s.heap.IsListIter i2 l2 k)(r:s.heap.IsList l1 xs)(B:s.heap.IsList l2 ys)(d:xs[k]?=none\/ys[k]?=none)
  (u:∀g,(∀c o,c≠z->c≠TO->c≠i1->c≠i2->s.heap.get? c=some o->g.get? c=some o)->Q none { s with heap:=g }):wpAny (model prog w) A (pyNext (.ref z)) Q E s:=by
 have j:s.TypeIs (.ref z) "zip":=⟨_,hz,rfl⟩;have f:A.in1.handled=none:=l;unfold pyNext;refine f8 (a0P (wpAny_callSpecial?_slot (name:=Str.ofString "__next__") j a1i (a07 a1i j F.entry_zip_next (iG f D hz hf i h C p r B d λg e q n=>?_) (F.args_zip_next_1 _))));obtain⟨o,m,v⟩:=n;exact f8 (a0p (T:="StopIteration") (b:=true) ⟨o,m,v⟩ isSubtype_stop (v4 (u _ q)))
end
section
variable {P:Eo}{w:Es}{K:EE}{nm:Str}{tp:Pos}
def iJ(z TI TO l m a b:Addr)(xs ys:En)(D:ZipApart z TI TO l m a b):Turn P w K (.Name nm tp) (Itw (min xs.length ys.length) (λH=>SqL K H a xs/\SqL K H b ys) (Bp xs ys)) [z,TI,TO,l,m] z (λi h=>i<=min xs.length ys.length/\(∃G g,IsZ h z TI TO G g/\pM G)/\IsPair h TI (.ref l) (.ref m)/\(∃a b,IsPair h TO a b)/\h.IsListIter l a i/\h.IsListIter m b i)where
 mem:=by simp
 obj:=λi h A c d=>by
  obtain⟨_,⟨_,_,q1,_⟩,U,⟨_,_,q3⟩,⟨o4,J,_,d4⟩,⟨o5,M,_,d5⟩⟩:=A;simp only[List.mem_cons,List.not_mem_nil,or_false]at d;rcases d with r|r|r|r|r<;>subst r
  .exact⟨_,q1,λv z=>by cases z⟩
  .exact⟨_,U,λv z=>by cases z⟩
  .exact⟨_,q3,λv z=>by cases z⟩
  .exact⟨o4,J,λv z=>by rw[d4]at z;cases z⟩
  .exact⟨o5,M,λv z=>by rw[d5]at z;cases z⟩
 keep:=λi h h' ⟨hi,⟨G,g,q1,q0⟩,U,⟨x,y,q3⟩,J,M⟩ k=>⟨hi,⟨G,g,k z (by simp) _ q1,q0⟩,k TI (by simp) _ U,⟨x,y,k TO (by simp) _ q3⟩,J.at λo e=>k l (by simp) o e,M.at λo e=>k m (by simp) o e⟩
 item:=by
  intro X hP T hK d i O s σ H E I hf A hg;subst hP T hK;obtain⟨hi,B,n⟩:=hg;obtain⟨L,rv,p,_⟩:=I.list B;obtain⟨N,C,p',_⟩:=I.list n;obtain⟨_,⟨G,g,hz,h0⟩,f,⟨u0,v0,j⟩,Q,S⟩:=A;have l1:i<xs.length:=by omega
  have l2:i<ys.length:=by omega
  obtain⟨u,hu,ru⟩:=rv.get (E5 l1);obtain⟨v,hv,W⟩:=C.get (E5 l2);refine iH D hz h0 f j Q S p.isList p'.isList (by rw[a0H];exact hu) (by rw[a0H];exact hv) λh' g0 gb z1 z0 o1 n1 n2 Y R=>?_;refine⟨_,rfl,v4 ?_⟩;have nT:∀c∈[z,TI,TO,l,m],c≠s.heap.objs.size:=λc d q=>by
   obtain⟨o,ho⟩:∃o,s.heap.get? c=some o:=by
    obtain⟨o4,J,_⟩:=Q;obtain⟨o5,M,_⟩:=S;simp only[List.mem_cons,List.not_mem_nil,or_false]at d;rcases d with r|r|r|r|r<;>subst r
    .exact⟨_,hz⟩
    .exact⟨_,f⟩
    .exact⟨_,j⟩
    .exact⟨_,J⟩
    .exact⟨_,M⟩
   exact absurd (D9 ho) (by rw[q];exact O3 _)
  refine⟨.ref s.heap.objs.size,upd H s.heap.objs.size (.tup (Bp xs ys i)),I.Cv (t':=s.toks) (ch:=[z,TO,l,m]) (λc d=>hf c (by simp only[List.mem_cons,List.not_mem_nil,or_false]at d ⊢;rcases d with r|r|r|r<;>simp[r])) (λc o d q=>?_) (D3 _) (s_ (show 2<=sizeLine by decide) (vals:=#[u,v]) (.cons ?_ (.cons ?_ .nil)) ⟨_,Y,rfl,_,rfl⟩),rfl,⟨s.heap.objs.size,rfl,I.hok.fresh (D3 _),rfl⟩,⟨by omega,⟨_,_,z1,z0⟩,R _ _ D.TIz D.TITO D.TIi1 D.TIi2 f,o1,n1,n2⟩,λc d=>by rw[zm (nT c d)];exact(hf c d).1⟩
  .simp only[List.mem_cons,List.not_mem_nil,or_false,not_or]at d;exact R _ _ d.1 d.2.1 d.2.2.1 d.2.2.2 q
  .rw[E5 l1];exact ru
  .rw[E5 l2];exact W
 done:=by
  intro X hP T hK d i O s σ H E I hf A hg;subst hP T hK;obtain⟨rfl,B,n⟩:=hg;obtain⟨L,rv,p,_⟩:=I.list B;obtain⟨N,C,p',_⟩:=I.list n;have hn:=rv.length;have hm:=C.length;obtain⟨_,⟨G,g,hz,h0⟩,f,⟨u0,v0,j⟩,Q,S⟩:=A;refine iI (I.ok.hd d) D hz h0 f j Q S p.isList p'.isList ?_ λh' R=>⟨rfl,I.Cw (ch:=[z,TO,l,m]) (t':=s.toks) (λc d=>hf c (by simp only[List.mem_cons,List.not_mem_nil,or_false]at d ⊢;rcases d with r|r|r|r<;>simp[r])) λc o d q=>?_⟩
  .rw[a0H,a0H];by_cases c:L.length<=N.length
   .exact .inl (a2o (by omega))
   .exact .inr (a2o (by omega))
  .simp only[List.mem_cons,List.not_mem_nil,or_false,not_or]at d;exact R _ _ d.1 d.2.1 d.2.2.1 d.2.2.2 q
 self:=λ_ _ _ _ _ A h=>by obtain⟨_,⟨_,_,hz,_⟩,_⟩:=A;have Z:Shared.TypeIs _ (.ref z) "zip":=⟨_,hz,rfl⟩;exact wpAny_pyIter_slot Z F.slot_zip_iter (a07 F.slot_zip_iter Z F.entry_zip_iter (show wpAny _ _ (ret (.ref z)) _ _ _ from v4 ⟨_,rfl,"zip",_,Z,F.slot_zip_next.lookup,h⟩) (F.args_zip_iter_1 _))
end
def tK(N:Gl X "zip")(U:X.mg "zip"=none)(W:PA X [a,b] ta)(Q:starEach [a,b] X.env=[(false,eval a X.env),(false,eval b X.env)]:=by rfl)(i:starEach [b] X.env=[(false,eval b X.env)]:=by rfl):PI X (.Name y tp) (.Call (.Name "zip" p) [a,b] [] pos) (DX X.K ta):=by
 intro e s K H R I h;refine Call_ (KH I N U PyProof.Rows.boot_zip (P9 (thn (W pos e s K H _ I h) λus d ⟨vs,D,g,L,P⟩=>?_) (by rw[Q,i]) (by rw[i];rfl)));obtain⟨A,z,O,T,rfl,w,m,q⟩:=P;cases L with
 |cons r x=>
  cases x with
  |cons Z x=>
   cases x;cases r;cases Z;obtain⟨E,rv,B,_⟩:=g.list w;obtain⟨J,G,f,_⟩:=g.list m;have M:A<d.heap.objs.size:=by obtain⟨o,n,_⟩:=B.isList;exact D9 n
   have Y:z<d.heap.objs.size:=by obtain⟨o,n,_⟩:=f.isList;exact D9 n
   refine call_zip_2 B.isList f.isList λh' hz v u l j F S=>?_;refine wpAny_pyIter_zip hz ?_;refine⟨d.heap.objs.size+4,[d.heap.objs.size+4,d.heap.objs.size+2,d.heap.objs.size+3,d.heap.objs.size,d.heap.objs.size+1],_,_,D,rfl,g.kept (t':=d.toks) S,iJ _ _ _ _ _ A z O T (zipApart_new M Y),⟨M7 _,⟨_,_,hz,.inl rfl⟩,v,⟨_,_,u⟩,l,j⟩,λc C=>?_,q⟩;have ok:∀k,dG X e D (d.heap.objs.size+k):=λk=>g.uj (a0J _ _) (g.hok.fresh (a0J _ _));simp only[List.mem_cons,List.not_mem_nil,or_false]at C;rcases C with r|r|r|r|r<;>subst r
   .exact ok 4
   .exact ok 2
   .exact ok 3
   .exact ok 0
   .exact ok 1
def tL(hg:Gl X "zip")(hm:X.mg "zip"=none)(h1:EN X C S a m1)(W:EN X C S b m2)(J:starEach [a,b] X.env=[(false,eval a X.env),(false,eval b X.env)]:=by rfl)(h:starEach [b] X.env=[(false,eval b X.env)]:=by rfl):IM X C S false (.Name y tp) (.Call (.Name "zip" p) [a,b] [] pos) (AD (zb m1 (zb m2 zl))):=λI=>by
 obtain⟨ta,a1,a2⟩:=h1 I;obtain⟨tb,b1,O⟩:=W I;refine⟨_,tK hg hm (vD a1 (vD b1 JG (by rw[h];rfl)) (by rw[J,h])) J h,λB P H F o R Q q=>a2 B P H F o R _ ?_⟩;unfold AD zb at q;revert q;cases m1 o with
 |exc c fs=>exact id
 |wall=>exact id
 |ok E=>
  intro q v1 H1 L r1;refine O B P H1 F o (R.keep L) _ ?_;revert q;cases m2 o with
  |exc c fs=>exact id
  |wall=>exact id
  |ok G=>
   intro K v2 M s2 T;have q:gE C B S P false H Q (Dc [E,G]):=K;clear K;cases E with
   |l xs=>
    cases G with
    |l ys=>
     obtain⟨p1,A,rfl,Z,d,e⟩:=r1;obtain⟨p2,v,rfl,n2,j,n⟩:=T;have d:=s2 _ _ d;have e:=e.same s2;have U:=e.len;have N:=n.len;refine⟨p1,p2,A,v,rfl,SqL.of d,SqL.of j,q _ M (L.trans s2) (DY (by unfold nI;rw[List.length_zipWith,U,N]) (λa m=>Mof.nac m) (λH' f=>⟨SqL.of (f _ _ d (.inl Z)),SqL.of (f _ _ j (.inl n2))⟩) λi x g=>?_)⟩;unfold nI at g;rw[List.getElem?_zipWith]at g;cases r:xs[i]? with
     |none=>rw[r]at g;cases g
     |some x1=>
      cases u:ys[i]? with
      |none=>rw[r,u]at g;cases g
      |some x2=>rw[r,u]at g;cases g;obtain⟨Y,z,w⟩:=e.get r;obtain⟨u2,D,s⟩:=n.get u;exact⟨_,rfl,Y,_,by unfold Bp;rw[z,D];rfl,w,u2,[],rfl,s,rfl⟩
    |_=>exact q.elim
   |_=>exact q.elim
end L2
namespace L2
section
variable {κ α:Type}[DecidableEq κ]
def nN{k:κ}:zr ([]:List (κ×α)) k=none:=rfl
def zL{k j:κ}{v:α}{r:List (κ×α)}:zr ((j,v)::r) k=if j=k then some v else zr r k:=by
 unfold zr;rw[R4];by_cases h:j=k
 .simp[h]
 .simp[h]
theorem wN:∀{a:List (κ×α)}{k:κ},a.any (λb=>decide (b.1=k))=(zr a k).isSome
 |[],_=>rfl
 | (j,v)::r,k=>by
  rw[P7,zL,wN];by_cases h:j=k
  .simp[h]
  .simp[h]
theorem c5:∀{a:List (κ×α)}{k j:κ}{v:α},zr (a++[(k,v)]) j=(zr a j).or (if k=j then some v else none)
 |[],k,j,v=>by rw[a0x,zL,nN];rfl
 | (i,u)::a,k,j,v=>by
  rw[List.cons_append,zL,zL,c5];by_cases h:i=j
  .rw[if_pos h,if_pos h];rfl
  .rw[if_neg h,if_neg h]
theorem XW:∀{a:List (κ×α)}{k j:κ}{v:α},zr (a.map λc=>if c.1=k then(c.1,v)else c) j=if k=j then(zr a j).map (λ_=>v)else zr a j
 |[],k,j,v=>by split<;>rfl
 | (i,u)::a,k,j,v=>by
  rw[E6];by_cases h:i=k
  .subst h;rw[if_pos rfl,zL,zL,XW];by_cases h:i=j
   .rw[if_pos h,if_pos h,if_pos h];rfl
   .rw[if_neg h,if_neg h,if_neg h,if_neg h]
  .rw[if_neg (show ¬((i,u):κ×α).1=k from h),zL,zL,XW];by_cases b:i=j
   .rw[if_pos b,if_pos b,if_neg (λz=>h (b.trans z.symm))]
   .rw[if_neg b,if_neg b]
def jL{a:List (κ×α)}{k j:κ}{v:α}:zr (dput a k v) j=if k=j then some v else zr a j:=by
 unfold dput;rw[wN];split
 .rename_i h;rw[XW];split
  .rename_i e;subst e;obtain⟨x,b⟩:=O4.mp h;rw[b];rfl
  .rfl
 .rename_i h;rw[c5];by_cases e:k=j
  .subst e;have:zr a k=none:=by cases q:zr a k with|none=>rfl|some x=>rw[q]at h;exact absurd rfl h
   rw[this,if_pos rfl];rfl
  .rw[if_neg e,if_neg e];cases zr a j<;>rfl
def QM{a:List (κ×α)}{k:κ}{v:α}:(dput a k v).map (·.1)=if(zr a k).isSome=true then a.map (·.1)else a.map (·.1)++[k]:=by
 unfold dput;rw[wN];split
 .rw[G5];refine R8 λb _=>?_;show(if b.1=k then(b.1,v)else b).1=b.1;split<;>rfl
 .rw[M6];rfl
theorem XX:∀{a:List (κ×α)}{k:κ}{v:α},zr a k=some v->(k,v)∈a
 |[],_,_,e=>by cases e
 | (j,u)::a,k,v,e=>by
  rw[zL]at e;split at e
  .rename_i h;subst h;cases e;exact D8
  .exact D5 _ (XX e)
def XY{a:List (κ×α)}{k:κ}:(zr a k).isSome=true↔k∈a.map (·.1):=by
 rw[<- wN,List.any_eq_true];constructor
 .rintro ⟨b,h,e⟩;exact G7.mpr ⟨b,h,a1D e⟩
 .intro h;obtain⟨b,h,e⟩:=G7.mp h;exact⟨b,h,D6 e⟩
def W5{a:List (κ×α)}{k:κ}{v:α}(h:(a.map (·.1)).Nodup):((dput a k v).map (·.1)).Nodup:=by
 rw[QM];split
 .exact h
 .rename_i n;refine a03.mpr ⟨h,by simp,λx b y c z=>?_⟩;obtain rfl:y=k:=by simpa using c
  subst z;exact n (XY.mpr b)
end
end L2
namespace K81
open PySem L2
noncomputable section NCS
def top(i:Nat):Stmt:=PySem.Challenge.pw_fleetpath_k81_ways_held.main.body.getD i (.Pass ⟨0,0,0,0⟩)
abbrev Jn:Stmt:=top 32
abbrev Jo:Stmt:=top 36
abbrev wO:Stmt:=top 34
abbrev vH:Stmt:=inClass (top 6) 0
abbrev ZQ:Stmt:=top 15
abbrev vI:Stmt:=inClass (top 4) 0
abbrev vJ:Stmt:=top 12
abbrev ZR:Stmt:=inClass (top 7) 0
abbrev jd:Stmt:=top 14
abbrev vL:Stmt:=top 26
abbrev vM:Stmt:=inClass (top 8) 0
abbrev wQ:Stmt:=top 25
abbrev j3:Stmt:=inClass (top 5) 0
abbrev j4:Stmt:=top 13
abbrev ZS:Stmt:=top 27
abbrev vN:Stmt:=top 28
abbrev ZT:Stmt:=inClass (top 30) 0
abbrev vO:Stmt:=inClass (top 30) 2
abbrev wR:Stmt:=top 29
abbrev Qd:Stmt:=inClass (top 30) 3
abbrev kC:Stmt:=inClass (top 30) 4
abbrev Qe:Stmt:=top 40
abbrev ZU:Stmt:=top 41
abbrev kD:Stmt:=top 37
abbrev qQ:Stmt:=top 38
abbrev Qf:Stmt:=top 35
abbrev j5:Stmt:=top 39
abbrev kG:Stmt:=top 17
abbrev kH:Stmt:=top 19
abbrev vP:Stmt:=top 18
abbrev vQ:Stmt:=top 20
abbrev Qg:Stmt:=top 21
abbrev Jp:Stmt:=top 44
abbrev VB:Stmt:=top 42
abbrev vR:Stmt:=top 43
abbrev Jq:Stmt:=top 33
abbrev tM:Stmt:=top 45
def scB(N P:Ea)(a:Scope):Bool:=(match a.kind with | .function=>true|_=>false)&&(!a.isCoroutine&&(!a.isGenerator&&(decide N.Nodup&&(decide (N.take P.length=P)&&(P.all (λx=>match a.names.lookup x with|some .local=>true|some .cell=>true|_=>false)&&a.names.all λy=>match y.2 with | .free=>false|_=>true)))))
def ZC(h:scB N P sc=true):zy N P sc:=by
 unfold scB at h;simp only[Bool.and_eq_true,decide_eq_true_eq,List.all_eq_true]at h;obtain⟨a,c,i,l,d,g,j⟩:=h;refine⟨?_,by simpa using c,by simpa using i,l,d,λx b=>?_,λy f e=>?_⟩
 .revert a;cases sc.kind<;>simp
 .have:=g x b;split at this<;>simp_all
 .have:=j y f;rw[e]at this;cases this
def Qh:zy ["_law_script","_law_k","_law_many","_law_cell"] ["_law_script","_law_k","_law_many"] (zj Jn):=ZC (by decide +kernel)
def qR:zy ["_law_script","_law_places","_law_scale","_law_many","_law_ways_here","_law_k","_law_pair"] ["_law_script","_law_places"] (zj Jo):=ZC (by decide +kernel)
def zU:zy ["_law_places","_law_ways_here","_law_far","_law_place","_law_origin","_law_goal","_law_minutes","_law_amid","_law_span"] ["_law_places","_law_ways_here"] (zj wO):=ZC (by decide +kernel)
def VC:zy ["self","most"] ["self","most"] (zj vH):=ZC (by decide +kernel)
def XZ:zy ["things","most"] ["things","most"] (zj ZQ):=ZC (by decide +kernel)
def VD:zy ["self","name"] ["self","name"] (zj vI):=ZC (by decide +kernel)
def ZV:zy ["name","sign"] ["name"] (zj vJ):=ZC (by decide +kernel)
def X0:zy ["self","name"] ["self","name"] (zj ZR):=ZC (by decide +kernel)
def Qi:zy ["name","had"] ["name","had"] (zj jd):=ZC (by decide +kernel)
def kI:zy ["places","had","name"] ["places"] (zj vL):=ZC (by decide +kernel)
def VE:zy ["self","name"] ["self","name"] (zj vM):=ZC (by decide +kernel)
def Wr:zy ["name","places"] ["name","places"] (zj wQ):=ZC (by decide +kernel)
def Jr:zy ["self","value"] ["self","value"] (zj j3):=ZC (by decide +kernel)
def Js:zy ["value","least"] ["value","least"] (zj j4):=ZC (by decide +kernel)
def kl:zy ["places","ways","origin","goal","minutes"] ["places","ways"] (zj ZS):=ZC (by decide +kernel)
def zW:zy ["origin","ways","heights","changed","start","goal","minutes","height"] ["origin","ways"] (zj vN):=ZC (by decide +kernel)
def X2:zy ["self","places","ways"] ["self","places","ways"] (zj ZT):=ZC (by decide +kernel)
def VF:zy ["self","origin","goal"] ["self","origin","goal"] (zj vO):=ZC (by decide +kernel)
def jM:zy ["place","heights","ways","start","goal","minutes"] ["place","heights","ways"] (zj wR):=ZC (by decide +kernel)
def JM:zy ["self","origin","goal","passed"] ["self","origin","goal"] (zj Qd):=ZC (by decide +kernel)
def Ka:zy ["self","origin"] ["self","origin"] (zj kC):=ZC (by decide +kernel)
def U6:zy ["_law_ways_here","_law_one","_law_other"] ["_law_ways_here","_law_one","_law_other"] (zj Qe):=ZC (by decide +kernel)
def QN:zy ["_law_script","_law_places","_law_ways_here","_law_way","_law_other"] ["_law_script","_law_places","_law_ways_here","_law_way"] (zj ZU):=ZC (by decide +kernel)
def qa:zy ["_law_script","_law_places","_law_way","_law_at","_law_place","_law_turn"] ["_law_script","_law_places","_law_way"] (zj kD):=ZC (by decide +kernel)
def z9:zy ["_law_script","_law_places","_law_heights","_law_place","_law_turn","_law_one"] ["_law_script","_law_places","_law_heights"] (zj qQ):=ZC (by decide +kernel)
def yZ:zy ["_law_ways_here","_law_origin","_law_goal","_law_way","_law_heights","_law_first","_law_last","_law_minutes","_law_spent","_law_k","_law_some"] ["_law_ways_here","_law_origin","_law_goal","_law_way","_law_heights"] (zj Qf):=ZC (by decide +kernel)
def yq:zy ["_law_script","_law_places","_law_ways_here","_law_turn","_law_many","_law_great","_law_at"] ["_law_script","_law_places","_law_ways_here"] (zj j5):=ZC (by decide +kernel)
def qb:zy ["ways","least","origin","goal","minutes"] ["ways"] (zj kG):=ZC (by decide +kernel)
def qc:zy ["ways","places","least","minutes","step"] ["ways","places"] (zj kH):=ZC (by decide +kernel)
def je:zy ["ways","heights","origin","goal","minutes"] ["ways","heights"] (zj vP):=ZC (by decide +kernel)
def VG:zy ["way","origin","goal"] ["way","origin","goal"] (zj vQ):=ZC (by decide +kernel)
def U7:zy ["ways","origin","goal","way","heights"] ["ways","origin","goal","way","heights"] (zj Qg):=ZC (by decide +kernel)
def Qj:zy ["_law_ways_here","_law_origin","_law_goal","_law_way","_law_heights","_law_due","_law_handed","_law_told"] ["_law_ways_here","_law_origin","_law_goal","_law_way","_law_heights","_law_due"] (zj Jp):=ZC (by decide +kernel)
def eQ:zy ["_law_places","_law_word"] ["_law_places","_law_word"] (zj VB):=ZC (by decide +kernel)
def jf:zy ["_law_places","_law_ways_here","_law_origin","_law_goal","_law_way","_law_heights","_law_due"] ["_law_places","_law_ways_here","_law_origin","_law_goal","_law_way","_law_heights","_law_due"] (zj vR):=ZC (by decide +kernel)
def Qk:zy ["_law_script","_law_k","_law_number","_law_ahead","_law_behind"] ["_law_script","_law_k","_law_number"] (zj Jq):=ZC (by decide +kernel)
def qX:zy ["_law_script","_law_places","_law_ways_here","_law_far","_law_roads","_law_origin","_law_goal","_law_way","_law_heights","_law_paths","_law_other","_law_due","_law_turn"] ["_law_script"] (zj tM):=ZC (by decide +kernel)
abbrev NsN(K:EO)(x:Str):Prop:=W.nsIn K mainGlobals x=some none
abbrev NsR(K:EO)(x:Str)(c:Addr):Prop:=W.nsIn K mainGlobals x=some (some (.ref c))
def ev(i:Nat)(c:X.N[i]?=some x:=by rfl)(b:Vis X.env.scope x:=by first|exact Or.inl rfl|exact Or.inr (Or.inl rfl)|exact Or.inr (Or.inr rfl))(d:(x==("__debug__":Str))=false:=by decide)(a:(x==("__classdict__":Str))=false:=by decide):EM X C S true (.Name x pos) (zc i):=xA (pv i c b d a)
def ei{j}:EM X C S false (.Constant (.int i) j pos) (mC (.i i)):=UL uE
def rm(a:vC k A)(h:j<=k:=by decide):vC j A:=a.mono h
def AJ(a:W.findIn K (.ref C) "__init__"=some (some (.ref f)))(b:K.lookup C=some (excClassObj nm q C N bs bm true sn sub ab col dd k0 k1 k2 k3 k5 "ValueError.__new__"))(d:UI K bm=true)(e:W.typeIn K (.ref f)=some (.type "function"))(c:W.keepIn K (.ref C)=true):XMk K C f:=⟨⟨_,_,_,_,_,_,_,_,_,_,_,_,_,_,_,b,d⟩,a,e,c⟩
abbrev fnT(st:ER)(sh q:Str)(kV dc pm:Value)(an:EH)(cd ct:Value):FuncData:=W.fnOf sh q (KY st) (vE st) (zj st) .none kV dc pm an cd ct
abbrev DfN(K:EO)(x:Str)(st:ER)(f:Addr)(fd:Eu):Prop:=W.nsIn K mainGlobals x=some (some (.ref f))/\Fun K x x st f fd
structure Def(K:EO)(mg:Ed)(x:Str)(st:ER)(ps:Ea)(f:Addr)(fd:Eu):Prop where
 g:mg x=some (.ref f)
 F:Fun K x x st f fd
 b:Binds K fd ps []
def Def.k(D:Def K mg x st ps f fd):W.keepIn K (.ref f)=true:=D.F.kp
abbrev BN(x q:Str)(st:ER)(ps:Ea):Prop:=∀(kV dc pm:Value)(an:EH)(cd ct:Value)(us:El),us.length=ps.length->bindArgs (fnT st x q kV dc pm an cd ct) ⟨us,[]⟩=pure (ps.zip us)
def yN(X:K.In h)(G:h.Ns mainGlobals mg)(D:DfN K x st f fd)(b:BN x x st ps):Def K mg x st ps f fd:=⟨a0v X G D.1,D.2,D.2.binds b⟩
def fz{P:Nat->Prop}:∀c∈([]:List Nat),P c:=λ_ h=>nomatch h
def fa{P:Nat->Prop}{a:Nat}{l:Eb}(h:P a)(t:∀c∈l,P c):∀c∈a::l,P c:=λc b=>(G0.mp b).elim (λe=>e▸h) (t c)
def al{X:Cx}{W:RC}{fr:Bool}{ws:Ek}{b:Str}{c:Nat}{f:Ep}(h:xx X.prog X.w X.K X.mg X.base X.A b (W.cls c) (lsp W fr (true::ws) f)):∀K a,Bh W fr ws [(c,f)] K a->xx X.prog X.w X.K X.mg X.base X.A b K a:=λK a ⟨q,d,e,g⟩=>by cases F7.mp d;subst e g;exact h
def ec{X:Cx}{C:LC}{S:Eb}{k j:Nat}{f:Addr}{h:Eu}{d:Ea}{fr:Bool}{ws:Ek}{g:Ep}{x:Str}{st:ER}{e:Eh}{es:Eg}{ms:MA}{p a:Pos}(F:qV X.prog X.w X.K X.mg X.base (CXe X.prog X.w) k f h d (lsp C.W fr ws g))(o:vC j X.A)(D:Def X.K X.mg x st d f h)(i:Passes (CXe X.prog X.w) X C.E)(m:AM X C S ws (e::es) ms)(n:k<=j:=by decide)(l:Gl X x:=by rfl)
  (c:(x==("__debug__":Str))=false:=by decide) (he:starEach (e::es) X.env=(false,eval e X.env)::starEach es X.env:=by rfl) (b:(backTo a (starEach es X.env)).any (·.1)=false:=by rfl):EM X C S false (.Call (.Name x p) (e::es) [] a) (zh g ms):=bt F (o.mono n) l D.g D.k D.b i m c he b
def gn(i:Nat)(c:X.N.Nodup)(a:X.N[i]?=some x:=by rfl)(b:Loc X.env.scope x:=by exact .inl rfl)(hf:X.fn x=true\/X.env.scope.names.lookup x=some .local:=by first|exact .inl rfl|exact .inr rfl|assumption):GM X C S (S.set i 0) (.Name x pos) (gNm i):=kB c a b hf
def se(i:Nat)(d:X.N.Nodup)(h:EM X C S false e m)(a:X.N[i]?=some x:=by rfl)(c:Loc X.env.scope x:=by exact .inl rfl)(b:swapsWith e (some (.Name x pos')) pos.line X.env=pure false:=by rfl)(hf:X.fn x=true\/X.env.scope.names.lookup x=some .local:=by first|exact .inl rfl|exact .inr rfl|assumption):SM X C S (S.set i 0) Sb Sc (.Assign [.Name x pos'] e pos) (qu i m):=oZ d a c h b hf
def ix(c:vC k X.A)(f:EM X C S w1 a m1)(e:EM X C S w2 b m2)(d:Y_ b:=by intro _ _;rfl):EM X C S false (.Subscript a b pos) (mOp pIx m1 m2):=B9 (yt c) f e d
def hse(i:Nat)(d:X.N.Nodup)(h:HE X W E e m)(a:X.N[i]?=some x:=by rfl)(c:Loc X.env.scope x:=by exact .inl rfl)(b:swapsWith e (some (.Name x pos')) pos.line X.env=pure false:=by rfl)(hf:X.fn x=true\/X.env.scope.names.lookup x=some .local:=by first|exact .inl rfl|exact .inr rfl|assumption):HS X W E (.Assign [.Name x pos'] e pos) (Vw i m):=Ay d a c h b hf
def hp(h:EM X ⟨W,E,false⟩ (List.replicate 30 0) false e m):HE X W E e (hP bs m):=DS bs h (a0o.mpr λ_ h=>by rw[a1Y h];rfl)
def hf(h:FM X ⟨W,E,false⟩ (List.replicate 30 0) e m):HE X W E e (hF bs m):=DV bs h (a0o.mpr λ_ h=>by rw[a1Y h];rfl)
def bn1(h:∀kV b c a cd ct d,bindArgs (fnT st x q kV b c a cd ct) ⟨[d],[]⟩=pure (ps.zip [d]):=by intros;rfl)(hp:ps.length=1:=by rfl):BN x q st ps:=λkV b c a cd ct e f=>Ci (P:=λe=>bindArgs (fnT st x q kV b c a cd ct) ⟨e,[]⟩=pure (ps.zip e)) (f.trans hp) λd=>h kV b c a cd ct d
def bn2(h:∀kV b d a cd ct e c,bindArgs (fnT st x q kV b d a cd ct) ⟨[e,c],[]⟩=pure (ps.zip [e,c]):=by intros;rfl)(hp:ps.length=2:=by rfl):BN x q st ps:=λkV b d a cd ct f g=>Cj (P:=λf=>bindArgs (fnT st x q kV b d a cd ct) ⟨f,[]⟩=pure (ps.zip f)) (g.trans hp) λe c=>h kV b d a cd ct e c
def bn3(h:∀kV b e a cd ct f c d,bindArgs (fnT st x q kV b e a cd ct) ⟨[f,c,d],[]⟩=pure (ps.zip [f,c,d]):=by intros;rfl)(hp:ps.length=3:=by rfl):BN x q st ps:=λkV b e a cd ct g i=>Ck (P:=λg=>bindArgs (fnT st x q kV b e a cd ct) ⟨g,[]⟩=pure (ps.zip g)) (i.trans hp) λf c d=>h kV b e a cd ct f c d
def bn4(h:∀kV c f a cd ct g d e b,bindArgs (fnT st x q kV c f a cd ct) ⟨[g,d,e,b],[]⟩=pure (ps.zip [g,d,e,b]):=by intros;rfl)(hp:ps.length=4:=by rfl):BN x q st ps:=λkV c f a cd ct i j=>Cm (P:=λi=>bindArgs (fnT st x q kV c f a cd ct) ⟨i,[]⟩=pure (ps.zip i)) (j.trans hp) λg d e b=>h kV c f a cd ct g d e b
def bn5(h:∀kV c f a cd ct g d e b i,bindArgs (fnT st x q kV c f a cd ct) ⟨[g,d,e,b,i],[]⟩=pure (ps.zip [g,d,e,b,i]):=by intros;rfl)(hp:ps.length=5:=by rfl):BN x q st ps:=λkV c f a cd ct j l=>Cn (P:=λj=>bindArgs (fnT st x q kV c f a cd ct) ⟨j,[]⟩=pure (ps.zip j)) (l.trans hp) λg d e b i=>h kV c f a cd ct g d e b i
def bn6(h:∀kV c g a cd ct i e f b j d,bindArgs (fnT st x q kV c g a cd ct) ⟨[i,e,f,b,j,d],[]⟩=pure (ps.zip [i,e,f,b,j,d]):=by intros;rfl)(hp:ps.length=6:=by rfl):BN x q st ps:=λkV c g a cd ct l m=>Ct (P:=λl=>bindArgs (fnT st x q kV c g a cd ct) ⟨l,[]⟩=pure (ps.zip l)) (m.trans hp) λi e f b j d=>h kV c g a cd ct i e f b j d
def bn7(h:∀kV c g a cd ct i e f b l d j,bindArgs (fnT st x q kV c g a cd ct) ⟨[i,e,f,b,l,d,j],[]⟩=pure (ps.zip [i,e,f,b,l,d,j]):=by intros;rfl)(hp:ps.length=7:=by rfl):BN x q st ps:=λkV c g a cd ct m n=>Cu (P:=λm=>bindArgs (fnT st x q kV c g a cd ct) ⟨m,[]⟩=pure (ps.zip m)) (n.trans hp) λi e f b l d j=>h kV c g a cd ct i e f b l d j
structure Adr where
 (kW qU kX Qr kY vW zg kz qA vX qw vY qj Z7 yi qo vZ ye j8 yD q_ yo qx zV y8 yL zY qS qZ Z8 ya qv Ze yU yW qh qi qT qm qd yM kA iP:Addr)
 (Xe Xf Q0 v3 JV v5 YO Z9 vw YQ v7 Q1 j9 Zf JW YR Z_ v8 Q2 Qs kZ Wb JX Ya k7 Wc Zg Yb Yc YS YT Wd Xg aD YU Xh A_:Eu)
 (uh aE WJ Ue bZ:Tok)
abbrev Dd(K:EO)(mg:Ed)(a:Adr):Prop:=
 (mg "LIMIT"=some (.int 1000000000 a.uh))/\
 (mg "NAME_SIGNS"=some (.str "abcdefghijklmnopqrstuvwxyz0123456789" a.aE))/\
 (mg "LONGEST_NAME"=some (.int 12 a.WJ))/\
 (mg "MOST_PLACES"=some (.int 12 a.Ue))/\
 (mg "MOST_WAYS"=some (.int 60 a.bZ))/\
 (mg "BadName"=some (.ref a.kW))/\
 (mg "BadNumber"=some (.ref a.qU))/\
 (mg "TooMany"=some (.ref a.kX))
abbrev De(K:EO)(mg:Ed)(a:Adr):Prop:=
 (mg "Twice"=some (.ref a.Qr))/\
 (mg "NoPlace"=some (.ref a.kY))/\
 (mg "Roads"=some (.ref a.vW))/\
 (mg "bool"=none)/\
 (mg "dict"=none)/\
 (mg "int"=none)/\
 (mg "isinstance"=none)/\
 (mg "len"=none)
abbrev Txt2(K:EO)(mg:Ed)(a:Adr):Prop:=
 (mg "list"=none)/\
 (mg "min"=none)/\
 (mg "range"=none)/\
 (mg "reversed"=none)/\
 (mg "zip"=none)/\
 (Def K mg "_law_draw" Jn ["_law_script","_law_k","_law_many"] a.zg a.Xe)/\
 (Def K mg "_law_ways" Jo ["_law_script","_law_places"] a.kz a.Xf)/\
 (Def K mg "_law_lengths" wO ["_law_places","_law_ways_here"] a.qA a.Q0)
abbrev Df(K:EO)(mg:Ed)(a:Adr):Prop:=
 (Fun K "__init__" "TooMany.__init__" vH a.vX a.v3)/\
 (Binds K a.v3 ["self","most"] [])/\
 (Def K mg "check_most" ZQ ["things","most"] a.qw a.JV)/\
 (Fun K "__init__" "BadName.__init__" vI a.vY a.v5)/\
 (Binds K a.v5 ["self","name"] [])/\
 (Def K mg "checked_name" vJ ["name"] a.qj a.YO)/\
 (Fun K "__init__" "Twice.__init__" ZR a.Z7 a.Z9)/\
 (Binds K a.Z9 ["self","name"] [])
abbrev Dg(K:EO)(mg:Ed)(a:Adr):Prop:=
 (Def K mg "checked_new_name" jd ["name","had"] a.yi a.vw)/\
 (Def K mg "check_places" vL ["places"] a.qo a.YQ)/\
 (Fun K "__init__" "NoPlace.__init__" vM a.vZ a.v7)/\
 (Binds K a.v7 ["self","name"] [])/\
 (Def K mg "check_place" wQ ["name","places"] a.ye a.Q1)/\
 (Fun K "__init__" "BadNumber.__init__" j3 a.j8 a.j9)/\
 (Binds K a.j9 ["self","value"] [])/\
 (Def K mg "checked_number" j4 ["value","least"] a.yD a.Zf)
abbrev Dh(K:EO)(mg:Ed)(a:Adr):Prop:=
 (Def K mg "check_ways" ZS ["places","ways"] a.q_ a.JW)/\
 (Def K mg "heights_from" vN ["origin","ways"] a.yo a.YR)/\
 (Fun K "__init__" "Roads.__init__" ZT a.qx a.Z_)/\
 (Binds K a.Z_ ["self","places","ways"] [])/\
 (Fun K "length" "Roads.length" vO a.zV a.v8)/\
 (Binds K a.v8 ["self","origin","goal"] [])/\
 (Def K mg "place_ahead" wR ["place","heights","ways"] a.y8 a.Q2)/\
 (Fun K "way" "Roads.way" Qd a.yL a.Qs)
abbrev Di(K:EO)(mg:Ed)(a:Adr):Prop:=
 (Binds K a.Qs ["self","origin","goal"] [])/\
 (Fun K "heights" "Roads.heights" kC a.zY a.kZ)/\
 (Binds K a.kZ ["self","origin"] [])/\
 (Def K mg "_law_least" Qe ["_law_ways_here","_law_one","_law_other"] a.qS a.Wb)/\
 (Def K mg "_law_forged" ZU ["_law_script","_law_places","_law_ways_here","_law_way"] a.qZ a.JX)/\
 (Def K mg "_law_other_way" kD ["_law_script","_law_places","_law_way"] a.Z8 a.Ya)/\
 (Def K mg "_law_other_heights" qQ ["_law_script","_law_places","_law_heights"] a.ya a.k7)/\
 (Def K mg "_law_holds" Qf ["_law_ways_here","_law_origin","_law_goal","_law_way","_law_heights"] a.qv a.Wc)
abbrev Dj(K:EO)(mg:Ed)(a:Adr):Prop:=
 (Def K mg "_law_other_ways" j5 ["_law_script","_law_places","_law_ways_here"] a.Ze a.Zg)/\
 (Def K mg "least_minutes" kG ["ways"] a.yU a.Yb)/\
 (Def K mg "minutes_along" kH ["ways","places"] a.yW a.Yc)/\
 (Def K mg "heights_hold" vP ["ways","heights"] a.qh a.YS)/\
 (Def K mg "goes_between" vQ ["way","origin","goal"] a.qi a.YT)/\
 (Def K mg "way_holds" Qg ["ways","origin","goal","way","heights"] a.qT a.Wd)/\
 (Def K mg "_law_true" Jp ["_law_ways_here","_law_origin","_law_goal","_law_way","_law_heights","_law_due"] a.qm a.Xg)/\
 (Def K mg "_law_odd" VB ["_law_places","_law_word"] a.qd a.aD)
abbrev Dk(K:EO)(mg:Ed)(a:Adr):Prop:=
 (Def K mg "_law_odd_true" vR ["_law_places","_law_ways_here","_law_origin","_law_goal","_law_way","_law_heights","_law_due"] a.yM a.YU)/\
 (Def K mg "_law_name" Jq ["_law_script","_law_k","_law_number"] a.kA a.Xh)/\
 (Def K mg "law" tM ["_law_script"] a.iP a.A_)/\
 (Ku K a.kW)/\
 (XMk K a.kW a.vY)/\
 (W.takerIn K a.kW "name"=some none)/\
 (Ku K a.qU)/\
 (XMk K a.qU a.j8)
abbrev Dl(K:EO)(mg:Ed)(a:Adr):Prop:=
 (W.takerIn K a.qU "value"=some none)/\
 (Ku K a.kX)/\
 (XMk K a.kX a.vX)/\
 (W.takerIn K a.kX "most"=some none)/\
 (Ku K a.Qr)/\
 (XMk K a.Qr a.Z7)/\
 (W.takerIn K a.Qr "name"=some none)/\
 (Ku K a.kY)
abbrev AK(K:EO)(mg:Ed)(a:Adr):Prop:=
 (XMk K a.kY a.vZ)/\
 (W.takerIn K a.kY "name"=some none)/\
 (Cls K a.vW)/\
 (ZG K a.vW "lengths")/\
 (ZG K a.vW "places")/\
 (ZG K a.vW "ways")/\
 (Meth K a.vW "heights" a.zY)/\
 (Meth K a.vW "length" a.zV)
abbrev AL(K:EO)(mg:Ed)(a:Adr):Prop:=
 (Meth K a.vW "way" a.yL)/\
 (Mk K a.vW a.qx)/\
 (W.kitOne K (.type "bool") (.type "bool")=some true)/\
 (W.kitOne K (.type "int") (.type "bool")=some false)
abbrev Txt(K:EO)(mg:Ed)(a:Adr):Prop:=Dd K mg a/\De K mg a/\Txt2 K mg a/\Df K mg a/\Dg K mg a/\Dh K mg a/\Di K mg a/\Dj K mg a/\Dk K mg a/\Dl K mg a/\AK K mg a/\AL K mg a
section
variable {K:EO}{mg:Ed}{a:Adr}(T:Txt K mg a)
include T
def Txt.cc0:Dd K mg a:=T.1
def Txt.bJ:=T.cc0.1
def Txt.ZW:=T.cc0.2.1
def Txt.vS:=T.cc0.2.2.1
def Txt.wU:=T.cc0.2.2.2.1
def Txt.Ql:=T.cc0.2.2.2.2.1
def Txt.QO:=T.cc0.2.2.2.2.2.1
def Txt.Qm:=T.cc0.2.2.2.2.2.2.1
def Txt.VH:=T.cc0.2.2.2.2.2.2.2
def Txt.cc1:De K mg a:=T.2.1
def Txt.bK:=T.cc1.1
def Txt.VI:=T.cc1.2.1
def Txt.bL:=T.cc1.2.2.1
def Txt.iK:=T.cc1.2.2.2.1
def Txt.VJ:=T.cc1.2.2.2.2.1
def Txt.nO:=T.cc1.2.2.2.2.2.1
def Txt.ZX:=T.cc1.2.2.2.2.2.2.1
def Txt.vg:=T.cc1.2.2.2.2.2.2.2
def Txt.cc2:Txt2 K mg a:=T.2.2.1
def Txt.wg:=T.cc2.1
def Txt.nP:=T.cc2.2.1
def Txt.Jt:=T.cc2.2.2.1
def Txt.Ju:=T.cc2.2.2.2.1
def Txt.tN:=T.cc2.2.2.2.2.1
def Txt.zp:=T.cc2.2.2.2.2.2.1
def Txt.ky:=T.cc2.2.2.2.2.2.2.1
def Txt.qy:=T.cc2.2.2.2.2.2.2.2
def Txt.cc3:Df K mg a:=T.2.2.2.1
def Txt.Ws:=T.cc3.1
def Txt.Wt:=T.cc3.2.1
def Txt.jU:=T.cc3.2.2.1
def Txt.Wu:=T.cc3.2.2.2.1
def Txt.YA:=T.cc3.2.2.2.2.1
def Txt.jN:=T.cc3.2.2.2.2.2.1
def Txt.U8:=T.cc3.2.2.2.2.2.2.1
def Txt.U9:=T.cc3.2.2.2.2.2.2.2
def Txt.cc4:Dg K mg a:=T.2.2.2.2.1
def Txt.qt:=T.cc4.1
def Txt.jO:=T.cc4.2.1
def Txt.Wv:=T.cc4.2.2.1
def Txt.Ww:=T.cc4.2.2.2.1
def Txt.yG:=T.cc4.2.2.2.2.1
def Txt.Kb:=T.cc4.2.2.2.2.2.1
def Txt.Kc:=T.cc4.2.2.2.2.2.2.1
def Txt.qJ:=T.cc4.2.2.2.2.2.2.2
def Txt.cc5:Dh K mg a:=T.2.2.2.2.2.1
def Txt.vo:=T.cc5.1
def Txt.qg:=T.cc5.2.1
def Txt.U_:=T.cc5.2.2.1
def Txt.aa:=T.cc5.2.2.2.1
def Txt.Wx:=T.cc5.2.2.2.2.1
def Txt.Wz:=T.cc5.2.2.2.2.2.1
def Txt.km:=T.cc5.2.2.2.2.2.2.1
def Txt.bM:=T.cc5.2.2.2.2.2.2.2
def Txt.cc6:Di K mg a:=T.2.2.2.2.2.2.1
def Txt.bN:=T.cc6.1
def Txt.VL:=T.cc6.2.1
def Txt.VM:=T.cc6.2.2.1
def Txt.kJ:=T.cc6.2.2.2.1
def Txt.vp:=T.cc6.2.2.2.2.1
def Txt.yQ:=T.cc6.2.2.2.2.2.1
def Txt.y6:=T.cc6.2.2.2.2.2.2.1
def Txt.jB:=T.cc6.2.2.2.2.2.2.2
def Txt.cc7:Dj K mg a:=T.2.2.2.2.2.2.2.1
def Txt.yz:=T.cc7.1
def Txt.yR:=T.cc7.2.1
def Txt.jg:=T.cc7.2.2.1
def Txt.jP:=T.cc7.2.2.2.1
def Txt.jQ:=T.cc7.2.2.2.2.1
def Txt.wV:=T.cc7.2.2.2.2.2.1
def Txt.qY:=T.cc7.2.2.2.2.2.2.1
def Txt.zM:=T.cc7.2.2.2.2.2.2.2
def Txt.cc8:Dk K mg a:=T.2.2.2.2.2.2.2.2.1
def Txt.yd:=T.cc8.1
def Txt.Yr:=T.cc8.2.1
def Txt.iL:=T.cc8.2.2.1
def Txt.VN:=T.cc8.2.2.2.1
def Txt.ae:=T.cc8.2.2.2.2.1
def Txt.VO:=T.cc8.2.2.2.2.2.1
def Txt.VP:=T.cc8.2.2.2.2.2.2.1
def Txt.bO:=T.cc8.2.2.2.2.2.2.2
def Txt.cc9:Dl K mg a:=T.2.2.2.2.2.2.2.2.2.1
def Txt.QP:=T.cc9.1
def Txt.af:=T.cc9.2.1
def Txt.iM:=T.cc9.2.2.1
def Txt.VQ:=T.cc9.2.2.2.1
def Txt.iN:=T.cc9.2.2.2.2.1
def Txt.tO:=T.cc9.2.2.2.2.2.1
def Txt.X3:=T.cc9.2.2.2.2.2.2.1
def Txt.ag:=T.cc9.2.2.2.2.2.2.2
def Txt.pN:AK K mg a:=T.2.2.2.2.2.2.2.2.2.2.1
def Txt.iO:=T.pN.1
def Txt.VR:=T.pN.2.1
def Txt.qz:=T.pN.2.2.1
def Txt.qK:=T.pN.2.2.2.1
def Txt.jh:=T.pN.2.2.2.2.1
def Txt.QQ:=T.pN.2.2.2.2.2.1
def Txt.Ke:=T.pN.2.2.2.2.2.2.1
def Txt.VS:=T.pN.2.2.2.2.2.2.2
def Txt.Bq:AL K mg a:=T.2.2.2.2.2.2.2.2.2.2.2
def Txt.ah:=T.Bq.1
def Txt.nQ:=T.Bq.2.1
def Txt.ZY:=T.Bq.2.2.1
def Txt.Qn:=T.Bq.2.2.2
end
def cls(a:Adr):Nat->Addr
 |1=>a.kW
 |2=>a.qU
 |3=>a.kX
 |4=>a.Qr
 |5=>a.kY
 |6=>a.vW
 |_=>0
abbrev WW(K:EO)(a:Adr):RC:=⟨K,cls a⟩
abbrev W6:MS:=
  (zZ (qu 3 (mC (.i 5)))
  (zZ (sIf (zB (mOp pGt (zh kf (zb (zc 0) zl)) (mC (.i 0)))) (qu 3 (mOp ZK (mOp pIx (zc 0) (mOp ZK (zc 1) (zh kf (zb (zc 0) zl)))) (mC (.i 1000000007)))) zP)
  (jc (mOp ZK (mOp K3 (mOp ZK (mOp ZI (mOp yk (mOp yk (zc 3) (mOp ZI (mC (.i 37)) (zc 1))) (mC (.i 1))) (mOp yk (mC (.i 48271)) (mOp ZI (zc 1) (zc 1)))) (mC (.i 2147483647))) (mC (.i 7))) (zc 2)))))
def zg:List PV->Out PV:=ZA false 4 W6
abbrev kK:MG:=
  (gNm 3)
abbrev kL:MS:=
  (Wq 2 (zb (zc 3) (zb (zc 3) zl)) (mC (.i 0)))
abbrev kM:MG:=
  (gTp 3 (yE (gNm 4) (yE (gNm 5) (yE (gNm 6) Vd))))
abbrev kN:MS:=
  (sIf (mOr (zB (U1 true (zb (zc 4) (zb (zc 5) zl)) (zc 2))) (zB (mOp pLt (zc 6) (eM (zc 2) (zb (zc 4) (zb (zc 5) zl)))))) (Wq 2 (zb (zc 4) (zb (zc 5) zl)) (zc 6)) zP)
abbrev kO:MG:=
  (gNm 5)
abbrev jm:MS:=
  (sIf (Je (zB (U1 false (zb (zc 4) (zb (zc 7) zl)) (zc 2))) (zB (U1 false (zb (zc 7) (zb (zc 5) zl)) (zc 2)))) (zZ (qu 8 (mOp yk (eM (zc 2) (zb (zc 4) (zb (zc 7) zl))) (eM (zc 2) (zb (zc 7) (zb (zc 5) zl)))))
  (sIf (mOr (zB (U1 true (zb (zc 4) (zb (zc 5) zl)) (zc 2))) (zB (mOp pLt (zc 8) (eM (zc 2) (zb (zc 4) (zb (zc 5) zl)))))) (Wq 2 (zb (zc 4) (zb (zc 5) zl)) (zc 8)) zP)) zP)
abbrev kQ:MG:=
  (gNm 4)
abbrev kR:MS:=
  (JJ (yF (zc 0)) kO jm)
abbrev kS:MG:=
  (gNm 7)
abbrev kT:MS:=
  (JJ (yF (zc 0)) kQ kR)
abbrev QR:MS:=
  (zZ (qu 2 ij)
  (zZ (JJ (yF (zc 0)) kK kL)
  (zZ (JJ (yF (zc 1)) kM kN)
  (zZ (JJ (yF (zc 0)) kS kT)
  (jc (zc 2))))))
def qA:List PV->Out PV:=ZA true 9 QR
abbrev w6:MG:=
  (gTp 3 (yE (gNm 4) (yE (gNm 5) (yE (gNm 6) Vd))))
abbrev qL:MS:=
  (sIf (zB (mOp (pIn false) (zc 4) (zc 2))) (zZ (qu 7 (mOp yk (mOp pIx (zc 2) (zc 4)) (zc 6)))
  (sIf (mOr (zB (mOp (pIn true) (zc 5) (zc 2))) (zB (mOp pLt (zc 7) (mOp pIx (zc 2) (zc 5))))) (zZ (cK 2 (zc 5) (zc 7))
  (qu 3 (mC (.b true)))) zP)) zP)
abbrev qM:MT:=
  (zB (zc 3))
abbrev yA:MS:=
  (zZ (qu 3 (mC (.b false)))
  (JJ (yF (zc 1)) w6 qL))
abbrev YB:MS:=
  (zZ (qu 2 (mD1 (zc 0) (mC (.i 0))))
  (zZ (qu 3 (mC (.b true)))
  (zZ (Vg qM yA)
  (jc (zc 2)))))
def yo:List PV->Out PV:=ZA true 8 YB
abbrev yS:MG:=
  (gTp 3 (yE (gNm 3) (yE (gNm 4) (yE (gNm 5) Vd))))
abbrev zX:MS:=
  (sIf (Je (zB (mOp (yP false) (zc 4) (zc 0))) (Je (zB (mOp (pIn false) (zc 3) (zc 1))) (zB (mOp (yP false) (mOp yk (mOp pIx (zc 1) (zc 3)) (zc 5)) (mOp pIx (zc 1) (zc 0)))))) (jc (zc 3)) zP)
abbrev QS:MS:=
  (JJ (yF (zc 2)) yS zX)
def y8:List PV->Out PV:=ZA false 6 QS
abbrev YC:MG:=
  (gNm 0)
abbrev YD:MT:=
  (zB (mOp (yP false) (mSl AB (zc 0) aL (wM (mC (.i 2)))) (Xv (zb (zc 1) (zb (zc 2) zl)))))
abbrev YE:ME:=
  (mOp pIx (zc 0) (mC (.i 2)))
abbrev VT:MS:=
  (jc (zh eN (zb (mLC (yF (zc 0)) [none,some 1,some 2] YC YD YE) zl)))
def qS:List PV->Out PV:=ZA false 3 VT
abbrev QT:MG:=
  (gTp 3 (yE (gNm 5) (yE (gNm 6) (yE (gNm 7) Vd))))
abbrev QU:MS:=
  (zZ (sIf (Je (zB (mOp (pIn false) (zc 5) (zc 4))) (zB (mOp (pIn true) (zc 6) (zc 4)))) (jc (mC (.b false))) zP)
  (sIf (Je (zB (mOp (pIn false) (zc 5) (zc 4))) (zB (mOp pGt (mOp cD (mOp pIx (zc 4) (zc 6)) (zc 7)) (mOp pIx (zc 4) (zc 5))))) (jc (mC (.b false))) zP))
abbrev vT:MG:=
  (gTp 3 (yE (gNm 0) (yE (gNm 1) (yE (gNm 2) Vd))))
abbrev vU:MT:=
  (Je (zB (mOp (yP false) (zc 0) (mOp pIx (zc 3) (zc 4)))) (zB (mOp (yP false) (zc 1) (mOp pIx (zc 3) (mOp yk (zc 4) (mC (.i 1)))))))
abbrev vV:ME:=
  (zc 2)
abbrev qB:MG:=
  (gNm 9)
abbrev yn:MS:=
  (zZ (qu 10 (mLC (yF (zc 0)) [none,none,none,some 3,some 9] vT vU vV))
  (zZ (sIf (zB (mOp (yP false) (zc 10) (ZD zl))) (jc (mC (.b false))) zP)
  (qu 8 (mOp yk (zc 8) (zh eN (zb (zc 10) zl))))))
abbrev VU:MS:=
  (zZ (sIf (mOr (zB (mOp (pIn true) (zc 1) (zc 4))) (zB (mOp (yP true) (mOp pIx (zc 4) (zc 1)) (mC (.i 0))))) (jc (mC (.b false))) zP)
  (zZ (JJ (yF (zc 0)) QT QU)
  (zZ (sIf (zB (mOp (K5 false) (zc 3) (mC .n))) (jc (mOp (pIn true) (zc 2) (zc 4))) zP)
  (zZ (sIf (mOr (zB (mOp (yP false) (zc 3) (ZD zl))) (mOr (zB (mOp (yP true) (mOp pIx (zc 3) (mC (.i 0))) (zc 1))) (mOr (zB (mOp (yP true) (mOp pIx (zc 3) (mUn d8 (mC (.i 1)))) (zc 2))) (zB (mOp (pIn true) (zc 2) (zc 4)))))) (jc (mC (.b false))) zP)
  (zZ (qu 8 (mC (.i 0)))
  (zZ (JJ (Vi (zb (mOp cD (zh kf (zb (zc 3) zl)) (mC (.i 1))) zl)) qB yn)
  (jc (mOp (yP false) (zc 8) (mOp pIx (zc 4) (zc 2))))))))))
def qv:List PV->Out PV:=ZA false 11 VU
abbrev jC:MG:=
  (gTp 3 (yE (gNm 2) (yE (gNm 3) (yE (gNm 4) Vd))))
abbrev yT:MS:=
  (sIf (mOr (zB (U1 true (zb (zc 2) (zb (zc 3) zl)) (zc 1))) (zB (mOp pLt (zc 4) (eM (zc 1) (zb (zc 2) (zb (zc 3) zl)))))) (Wq 1 (zb (zc 2) (zb (zc 3) zl)) (zc 4)) zP)
abbrev ZZ:MS:=
  (zZ (qu 1 ij)
  (zZ (JJ (yF (zc 0)) jC yT)
  (jc (zc 1))))
def yU:List PV->Out PV:=ZA true 5 ZZ
abbrev w8:MG:=
  (gTp 3 (yE (gNm 2) (yE (gNm 3) (yE (gNm 4) Vd))))
abbrev w_:MS:=
  (sIf (zB (mOp (pIn false) (zc 2) (zc 1))) (sIf (mOr (zB (mOp (pIn true) (zc 3) (zc 1))) (zB (mOp pGt (mOp pIx (zc 1) (zc 3)) (mOp yk (mOp pIx (zc 1) (zc 2)) (zc 4))))) (jc (mC (.b false))) zP) zP)
abbrev YF:MS:=
  (zZ (JJ (yF (zc 0)) w8 w_)
  (jc (mC (.b true))))
def qh:List PV->Out PV:=ZA false 5 YF
abbrev YG:MS:=
  (jc (bo (mOp pGt (zh kf (zb (zc 0) zl)) (mC (.i 0))) (bo (mOp (yP false) (mOp pIx (zc 0) (mC (.i 0))) (zc 1)) (mOp (yP false) (mOp pIx (zc 0) (mUn d8 (mC (.i 1)))) (zc 2)))))
def qi:List PV->Out PV:=ZA false 3 YG
abbrev ai:MS:=
  (jc (mOp pIx (ZD (zb (U5 "x" " " (zc 1)) (zb (mC (.s "")) zl))) (zh eF (zb (mOp (yP false) (zc 1) (mOp pIx (zc 0) (mC (.i 0)))) zl))))
def qd:List PV->Out PV:=ZA false 2 ai
abbrev JN:MG:=
  (gNm 5)
abbrev JO:MS:=
  (o6 4 (Xv (zb (mOp pIx (zc 1) (zc 5)) (zb (mOp pIx (zc 1) (mOp ZK (mOp yk (zc 5) (mC (.i 1))) (zc 3))) (zb (mOp yk (mC (.i 1)) (zh zg (zb (zc 0) (zb (mOp yk (mC (.i 10)) (zc 5)) (zb (zc 2) zl))))) zl)))))
abbrev JP:MG:=
  (gNm 5)
abbrev JQ:MS:=
  (zZ (qu 6 (zh zg (zb (zc 0) (zb (mOp yk (mC (.i 20)) (zc 5)) (zb (mOp ZI (zc 3) (zc 3)) zl)))))
  (o6 4 (Xv (zb (mOp pIx (zc 1) (mOp ZK (zc 6) (zc 3))) (zb (mOp pIx (zc 1) (mOp K3 (zc 6) (zc 3))) (zb (mOp yk (mC (.i 1)) (zh zg (zb (zc 0) (zb (mOp yk (mC (.i 33)) (zc 5)) (zb (zc 2) zl))))) zl))))))
abbrev W7:MS:=
  (zZ (qu 2 (mOp pIx (ZD (zb (mC (.i 30)) (zb (mOp K4 (mC (.i 10)) (mC (.i 8))) (zb (mC (.i 3)) zl)))) (zh zg (zb (zc 0) (zb (mC (.i 3)) (zb (mC (.i 3)) zl))))))
  (zZ (qu 3 (zh kf (zb (zc 1) zl)))
  (zZ (qu 4 (ZD zl))
  (zZ (JJ (Vi (zb (mOp ZI (zc 3) (zh eF (zb (mOp pGt (zh zg (zb (zc 0) (zb (mC (.i 4)) (zb (mC (.i 3)) zl)))) (mC (.i 0))) zl))) zl)) JN JO)
  (zZ (JJ (Vi (zb (zh zg (zb (zc 0) (zb (mC (.i 5)) (zb (mC (.i 13)) zl)))) zl)) JP JQ)
  (jc (zc 4)))))))
def kz:List PV->Out PV:=ZA true 7 W7
abbrev JR:MS:=
  (zZ (sIf (mOr (zB (mOp (K5 false) (zc 3) (mC .n))) (zB (mOp pLt (zh kf (zb (zc 3) zl)) (mC (.i 2))))) (jc (Xv (zb (zc 2) (zb (zc 3) zl)))) zP)
  (zZ (qu 4 (mOp pIx (zc 1) (zh zg (zb (zc 0) (zb (mC (.i 62)) (zb (zh kf (zb (zc 1) zl)) zl))))))
  (zZ (sIf (zB (mOp (yP false) (zh zg (zb (zc 0) (zb (mC (.i 63)) (zb (mC (.i 2)) zl)))) (mC (.i 0)))) (jc (Xv (zb (mOp yk (zc 2) (ZD (zb (Xv (zb (zc 4) (zb (mOp pIx (zc 3) (mC (.i 1))) (zb (zh qS (zb (zc 2) (zb (mOp pIx (zc 3) (mC (.i 0))) (zb (mOp pIx (zc 3) (mC (.i 1))) zl)))) zl)))) zl))) (zb (mOp yk (ZD (zb (zc 4) zl)) (mSl pSl (zc 3) (wM (mC (.i 1))) aL)) zl)))) zP)
  (jc (Xv (zb (mOp yk (zc 2) (ZD (zb (Xv (zb (mOp pIx (zc 3) (mUn d8 (mC (.i 2)))) (zb (zc 4) (zb (zh qS (zb (zc 2) (zb (mOp pIx (zc 3) (mUn d8 (mC (.i 2)))) (zb (mOp pIx (zc 3) (mUn d8 (mC (.i 1)))) zl)))) zl)))) zl))) (zb (mOp yk (mSl pSl (zc 3) aL (wM (mUn d8 (mC (.i 1))))) (ZD (zb (zc 4) zl))) zl)))))))
def qZ:List PV->Out PV:=ZA false 5 JR
abbrev yB:HMS:=
  (ZE (hIf (hPT [false,false,true] (zB (mOp (K5 false) (zc 2) (mC .n)))) (pG (hIx (Au (ZO (hP [] (mC .n)) (ZO (hF [] (ZD zl)) (ZO (hF [false,true] (zh qI (zb (zc 1) zl))) sV)))) (hP [true] (zh zg (zb (zc 0) (zb (mC (.i 50)) (zb (mC (.i 3)) zl))))))) ZP)
  (ZE (Vw 2 (hF [false,false,true] (zh qI (zb (zc 2) zl))))
  (ZE (Vw 3 (hP [true,false,true] (zh zg (zb (zc 0) (zb (mC (.i 51)) (zb (zh kf (zb (zc 2) zl)) zl))))))
  (ZE (Vw 4 (hP [true,true] (mOp pIx (mOp yk (zc 1) (ZD (zb (mC (.s "none")) zl))) (zh zg (zb (zc 0) (zb (mC (.i 52)) (zb (mOp yk (mC (.i 1)) (zh kf (zb (zc 1) zl))) zl)))))))
  (ZE (Vw 5 (hP [true] (zh zg (zb (zc 0) (zb (mC (.i 53)) (zb (mC (.i 9)) zl))))))
  (ZE (hIf (hPT [false,false,false,false,false,true] (zB (mOp (yP false) (zc 5) (mC (.i 0))))) (eK (Wn 2) (Wn 3)) ZP)
  (ZE (hIf (hPT [false,false,false,false,false,true] (zB (mOp (yP false) (zc 5) (mC (.i 1))))) (Bo (Wn 2) (ZO (Wn 3) (ZO (Wn 4) sV))) ZP)
  (ZE (hIf (hPT [false,false,false,false,false,true] (zB (mOp (yP false) (zc 5) (mC (.i 2))))) (eI (Wn 2) (Wn 3) (Wn 4)) ZP)
  (ZE (hIf (hPT [false,false,false,false,false,true] (zB (mOp (yP false) (zc 5) (mC (.i 3))))) (pG (hP [] (mC .n))) ZP)
  (ZE (hIf (hPT [false,false,false,false,false,true] (zB (mOp (yP false) (zc 5) (mC (.i 4))))) (uv (Wn 2) (hP [false,false,true] (mOp pIx (zc 2) (mUn d8 (mC (.i 1)))))) ZP)
  (pG (Wn 2))))))))))))
def yC:List HV->AH->HX HV:=Bn 6 yB
abbrev yH:MG:=
  (gNm 5)
abbrev yI:MS:=
  (cK 2 (zc 5) (mOp yk (mOp pIx (zc 2) (zc 5)) (mC (.i 1))))
abbrev kU:MS:=
  (zZ (qu 2 (zh ZN (zb (zc 2) zl)))
  (zZ (qu 3 (mOp pIx (mOp yk (zc 1) (ZD (zb (mC (.s "none")) zl))) (zh zg (zb (zc 0) (zb (mC (.i 54)) (zb (mOp yk (mC (.i 1)) (zh kf (zb (zc 1) zl))) zl))))))
  (zZ (qu 4 (zh zg (zb (zc 0) (zb (mC (.i 55)) (zb (mC (.i 9)) zl)))))
  (zZ (sIf (zB (mOp (yP false) (zc 4) (mC (.i 0)))) (cK 2 (zc 3) (mOp yk (bI (zc 2) (zc 3) (mC (.i 0))) (mC (.i 1)))) zP)
  (zZ (sIf (zB (mOp (yP false) (zc 4) (mC (.i 1)))) (cK 2 (zc 3) (mOp cD (mOp cD (bI (zc 2) (zc 3) (mC (.i 0))) (mC (.i 1))) (zh zg (zb (zc 0) (zb (mC (.i 56)) (zb (mC (.i 40)) zl)))))) zP)
  (zZ (sIf (Je (zB (mOp (yP false) (zc 4) (mC (.i 2)))) (zB (mOp (pIn false) (zc 3) (zc 2)))) (eh 2 (zc 3)) zP)
  (zZ (sIf (zB (mOp (yP false) (zc 4) (mC (.i 3)))) (JJ (yF (zh qI (zb (zc 2) zl))) yH yI) zP)
  (zZ (sIf (zB (mOp (yP false) (zc 4) (mC (.i 4)))) (qu 2 ng) zP)
  (jc (zc 2))))))))))
def ya:List PV->Out PV:=ZA false 6 kU
abbrev qC:HMS:=
  (ZE (Vw 2 (hF [false,false,true] (zh qI (zb (zc 2) zl))))
  (ZE (Vw 3 (hP [true] (zh zg (zb (zc 0) (zb (mC (.i 57)) (zb (mC (.i 9)) zl))))))
  (ZE (Vw 4 (hP [false,true] (zh kf (zb (zc 1) zl))))
  (ZE (Vw 5 (hP [true] (mOp yk (mSl pSl (mSl pSl (zc 0) (wM (mOp K3 (zh kf (zb (zc 0) zl)) (mC (.i 2)))) aL) aL (wM (mC (.i 1)))) (ZD (zb (mC (.i 7)) zl)))))
  (ZE (hIf (hPT [false,false,true,true] (Je (zB (mOp (yP false) (zc 3) (mC (.i 0)))) (zB (mOp (yP true) (zc 2) (ZD zl))))) (eK (Wn 2) (hP [true,false,true] (zh zg (zb (zc 0) (zb (mC (.i 58)) (zb (zh kf (zb (zc 2) zl)) zl)))))) ZP)
  (ZE (hIf (hPT [false,false,true,true] (Je (zB (mOp (yP false) (zc 3) (mC (.i 1)))) (zB (mOp (yP true) (zc 2) (ZD zl))))) (ZE (Vw 6 (hP [true,false,true] (zh zg (zb (zc 0) (zb (mC (.i 58)) (zb (zh kf (zb (zc 2) zl)) zl))))))
  (eI (Wn 2) (Wn 6) (hP [false,false,true,false,false,true,true] (Xv (zb (mOp pIx (mOp pIx (zc 2) (zc 6)) (mC (.i 0))) (zb (mOp pIx (mOp pIx (zc 2) (zc 6)) (mC (.i 1))) (zb (mOp cD (mOp ZK (mOp pIx (zc 5) (mC (.i 0))) (mOp ZI (mC (.i 2)) (mOp K4 (mC (.i 10)) (mC (.i 30))))) (mOp K4 (mC (.i 10)) (mC (.i 30)))) zl))))))) ZP)
  (ZE (hIf (hPT [false,false,false,true] (zB (mOp (yP false) (zc 3) (mC (.i 2))))) (uv (Wn 2) (hP [true,true,false,false,true] (Xv (zb (mOp pIx (zc 1) (zh zg (zb (zc 0) (zb (mC (.i 59)) (zb (zc 4) zl))))) (zb (mOp pIx (zc 1) (zh zg (zb (zc 0) (zb (mC (.i 60)) (zb (zc 4) zl))))) (zb (mC (.i 1)) zl)))))) ZP)
  (ZE (hIf (hPT [false,false,false,true] (zB (mOp (yP false) (zc 3) (mC (.i 3))))) (uv (Wn 2) (hP [true,true,false,false,true,true] (Xv (zb (mOp pIx (zc 1) (zh zg (zb (zc 0) (zb (mC (.i 59)) (zb (zc 4) zl))))) (zb (mC (.s "none")) (zb (mOp ZK (mOp pIx (zc 5) (mC (.i 0))) (mOp K4 (mC (.i 10)) (mC (.i 30)))) zl)))))) ZP)
  (pG (Wn 2))))))))))
def yV:List HV->AH->HX HV:=Bn 7 qC
abbrev yr:MG:=
  (gNm 4)
abbrev zH:MS:=
  (zZ (sIf (zB (mOp iA (zc 4) (zc 2))) (jc (mC .n)) zP)
  (xR 3 (pI λa b=>.i (a+b)) (mOp Cy (zc 2) (zc 4))))
abbrev Z0:MS:=
  (zZ (qu 2 (zh yU (zb (zc 0) zl)))
  (zZ (qu 3 (mC (.i 0)))
  (zZ (JJ (AD (zb (zc 1) (zb (mSl pSl (zc 1) (wM (mC (.i 1))) aL) zl))) yr zH)
  (jc (zc 3)))))
def yW:List PV->Out PV:=ZA false 5 Z0
abbrev W8:MS:=
  (zZ (qu 3 (zh zg (zb (zc 0) (zb (zc 1) (zb (mC (.i 11)) zl)))))
  (zZ (qu 4 (mOp yk (zh zg (zb (zc 0) (zb (mOp yk (zc 1) (mC (.i 1))) (zb (mOp cD (mC (.i 11)) (zc 3)) zl)))) (mOp ZK (zc 2) (mC (.i 2)))))
  (jc (mOp yk (mOp yk (mOp ZI (mC (.s "x")) (zc 3)) (mOp pIx (mC (.s "abcdefghijklmnopqrstuvwyz0123456789")) (zc 2))) (mOp ZI (mC (.s "x")) (zc 4))))))
def kA:List PV->Out PV:=ZA false 5 W8
abbrev JS:MS:=
  (sIf (zB (mOp pGt (zh kf (zb (zc 0) zl)) (zc 1))) (JK 3 ["most"] (zb (zc 1) zl)) zP)
def qw:List PV->Out PV:=ZA false 2 JS
abbrev Za:MG:=
  (gNm 1)
abbrev qN:MS:=
  (sIf (zB (mOp (pIn true) (zc 1) (mC (.s "abcdefghijklmnopqrstuvwxyz0123456789")))) (JK 1 ["name"] (zb (zc 0) zl)) zP)
abbrev YH:MS:=
  (zZ (sIf (mOr (zB (mOp pLt (zh kf (zb (zc 0) zl)) (mC (.i 1)))) (zB (mOp pGt (zh kf (zb (zc 0) zl)) (mC (.i 12))))) (JK 1 ["name"] (zb (zc 0) zl)) zP)
  (zZ (JJ (U0 (zc 0)) Za qN)
  (jc (zc 0))))
def qj:List PV->Out PV:=ZA false 2 YH
abbrev QV:MS:=
  (sIf (zB (mOp (pIn true) (zc 0) (zc 1))) (JK 5 ["name"] (zb (zc 0) zl)) zP)
def ye:List PV->Out PV:=ZA false 2 QV
abbrev Zb:MS:=
  (zZ (sIf (mOr (zB (mOp pLt (zc 0) (zc 1))) (zB (mOp pGt (zc 0) (mC (.i 1000000000))))) (JK 2 ["value"] (zb (zc 0) zl)) zP)
  (jc (zc 0)))
def yD:List PV->Out PV:=ZA false 2 Zb
abbrev VW:MS:=
  (zZ (sIf (mOr (zB (mOp (yP true) (uw (zc 4) (zc 1)) (mC (.i 0)))) (lR (zB (zh qh (zb (zc 0) (zb (zc 4) zl)))))) (jc (mC (.b false))) zP)
  (zZ (sIf (zB (mOp (K5 false) (zc 3) (mC .n))) (jc (mOp (pIn true) (zc 2) (zc 4))) zP)
  (zZ (sIf (mOr (zB (mOp (pIn true) (zc 2) (zc 4))) (lR (zB (zh qi (zb (zc 3) (zb (zc 1) (zb (zc 2) zl))))))) (jc (mC (.b false))) zP)
  (jc (mOp (yP false) (zh yW (zb (zc 0) (zb (zc 3) zl))) (mOp pIx (zc 4) (zc 2)))))))
def qT:List PV->Out PV:=ZA false 5 VW
abbrev vq:MS:=
  (zZ (Yu (zh qj (zb (zc 0) zl)))
  (zZ (sIf (zB (mOp (pIn false) (zc 0) (zc 1))) (JK 4 ["name"] (zb (zc 0) zl)) zP)
  (jc (zc 0))))
def yi:List PV->Out PV:=ZA false 2 vq
abbrev YI:MG:=
  (gTp 3 (yE (gNm 2) (yE (gNm 3) (yE (gNm 4) Vd))))
abbrev jR:MS:=
  (zZ (Yu (zh ye (zb (zc 2) (zb (zc 0) zl))))
  (zZ (Yu (zh ye (zb (zc 3) (zb (zc 0) zl))))
  (Yu (zh yD (zb (zc 4) (zb (mC (.i 1)) zl))))))
abbrev JT:MS:=
  (JJ (yF (zc 1)) YI jR)
def q_:List PV->Out PV:=ZA false 5 JT
abbrev YJ:MS:=
  (zZ (Yu (zh ye (zb (zc 1) (zb (aK [6] "places" (zc 0)) zl))))
  (zZ (Yu (zh ye (zb (zc 2) (zb (aK [6] "places" (zc 0)) zl))))
  (jc (uw (mOp pIx (aK [6] "lengths" (zc 0)) (zc 1)) (zc 2)))))
def zV:List PV->Out PV:=ZA false 3 YJ
abbrev Z1:MS:=
  (zZ (Yu (zh ye (zb (zc 1) (zb (aK [6] "places" (zc 0)) zl))))
  (jc (zh ZN (zb (mOp pIx (aK [6] "lengths" (zc 0)) (zc 1)) zl))))
def zY:List PV->Out PV:=ZA true 2 Z1
abbrev W9:MS:=
  (zZ (qu 6 (ZD (zb (zh qI (zb (zc 0) zl)) (zb (mIf (zB (mOp (K5 false) (zc 3) (mC .n))) (mC .n) (zh qI (zb (zc 3) zl))) (zb (zh ZN (zb (zc 4) zl)) zl)))))
  (zZ (qu 7 (zh qT (zb (mOp pIx (zc 6) (mC (.i 0))) (zb (zc 1) (zb (zc 2) (zb (mOp pIx (zc 6) (mC (.i 1))) (zb (mOp pIx (zc 6) (mC (.i 2))) zl)))))))
  (jc (bo (mUn (C6 [(.bool,true),(.int,false)]) (zc 7)) (bo (mOp (nv false) (zc 7) (zc 5)) (mOp (nv false) (zc 6) (ZD (zb (zc 0) (zb (zc 3) (zb (zc 4) zl))))))))))
def qm:List PV->Out PV:=ZA false 8 W9
abbrev Zc:MG:=
  (gNm 2)
abbrev qO:MS:=
  (zZ (Yu (zh yi (zb (zc 2) (zb (zc 1) zl))))
  (cK 1 (zc 2) (mC (.b true))))
abbrev YK:MS:=
  (zZ (qu 1 ng)
  (JJ (yF (zc 0)) Zc qO))
def qo:List PV->Out PV:=ZA false 3 YK
abbrev kn:MT:=
  (zB (mOp (yP true) (mOp pIx (zc 3) (mUn d8 (mC (.i 1)))) (zc 1)))
abbrev jn:MS:=
  (o6 3 (zh y8 (zb (mOp pIx (zc 3) (mUn d8 (mC (.i 1)))) (zb (mOp pIx (aK [6] "lengths" (zc 0)) (zc 1)) (zb (aK [6] "ways" (zc 0)) zl)))))
abbrev VX:MS:=
  (zZ (sIf (zB (mOp (K5 false) (XG [(6,zV)] "length" (zc 0) (zb (zc 1) (zb (zc 2) zl))) (mC .n))) (jc (mC .n)) zP)
  (zZ (qu 3 (ZD (zb (zc 2) zl)))
  (zZ (Vg kn jn)
  (jc (zh Yp (zb (zc 3) zl))))))
def yL:List PV->Out PV:=ZA false 4 VX
abbrev jD:MG:=
  (gNm 0)
abbrev wj:MT:=
  o9
abbrev jE:ME:=
  (Xv (zb (zh qd (zb (zc 1) (zb (mOp pIx (zc 0) (mC (.i 0))) zl))) (zb (zh qd (zb (zc 1) (zb (mOp pIx (zc 0) (mC (.i 1))) zl))) (zb (mOp pIx (zc 0) (mC (.i 2))) zl))))
abbrev jF:MG:=
  (gNm 0)
abbrev wo:MT:=
  o9
abbrev jG:ME:=
  (zh qd (zb (zc 1) (zb (zc 0) zl)))
abbrev jH:MG:=
  (gNm 0)
abbrev wq:MT:=
  o9
abbrev jI:ME:=
  (Xv (zb (zh qd (zb (zc 1) (zb (zc 0) zl))) (zb (mOp pIx (zc 2) (zc 0)) zl)))
abbrev YL:MS:=
  (zZ (qu 1 (mLC (yF (zc 1)) [none,some 0] jD wj jE))
  (zZ (sIf (zB (mOp (K5 true) (zc 4) (mC .n))) (qu 4 (mLC (yF (zc 4)) [none,some 0] jF wo jG)) zP)
  (zZ (qu 5 (zh ZN (zb (mLC (Wm 5) [none,some 0,some 5] jH wq jI) zl)))
  (jc (zh qm (zb (zc 1) (zb (zh qd (zb (zc 0) (zb (zc 2) zl))) (zb (zh qd (zb (zc 0) (zb (zc 3) zl))) (zb (zc 4) (zb (zc 5) (zb (zc 6) zl)))))))))))
def yM:List PV->Out PV:=ZA false 7 YL
abbrev Z2:MG:=
  (gNm 0)
abbrev Z3:MT:=
  o9
abbrev Z4:ME:=
  (Xv (zb (zc 0) (zb (zh yo (zb (zc 0) (zb (zc 1) zl))) zl)))
abbrev vt:MS:=
  (zZ (Yu (zh qw (zb (zc 1) (zb (mC (.i 12)) zl))))
  (zZ (Yu (zh qw (zb (zc 2) (zb (mC (.i 60)) zl))))
  (zZ (Yu (zh qo (zb (zc 1) zl)))
  (zZ (Yu (zh q_ (zb (zc 1) (zb (zc 2) zl))))
  (zZ (bu 0 [6] "places" (zh qI (zb (zc 1) zl)))
  (zZ (bu 0 [6] "ways" (zh qI (zb (zc 2) zl)))
  (bu 0 [6] "lengths" (zh ZN (zb (mLC (yF (zc 1)) [none,some 2] Z2 Z3 Z4) zl)))))))))
def qx:List PV->Out PV:=Cb 6 2 vt
abbrev X4:MG:=
  (gNm 0)
abbrev X5:MT:=
  o9
abbrev X6:ME:=
  (zh kA (zb (zc 1) (zb (mC (.i 0)) (zb (zc 0) zl))))
abbrev AN:MS:=
  (zZ (qu 1 (mLC (Vi (zb (mOp yk (mC (.i 1)) (zh zg (zb (zc 0) (zb (mC (.i 2)) (zb (mC (.i 6)) zl))))) zl)) [none,some 0] X4 X5 X6))
  (zZ (qu 2 (zh kz (zb (zc 0) (zb (zc 1) zl))))
  (zZ (qu 3 (zh qA (zb (zc 1) (zb (zc 2) zl))))
  (zZ (qu 4 (zh qx (zb (zh qI (zb (zc 1) zl)) (zb (zh qI (zb (zc 2) zl)) zl))))
  (zZ (qu 5 (mOp pIx (zc 1) (zh zg (zb (zc 0) (zb (mC (.i 6)) (zb (zh kf (zb (zc 1) zl)) zl))))))
  (zZ (qu 6 (mOp pIx (zc 1) (zh zg (zb (zc 0) (zb (mC (.i 7)) (zb (zh kf (zb (zc 1) zl)) zl))))))
  (zZ (qu 7 (XG [(6,yL)] "way" (zc 4) (zb (zc 5) (zb (zc 6) zl))))
  (zZ (qu 8 (XG [(6,zY)] "heights" (zc 4) (zb (zc 5) zl)))
  (zZ (sIf (lR (zB (zh qm (zb (zc 2) (zb (zc 5) (zb (zc 6) (zb (zc 7) (zb (zc 8) (zb (mC (.b true)) zl))))))))) (jc (mC (.b false))) zP)
  (zZ (sIf (lR (zB (zh yM (zb (zc 1) (zb (zc 2) (zb (zc 5) (zb (zc 6) (zb (zc 7) (zb (zc 8) (zb (mC (.b true)) zl)))))))))) (jc (mC (.b false))) zP)
  (zZ (xS (gTp 2 (yE (gNm 9) (yE (gNm 10) Vd))) (zh qZ (zb (zc 0) (zb (zc 1) (zb (zc 2) (zb (zc 7) zl))))))
  (zZ (sIf (lR (zB (zh qm (zb (zc 9) (zb (zc 5) (zb (zc 6) (zb (zc 10) (zb (zc 8) (zb (zh qv (zb (zc 9) (zb (zc 5) (zb (zc 6) (zb (zc 10) (zb (zc 8) zl)))))) zl))))))))) (jc (mC (.b false))) zP)
  (zZ (qu 7 (zh (vOf yC) (zb (zc 0) (zb (zc 1) (zb (zc 7) zl)))))
  (zZ (qu 8 (zh ya (zb (zc 0) (zb (zc 1) (zb (zc 8) zl)))))
  (zZ (qu 11 (zh qv (zb (zc 2) (zb (zc 5) (zb (zc 6) (zb (zc 7) (zb (zc 8) zl)))))))
  (zZ (sIf (lR (zB (zh qm (zb (zc 2) (zb (zc 5) (zb (zc 6) (zb (zc 7) (zb (zc 8) (zb (zc 11) zl))))))))) (jc (mC (.b false))) zP)
  (zZ (sIf (Je (zB (zc 11)) (zB (mOp (yP true) (mOp (K5 false) (zc 7) (mC .n)) (U1 true (zb (zc 5) (zb (zc 6) zl)) (zc 3))))) (jc (mC (.b false))) zP)
  (zZ (sIf (Je (zB (zc 11)) (Je (zB (mOp (K5 true) (zc 7) (mC .n))) (zB (mOp (yP true) (mOp pIx (zc 8) (zc 6)) (eM (zc 3) (zb (zc 5) (zb (zc 6) zl))))))) (jc (mC (.b false))) zP)
  (zZ (qu 2 (zh (vOf yV) (zb (zc 0) (zb (zc 1) (zb (zc 2) zl)))))
  (zZ (qu 12 (zh zg (zb (zc 0) (zb (mC (.i 8)) (zb (mC (.i 6)) zl)))))
  (zZ (sIf (zB (mOp pGt (zc 12) (mC (.i 3)))) (qu 6 (mOp pIx (zc 1) (zh zg (zb (zc 0) (zb (mC (.i 61)) (zb (zh kf (zb (zc 1) zl)) zl)))))) zP)
  (zZ (sIf (zB (mOp (yP false) (zc 12) (mC (.i 1)))) (qu 6 (mC (.s "none"))) zP)
  (zZ (sIf (zB (mOp (yP false) (zh zg (zb (zc 0) (zb (mC (.i 9)) (zb (mC (.i 12)) zl)))) (mC (.i 1)))) (qu 5 (mC (.s "none"))) zP)
  (zZ (qu 11 (zh qv (zb (zc 2) (zb (zc 5) (zb (zc 6) (zb (zc 7) (zb (zc 8) zl)))))))
  (zZ (sIf (lR (zB (zh qm (zb (zc 2) (zb (zc 5) (zb (zc 6) (zb (zc 7) (zb (zc 8) (zb (zc 11) zl))))))))) (jc (mC (.b false))) zP)
  (jc (zh yM (zb (zc 1) (zb (zc 2) (zb (zc 5) (zb (zc 6) (zb (zc 7) (zb (zc 8) (zb (zc 11) zl))))))))))))))))))))))))))))))))))
def iP:List PV->Out PV:=ZA false 13 AN
def zt(T:Txt K mg a):qV P w K mg base (CXe P w) 1 a.zg a.Xe ["_law_script","_law_k","_law_many"] (lsp (WW K a) false [true,true,true] zg):=
 zG (ms:=W6) (S':=[1,1,1,0]) (Sb:=[]) (Sc:=[]) T.zp.F Qh rfl rfl rfl (by decide) λc A b s H E d=>
  (zf (se 3 Qh.nd ei)
   (zf (yw (yX Xj Xt (qW rfl T.vg (za (ev 0) ze)) ei (y9 _))
    (zk (se 3 Qh.nd (zT wJ wK (ix d (ev 0) (zT wJ wK (ev 1) (qW rfl T.vg (za (ev 0) ze)))) ei)))
    zJ)
   (zk (zS (zT wJ wK (zT bg bh (zT wJ wK (zT ZH ZJ (zT zN zO (zT zN zO (ev 3) (zT ZH ZJ ei (ev 1))) ei) (zT zN zO ei (zT ZH ZJ (ev 1) (ev 1)))) ei) ei) (ev 2))))))
def X7(T:Txt K mg a):qV P w K mg base (CXe P w) 1 a.qA a.Q0 ["_law_places","_law_ways_here"] (lsp (WW K a) true [true,true] qA):=
 zG (ms:=QR) (S':=[1,1,0,0,0,0,0,0,0]) (Sb:=[]) (Sc:=[]) T.qy.F zU rfl rfl rfl (by decide) λd A c s H E b=>
  (zf (ZM (i:=2) zU.nd rfl (.inl rfl) cZ)
   (zf (jv (zD ⟨rfl,rfl⟩) rfl (we (wd (pv 0))) (gn 3 zU.nd)
    (zk (XT (yt b) (pv 2) (za (zq (pv 3)) (za (zq (pv 3)) ze)) ei)))
   (zf (jv (zD ⟨rfl,rfl⟩) rfl (we (wd (pv 1))) (QG (n:=3) rfl (yg (gn 4 zU.nd) (yg (gn 5 zU.nd) (yg (gn 6 zU.nd) QF yY) yY) yY))
    (zk (yw (TWM.tm (QB (VA (yt b) (za (zq (pv 4)) (za (zq (pv 5)) ze)) (ev 2)) (wY (yX aW bj (ev 6) (W4 (yt b) (ev 2) (za (zq (pv 4)) (za (zq (pv 5)) ze))) (y9 _)))))
    (zk (XT (yt b) (pv 2) (za (zq (pv 4)) (za (zq (pv 5)) ze)) (zq (pv 6))))
    zJ)))
   (zf (jv (zD ⟨rfl,rfl⟩) rfl (we (wd (pv 0))) (gn 7 zU.nd)
    (zk (jv (zD ⟨rfl,rfl⟩) rfl (we (wd (pv 0))) (gn 4 zU.nd)
    (zk (jv (zD ⟨rfl,rfl⟩) rfl (we (wd (pv 0))) (gn 5 zU.nd)
    (zk (yw (TWM.tm (wZ (pL (yt b) (za (zq (pv 4)) (za (zq (pv 7)) ze)) (ev 2)) (vF (pL (yt b) (za (zq (pv 7)) (za (zq (pv 5)) ze)) (ev 2)))))
    (zf (se 8 zU.nd (zT zN zO (W4 (yt b) (ev 2) (za (zq (pv 4)) (za (zq (pv 7)) ze))) (W4 (yt b) (ev 2) (za (zq (pv 7)) (za (zq (pv 5)) ze)))))
   (zk (yw (TWM.tm (QB (VA (yt b) (za (zq (pv 4)) (za (zq (pv 5)) ze)) (ev 2)) (wY (yX aW bj (ev 8) (W4 (yt b) (ev 2) (za (zq (pv 4)) (za (zq (pv 5)) ze))) (y9 _)))))
    (zk (XT (yt b) (pv 2) (za (zq (pv 4)) (za (zq (pv 5)) ze)) (zq (pv 8))))
    zJ)))
    zJ)))))))
   (zk (XH (pv 2)))))))
def WA(T:Txt K mg a):qV P w K mg base (CXe P w) 1 a.vX a.v3 ["self","most"] (ur a.kX ["most"]):=by
 refine T.Ws.okX VC (λf H Q E h=>by obtain⟨e,d,rfl,b,_⟩:=h;rw[D4,b];rfl) λi A c s H f Q E j h=>?_;obtain⟨e,d,rfl,b,g,k⟩:=h
 match d,b with
 |[v],_=>exact⟨_,Y7 (KZ (pv 0) (pv 1) rfl),_,rfl,_,rfl,e,a.kX,.none,rfl,T.af,T.VQ,.inl ⟨g,k⟩⟩
def YM(T:Txt K mg a):qV P w K mg base (CXe P w) 1 a.vY a.v5 ["self","name"] (ur a.kW ["name"]):=by
 refine T.Wu.okX VD (λf H Q E h=>by obtain⟨e,d,rfl,b,_⟩:=h;rw[D4,b];rfl) λi A c s H f Q E j h=>?_;obtain⟨e,d,rfl,b,g,k⟩:=h
 match d,b with
 |[v],_=>exact⟨_,Y7 (KZ (pv 0) (pv 1) rfl),_,rfl,_,rfl,e,a.kW,.none,rfl,T.VN,T.VO,.inl ⟨g,k⟩⟩
def aj(T:Txt K mg a):qV P w K mg base (CXe P w) 1 a.Z7 a.Z9 ["self","name"] (ur a.Qr ["name"]):=by
 refine T.U8.okX X0 (λf H Q E h=>by obtain⟨e,d,rfl,b,_⟩:=h;rw[D4,b];rfl) λi A c s H f Q E j h=>?_;obtain⟨e,d,rfl,b,g,k⟩:=h
 match d,b with
 |[v],_=>exact⟨_,Y7 (KZ (pv 0) (pv 1) rfl),_,rfl,_,rfl,e,a.Qr,.none,rfl,T.iN,T.X3,.inl ⟨g,k⟩⟩
def WB(T:Txt K mg a):qV P w K mg base (CXe P w) 1 a.vZ a.v7 ["self","name"] (ur a.kY ["name"]):=by
 refine T.Wv.okX VE (λf H Q E h=>by obtain⟨e,d,rfl,b,_⟩:=h;rw[D4,b];rfl) λi A c s H f Q E j h=>?_;obtain⟨e,d,rfl,b,g,k⟩:=h
 match d,b with
 |[v],_=>exact⟨_,Y7 (KZ (pv 0) (pv 1) rfl),_,rfl,_,rfl,e,a.kY,.none,rfl,T.ag,T.VR,.inl ⟨g,k⟩⟩
def Kf(T:Txt K mg a):qV P w K mg base (CXe P w) 1 a.j8 a.j9 ["self","value"] (ur a.qU ["value"]):=by
 refine T.Kb.okX Jr (λf H Q E h=>by obtain⟨e,d,rfl,b,_⟩:=h;rw[D4,b];rfl) λi A c s H f Q E j h=>?_;obtain⟨e,d,rfl,b,g,k⟩:=h
 match d,b with
 |[v],_=>exact⟨_,Y7 (KZ (pv 0) (pv 1) rfl),_,rfl,_,rfl,e,a.qU,.none,rfl,T.VP,T.QP,.inl ⟨g,k⟩⟩
def WC(T:Txt K mg a):qV P w K mg base (CXe P w) 1 a.yo a.YR ["origin","ways"] (lsp (WW K a) true [true,true] yo):=
 zG (ms:=YB) (S':=[1,1,0,0,0,0,0,0]) (Sb:=[]) (Sc:=[]) T.qg.F zW rfl rfl rfl (by decide) λd A c s H E b=>
  (zf (ZM (i:=2) zW.nd rfl (.inl rfl) (Cq (ev 0) ei))
   (zf (se 3 zW.nd (vf ve))
   (zf (cL (zD ⟨rfl,rfl⟩) (Yy (ev 3))
    (zf (se 3 zW.nd (vf ve))
   (zk (jv (zD ⟨rfl,rfl⟩) rfl (we (wd (pv 1))) (QG (n:=3) rfl (yg (gn 4 zW.nd) (yg (gn 5 zW.nd) (yg (gn 6 zW.nd) QF yY) yY) yY))
    (zk (yw (bq (yt b) (ev 4) (ev 2))
    (zf (se 7 zW.nd (zT zN zO (ix b (ev 2) (ev 4)) (ev 6)))
   (zk (yw (TWM.tm (QB (vm (yt b) (ev 5) (ev 2)) (wY (yX aW bj (ev 7) (ix b (ev 2) (ev 5)) (y9 _)))))
    (zf (UN (yt b) (pv 2) (ev 5) (zq (pv 7)))
   (zk (se 3 zW.nd (vf ve))))
    zJ)))
    zJ))))))
   (zk (XH (pv 2))))))
def X8(T:Txt K mg a):qV P w K mg base (CXe P w) 1 a.y8 a.Q2 ["place","heights","ways"] (lsp (WW K a) false [true,true,true] y8):=
 zG (ms:=QS) (S':=[1,1,1,0,0,0]) (Sb:=[]) (Sc:=[]) T.km.F jM rfl rfl rfl (by decide) λd A c s H E b=>
  (zk (jv (zD ⟨rfl,rfl⟩) rfl (we (wd (pv 2))) (QG (n:=3) rfl (yg (gn 3 jM.nd) (yg (gn 4 jM.nd) (yg (gn 5 jM.nd) QF yY) yY) yY))
    (zk (yw (TWM.tm (wZ (kj b.units (ev 4) (ev 0)) (wZ (bq (yt b) (ev 3) (ev 1)) (vF (kj b.units (zT zN zO (ix b (ev 1) (ev 3)) (ev 5)) (ix b (ev 1) (ev 0)))))))
    (zk (zS (zq (pv 3))))
    zJ))))
def VY(T:Txt K mg a):qV P w K mg base (CXe P w) 1 a.qS a.Wb ["_law_ways_here","_law_one","_law_other"] (lsp (WW K a) false [true,false,false] qS):=
 zG (ms:=VT) (S':=[1,0,0]) (Sb:=[]) (Sc:=[]) T.kJ.F U6 rfl rfl rfl (by decide) λd A b s H E c=>
  (zk (zS (iy rfl rfl T.nP (za (FM.em (xY ["_law_row","_law_one","_law_other"] [none,some 1,some 2] [0,0,0] rfl (by kernel_rfl) (Vh (ev 0)) (λ_=>(kB (i:=0) (show List.Nodup (["_law_row","_law_one","_law_other"]:List Str)from by decide +kernel) rfl (.inl rfl))) (λ_=>(o_ (kj c.units (ir (ev 0) Jg (Jh ei)) (vj (za (zq (pv 1)) (za (zq (pv 2)) ze)))))) (λ_=>(ix c (ev 0) ei)))) ze))))
def Qo(T:Txt K mg a):qV P w K mg base (CXe P w) 1 a.qv a.Wc ["_law_ways_here","_law_origin","_law_goal","_law_way","_law_heights"] (lsp (WW K a) false [true,true,true,true,true] qv):=
 zG (ms:=VU) (S':=[1,1,1,1,1,0,0,0,0,0,0]) (Sb:=[]) (Sc:=[]) T.jB.F yZ rfl rfl rfl (by decide) λd A c s H E b=>
  (zf (yw (TWM.tm (QB (vm (yt b) (ev 1) (ev 4)) (wY (XE b.units (ix b (ev 4) (ev 1)) ei))))
    (zk (zS (vf ve)))
    zJ)
   (zf (jv (zD ⟨rfl,rfl⟩) rfl (we (wd (pv 0))) (QG (n:=3) rfl (yg (gn 5 yZ.nd) (yg (gn 6 yZ.nd) (yg (gn 7 yZ.nd) QF yY) yY) yY))
    (zf (yw (TWM.tm (wZ (bq (yt b) (ev 5) (ev 4)) (vF (vm (yt b) (ev 6) (ev 4)))))
    (zk (zS (vf ve)))
    zJ)
   (zk (yw (TWM.tm (wZ (bq (yt b) (ev 5) (ev 4)) (vF (yX Xj Xt (zT WQ WX (ix b (ev 4) (ev 6)) (ev 7)) (ix b (ev 4) (ev 5)) (y9 _)))))
    (zk (zS (vf ve)))
    zJ))))
   (zf (yw (yX KJ K6 (ev 3) (vi vh) (y9 _))
    (zk (zS (cG (yt b) (ev 2) (ev 4))))
    zJ)
   (zf (yw (TWM.tm (QB (kj b.units (ev 3) (FM.em (jT ze))) (QB (XE b.units (ix b (ev 3) ei) (ev 1)) (QB (XE b.units (ix b (ev 3) (Xr Qw QA ei)) (ev 2)) (wY (vm (yt b) (ev 2) (ev 4)))))))
    (zk (zS (vf ve)))
    zJ)
   (zf (se 8 yZ.nd ei)
   (zf (jv (zD ⟨rfl,rfl⟩) rfl (XI rfl T.Jt (za (zT WQ WX (qW rfl T.vg (za (ev 3) ze)) ei) ze)) (kB (i:=9) yZ.nd rfl (by first|exact .inl rfl|exact .inr rfl))
    (zf (m_ (i:=10) ["_law_first","_law_last","_law_minutes","_law_way","_law_k"] [none,none,none,some 3,some 9] [0,0,0,1,0] yZ.nd rfl rfl rfl (by kernel_rfl) (Vh (ev 0)) (λ_=>(QG (n:=3) rfl (yg (kB (i:=0) (show List.Nodup (["_law_first","_law_last","_law_minutes","_law_way","_law_k"]:List Str)from by decide +kernel) rfl (.inl rfl)) (yg (kB (i:=1) (show List.Nodup (["_law_first","_law_last","_law_minutes","_law_way","_law_k"]:List Str)from by decide +kernel) rfl (.inl rfl)) (yg (kB (i:=2) (show List.Nodup (["_law_first","_law_last","_law_minutes","_law_way","_law_k"]:List Str)from by decide +kernel) rfl (.inl rfl)) QF yY) yY) yY))) (λ_=>(o_ (TWM.tm (wZ (kj b.units (ev 0) (ix b (ev 3) (ev 4))) (vF (kj b.units (ev 1) (ix b (ev 3) (zT zN zO (ev 4) ei)))))))) (λ_=>(zq (pv 2))))
   (zf (yw (kj b.units (ev 10) (FM.em (jT ze)))
    (zk (zS (vf ve)))
    zJ)
   (zk (se 8 yZ.nd (zT zN zO (ev 8) (iy rfl rfl T.nP (za (ev 10) ze))))))))
   (zk (zS (gi b.units (ev 8) (ix b (ev 4) (ev 2)))))))))))
def VZ(T:Txt K mg a):qV P w K mg base (CXe P w) 1 a.yU a.Yb ["ways"] (lsp (WW K a) true [true] yU):=
 zG (ms:=ZZ) (S':=[1,0,0,0,0]) (Sb:=[]) (Sc:=[]) T.yR.F qb rfl rfl rfl (by decide) λd A b s H E c=>
  (zf (ZM (i:=1) qb.nd rfl (.inl rfl) cZ)
   (zf (jv (zD ⟨rfl,rfl⟩) rfl (we (wd (pv 0))) (QG (n:=3) rfl (yg (gn 2 qb.nd) (yg (gn 3 qb.nd) (yg (gn 4 qb.nd) QF yY) yY) yY))
    (zk (yw (TWM.tm (QB (VA (yt c) (za (zq (pv 2)) (za (zq (pv 3)) ze)) (ev 1)) (wY (yX aW bj (ev 4) (W4 (yt c) (ev 1) (za (zq (pv 2)) (za (zq (pv 3)) ze))) (y9 _)))))
    (zk (XT (yt c) (pv 1) (za (zq (pv 2)) (za (zq (pv 3)) ze)) (zq (pv 4))))
    zJ)))
   (zk (XH (pv 1)))))
def WD(T:Txt K mg a):qV P w K mg base (CXe P w) 1 a.qh a.YS ["ways","heights"] (lsp (WW K a) false [true,true] qh):=
 zG (ms:=YF) (S':=[1,1,0,0,0]) (Sb:=[]) (Sc:=[]) T.jP.F je rfl rfl rfl (by decide) λd A c s H E b=>
  (zf (jv (zD ⟨rfl,rfl⟩) rfl (we (wd (pv 0))) (QG (n:=3) rfl (yg (gn 2 je.nd) (yg (gn 3 je.nd) (yg (gn 4 je.nd) QF yY) yY) yY))
    (zk (yw (bq (yt b) (ev 2) (ev 1))
    (zk (yw (TWM.tm (QB (vm (yt b) (ev 3) (ev 1)) (wY (yX Xj Xt (ix b (ev 1) (ev 3)) (zT zN zO (ix b (ev 1) (ev 2)) (ev 4)) (y9 _)))))
    (zk (zS (vf ve)))
    zJ))
    zJ)))
   (zk (zS (vf ve))))
def WE(T:Txt K mg a):qV P w K mg base (CXe P w) 1 a.qi a.YT ["way","origin","goal"] (lsp (WW K a) false [true,true,true] qi):=
 zG (ms:=YG) (S':=[1,1,1]) (Sb:=[]) (Sc:=[]) T.jQ.F VG rfl rfl rfl (by decide) λd A c s H E b=>
  (zk (zS (cE (UM Xj Xt (qW rfl T.vg (za (ev 0) ze)) ei (y9 _)) (cE (gi b.units (ix b (ev 0) ei) (ev 1)) (oS (gi b.units (ix b (ev 0) (Xr Qw QA ei)) (ev 2)))))))
def wt(T:Txt K mg a):eO P w K mg base (CXe P w) 1 a.qd a.aD ["_law_places","_law_word"] (lsp (WW K a) false [true,true] qd):=
 U4 (ms:=ai) (S':=[1,1]) (Sb:=[]) (Sc:=[]) T.zM.F eQ rfl rfl rfl (by decide) λd A b s H E c=>
  (zk (zS (ix c (FM.em (jT (za (tJ (D3 1) (ev 1)) (za (Yx Qv) ze)))) (h_ rfl T.nO (za (gi c.units (ev 1) (ix c (ev 0) ei)) ze)))))
def eS(T:Txt K mg a):qV P w K mg base (CXe P w) 2 a.kz a.Xf ["_law_script","_law_places"] (lsp (WW K a) true [true,true] kz):=
 zG (ms:=W7) (S':=[1,1,0,0,0,0,0]) (Sb:=[]) (Sc:=[]) T.ky.F qR rfl rfl rfl (by decide) λd A c s H E b=>
  (zf (se 2 qR.nd (ix b (FM.em (jT (za ei (za (zT cg Xs ei ei) (za ei ze))))) (ec (zt T) b T.zp zE (za (ev 0) (za (EM.weak ei) (za (EM.weak ei) ze))))))
   (zf (se 3 qR.nd (qW rfl T.vg (za (ev 1) ze)))
   (zf (ZM (i:=4) qR.nd rfl (.inl rfl) (jT ze))
   (zf (jv (zD ⟨rfl,rfl⟩) rfl (XI rfl T.Jt (za (zT ZH ZJ (ev 3) (h_ rfl T.nO (za (UM Xj Xt (ec (zt T) b T.zp zE (za (ev 0) (za (EM.weak ei) (za (EM.weak ei) ze)))) ei (y9 _)) ze))) ze)) (gn 5 qR.nd)
    (zk (Vc (pv 4) (vj (za (ix b (ev 1) (ev 5)) (za (ix b (ev 1) (zT wJ wK (zT zN zO (ev 5) ei) (ev 3))) (za (zT zN zO ei (ec (zt T) b T.zp zE (za (ev 0) (za (EM.weak (zT zN zO ei (ev 5))) (za (ev 2) ze))))) ze)))))))
   (zf (jv (zD ⟨rfl,rfl⟩) rfl (XI rfl T.Jt (za (ec (zt T) b T.zp zE (za (ev 0) (za (EM.weak ei) (za (EM.weak ei) ze)))) ze)) (gn 5 qR.nd)
    (zf (se 6 qR.nd (ec (zt T) b T.zp zE (za (ev 0) (za (EM.weak (zT zN zO ei (ev 5))) (za (EM.weak (zT ZH ZJ (ev 3) (ev 3))) ze)))))
   (zk (Vc (pv 4) (vj (za (ix b (ev 1) (zT wJ wK (ev 6) (ev 3))) (za (ix b (ev 1) (zT bg bh (ev 6) (ev 3))) (za (zT zN zO ei (ec (zt T) b T.zp zE (za (ev 0) (za (EM.weak (zT zN zO ei (ev 5))) (za (ev 2) ze))))) ze))))))))
   (zk (XH (pv 4))))))))
def ak(T:Txt K mg a):qV P w K mg base (CXe P w) 2 a.qZ a.JX ["_law_script","_law_places","_law_ways_here","_law_way"] (lsp (WW K a) false [true,true,false,false] qZ):=
 zG (ms:=JR) (S':=[1,1,0,0,0]) (Sb:=[]) (Sc:=[]) T.vp.F QN rfl rfl rfl (by decide) λd A c s H E b=>
  (zf (yw (TWM.tm (QB (yX KJ K6 (ev 3) (vi vh) (y9 _)) (wY (yX aW bj (qW rfl T.vg (za (ev 3) ze)) ei (y9 _)))))
    (zk (zS (vj (za (zq (pv 2)) (za (zq (pv 3)) ze)))))
    zJ)
   (zf (se 4 QN.nd (ix b (ev 1) (ec (zt T) b T.zp zE (za (ev 0) (za (EM.weak ei) (za (EM.weak (qW rfl T.vg (za (ev 1) ze))) ze))))))
   (zf (yw (kj b.units (ec (zt T) b T.zp zE (za (ev 0) (za (EM.weak ei) (za (EM.weak ei) ze)))) ei)
    (zk (zS (vj (za (zT zN zO (ev 2) (FM.em (jT (za (vj (za (zq (pv 4)) (za (ix b (ev 3) ei) (za (ec (VY T) b T.kJ zE (za (ev 2) (za (ix b (ev 3) ei) (za (ix b (ev 3) ei) ze)))) ze)))) ze)))) (za (zT zN zO (FM.em (jT (za (zq (pv 4)) ze))) (QE (ev 3) (Jh ei) Jg)) ze)))))
    zJ)
   (zk (zS (vj (za (zT zN zO (ev 2) (FM.em (jT (za (vj (za (ix b (ev 3) (Xr Qw QA ei)) (za (zq (pv 4)) (za (ec (VY T) b T.kJ zE (za (ev 2) (za (ix b (ev 3) (Xr Qw QA ei)) (za (ix b (ev 3) (Xr Qw QA ei)) ze)))) ze)))) ze)))) (za (zT zN zO (QE (ev 3) Jg (Jh (Xr Qw QA ei))) (FM.em (jT (za (zq (pv 4)) ze)))) ze))))))))
def Kg(T:Txt K mg a):qV P w K mg base (CXe P w) 2 a.Z8 a.Ya ["_law_script","_law_places","_law_way"] (hsp (WW K a) 3 yC):=
 pH (ms:=yB) T.yQ.F qa rfl rfl rfl λd A c s H E b=>
  (ym (Wo (lX (S:=Fe) (fr:=false) [false,false,true] (yX KJ K6 (ev 2) (vi vh) (y9 _)))
    (j2 (cY (Cp (yt b) (Av (Vv (hp (vi vh)) (Vv (hf (jT ze)) (Vv (hf (jK rfl rfl T.wg (za (ev 1) ze))) pF)))) (hp (ec (zt T) b T.zp zE (za (ev 0) (za (EM.weak ei) (za (EM.weak ei) ze))))))))
    vG)
   (ym (hse 2 qa.nd (hf (jK rfl rfl T.wg (za (ev 2) ze))))
   (ym (hse 3 qa.nd (hp (ec (zt T) b T.zp zE (za (ev 0) (za (EM.weak ei) (za (EM.weak (qW rfl T.vg (za (ev 2) ze))) ze))))))
   (ym (hse 4 qa.nd (hp (ix b (zT zN zO (ev 1) (FM.em (jT (za (Yx Qv) ze)))) (ec (zt T) b T.zp zE (za (ev 0) (za (EM.weak ei) (za (EM.weak (zT zN zO ei (qW rfl T.vg (za (ev 1) ze)))) ze)))))))
   (ym (hse 5 qa.nd (hp (ec (zt T) b T.zp zE (za (ev 0) (za (EM.weak ei) (za (EM.weak ei) ze))))))
   (ym (Wo (lX (S:=Fe) (fr:=false) [false,false,false,false,false,true] (kj b.units (ev 5) ei))
    (j2 (ig (kg (pv 2)) (kg (pv 3))))
    vG)
   (ym (Wo (lX (S:=Fe) (fr:=false) [false,false,false,false,false,true] (kj b.units (ev 5) ei))
    (j2 (iq (kg (pv 2)) (Vv (kg (pv 3)) (Vv (kg (pv 4)) pF))))
    vG)
   (ym (Wo (lX (S:=Fe) (fr:=false) [false,false,false,false,false,true] (kj b.units (ev 5) ei))
    (j2 (ic (kg (pv 2)) (kg (pv 3)) (kg (pv 4))))
    vG)
   (ym (Wo (lX (S:=Fe) (fr:=false) [false,false,false,false,false,true] (kj b.units (ev 5) ei))
    (j2 (cY (hp (vi vh))))
    vG)
   (ym (Wo (lX (S:=Fe) (fr:=false) [false,false,false,false,false,true] (kj b.units (ev 5) ei))
    (j2 (Vx (kg (pv 2)) (hp (ix b (ev 2) (Xr Qw QA ei)))))
    vG)
   (j2 (cY (kg (pv 2))))))))))))))
def Qp(T:Txt K mg a):qV P w K mg base (CXe P w) 2 a.ya a.k7 ["_law_script","_law_places","_law_heights"] (lsp (WW K a) false [true,true,true] ya):=
 zG (ms:=kU) (S':=[1,1,1,0,0,0]) (Sb:=[]) (Sc:=[]) T.y6.F z9 rfl rfl rfl (by decide) λd A c s H E b=>
  (zf (ZM (i:=2) z9.nd rfl (.inl rfl) (QJ rfl rfl T.VJ (za (ev 2) ze)))
   (zf (se 3 z9.nd (ix b (zT zN zO (ev 1) (FM.em (jT (za (Yx Qv) ze)))) (ec (zt T) b T.zp zE (za (ev 0) (za (EM.weak ei) (za (EM.weak (zT zN zO ei (qW rfl T.vg (za (ev 1) ze)))) ze))))))
   (zf (se 4 z9.nd (ec (zt T) b T.zp zE (za (ev 0) (za (EM.weak ei) (za (EM.weak ei) ze)))))
   (zf (yw (kj b.units (ev 4) ei)
    (zk (UN (yt b) (pv 2) (ev 3) (zT zN zO (iu (yt b) (ev 2) (ev 3) ei ⟨rfl,rfl,rfl,rfl⟩) ei)))
    zJ)
   (zf (yw (kj b.units (ev 4) ei)
    (zk (UN (yt b) (pv 2) (ev 3) (zT WQ WX (zT WQ WX (iu (yt b) (ev 2) (ev 3) ei ⟨rfl,rfl,rfl,rfl⟩) ei) (ec (zt T) b T.zp zE (za (ev 0) (za (EM.weak ei) (za (EM.weak ei) ze)))))))
    zJ)
   (zf (yw (TWM.tm (wZ (kj b.units (ev 4) ei) (vF (bq (yt b) (ev 3) (ev 2)))))
    (zk (sI (pv 2) (ev 3) ⟨rfl,rfl,rfl,rfl⟩))
    zJ)
   (zf (yw (kj b.units (ev 4) ei)
    (zk (jv (zD ⟨rfl,rfl⟩) rfl (we (EM.en (FM.em (jK rfl rfl T.wg (za (ev 2) ze))))) (gn 5 z9.nd)
    (zk (UN (yt b) (pv 2) (ev 5) (zT zN zO (ix b (ev 2) (ev 5)) ei)))))
    zJ)
   (zf (yw (kj b.units (ev 4) ei)
    (zk (ZM (i:=2) z9.nd rfl (.inl rfl) gL))
    zJ)
   (xQ 2 (zk (zS (zq (pv 2)))))))))))))
def Jv(T:Txt K mg a):qV P w K mg base (CXe P w) 2 a.Ze a.Zg ["_law_script","_law_places","_law_ways_here"] (hsp (WW K a) 3 yV):=
 pH (ms:=qC) T.yz.F yq rfl rfl rfl λd A c s H E b=>
  (ym (hse 2 yq.nd (hf (jK rfl rfl T.wg (za (ev 2) ze))))
   (ym (hse 3 yq.nd (hp (ec (zt T) b T.zp zE (za (ev 0) (za (EM.weak ei) (za (EM.weak ei) ze))))))
   (ym (hse 4 yq.nd (hp (qW rfl T.vg (za (ev 1) ze))))
   (ym (hse 5 yq.nd (hp (zT zN zO (QE (QE (ev 0) (Jh (zT bg bh (qW rfl T.vg (za (ev 0) ze)) ei)) Jg) Jg (Jh ei)) (FM.em (jT (za ei ze))))))
   (ym (Wo (lX (S:=Ff) (fr:=false) [false,false,true,true] (TWM.tm (wZ (kj b.units (ev 3) ei) (vF (XE b.units (ev 2) (FM.em (jT ze)))))))
    (j2 (ig (kg (pv 2)) (hp (ec (zt T) b T.zp zE (za (ev 0) (za (EM.weak ei) (za (EM.weak (qW rfl T.vg (za (ev 2) ze))) ze)))))))
    vG)
   (ym (Wo (lX (S:=Ff) (fr:=false) [false,false,true,true] (TWM.tm (wZ (kj b.units (ev 3) ei) (vF (XE b.units (ev 2) (FM.em (jT ze)))))))
    (ym (hse 6 yq.nd (hp (ec (zt T) b T.zp zE (za (ev 0) (za (EM.weak ei) (za (EM.weak (qW rfl T.vg (za (ev 2) ze))) ze))))))
   (j2 (ic (kg (pv 2)) (kg (pv 6)) (hp (vj (za (ix b (ix b (ev 2) (ev 6)) ei) (za (ix b (ix b (ev 2) (ev 6)) ei) (za (zT WQ WX (zT wJ wK (ix b (ev 5) ei) (zT ZH ZJ ei (zT cg Xs ei ei))) (zT cg Xs ei ei)) ze))))))))
    vG)
   (ym (Wo (lX (S:=Ff) (fr:=false) [false,false,false,true] (kj b.units (ev 3) ei))
    (j2 (Vx (kg (pv 2)) (hp (vj (za (ix b (ev 1) (ec (zt T) b T.zp zE (za (ev 0) (za (EM.weak ei) (za (ev 4) ze))))) (za (ix b (ev 1) (ec (zt T) b T.zp zE (za (ev 0) (za (EM.weak ei) (za (ev 4) ze))))) (za ei ze)))))))
    vG)
   (ym (Wo (lX (S:=Ff) (fr:=false) [false,false,false,true] (kj b.units (ev 3) ei))
    (j2 (Vx (kg (pv 2)) (hp (vj (za (ix b (ev 1) (ec (zt T) b T.zp zE (za (ev 0) (za (EM.weak ei) (za (ev 4) ze))))) (za (Yx Qv) (za (zT wJ wK (ix b (ev 5) ei) (zT cg Xs ei ei)) ze)))))))
    vG)
   (j2 (cY (kg (pv 2))))))))))))
def V0(T:Txt K mg a):qV P w K mg base (CXe P w) 2 a.yW a.Yc ["ways","places"] (lsp (WW K a) false [true,true] yW):=
 zG (ms:=Z0) (S':=[1,1,0,0,0]) (Sb:=[]) (Sc:=[]) T.jg.F qc rfl rfl rfl (by decide) λd A b s H E c=>
  (zf (se 2 qc.nd (FM.em (XF (VZ T) (rm c) rfl T.yR.g T.yR.k T.yR.b zE (za (ev 0) ze))))
   (zf (se 3 qc.nd ei)
   (zf (jv (zD ⟨rfl,rfl⟩) rfl (tL rfl T.tN (wd (pv 1)) (EM.en (QE (ev 1) (Jh ei) Jg))) (gn 4 qc.nd)
    (zf (yw (iB (yt c) (ev 4) (ev 2))
    (zk (zS (vi vh)))
    zJ)
   (zk (si (i:=3) qc.nd rfl (.inl rfl) (AF (yt c) (ev 2) (ev 4)) uN))))
   (zk (zS (zq (pv 3)))))))
def eT(T:Txt K mg a):qV P w K mg base (CXe P w) 2 a.kA a.Xh ["_law_script","_law_k","_law_number"] (lsp (WW K a) false [true,true,true] kA):=
 zG (ms:=W8) (S':=[1,1,1,0,0]) (Sb:=[]) (Sc:=[]) T.Yr.F Qk rfl rfl rfl (by decide) λd A b s H E c=>
  (zf (se 3 Qk.nd (ec (zt T) c T.zp zE (za (ev 0) (za (ev 1) (za (EM.weak ei) ze)))))
   (zf (se 4 Qk.nd (zT zN zO (ec (zt T) c T.zp zE (za (ev 0) (za (EM.weak (zT zN zO (ev 1) ei)) (za (EM.weak (zT WQ WX ei (ev 3))) ze)))) (zT wJ wK (ev 2) ei)))
   (zk (zS (zT zN zO (zT zN zO (zT ZH ZJ (Yx Qv) (ev 3)) (ix c (Yx Qv) (ev 2))) (zT ZH ZJ (Yx Qv) (ev 4)))))))
def JU(T:Txt K mg a):qV P w K mg base (CXe P w) 3 a.qw a.JV ["things","most"] (lsp (WW K a) false [true,false] qw):=
 zG (ms:=JS) (S':=[1,0]) (Sb:=[]) (Sc:=[]) T.jU.F XZ rfl rfl rfl (by decide) λd A b s H E e=>
  (zk (yw (yX Xj Xt (qW rfl T.vg (za (ev 0) ze)) (ev 1) (y9 _))
    (zk (Yo (c:=3) rfl T.iM T.af (WA T) (rm e) rfl T.VH T.Wt (za (zq (pv 1)) ze)))
    zJ))
def WG(T:Txt K mg a):qV P w K mg base (CXe P w) 3 a.qj a.YO ["name"] (lsp (WW K a) false [false] qj):=
 zG (ms:=YH) (S':=[0,0]) (Sb:=[]) (Sc:=[]) T.jN.F ZV rfl rfl rfl (by decide) λe A b s H E d=>
  (zf (yw (TWM.tm (QB (yX aW bj (qW rfl T.vg (za (ev 0) ze)) ei (y9 _)) (wY (yX Xj Xt (qW rfl T.vg (za (ev 0) ze)) (UL (KI (v:=.int 12) rfl T.vS ⟨_,rfl⟩)) (y9 _)))))
    (zk (Yo (c:=1) rfl T.ae T.VN (YM T) (rm d) rfl T.QO T.YA (za (zq (pv 0)) ze)))
    zJ)
   (zf (jv (zD ⟨rfl,rfl⟩) rfl (AA (ev 0)) (gn 1 ZV.nd)
    (zk (yw (vm (yt d) (ev 1) (Yx (KI (v:=.str "abcdefghijklmnopqrstuvwxyz0123456789") rfl T.ZW ⟨_,rfl⟩)))
    (zk (Yo (c:=1) rfl T.ae T.VN (YM T) (rm d) rfl T.QO T.YA (za (zq (pv 0)) ze)))
    zJ)))
   (zk (zS (zq (pv 0))))))
def jo(T:Txt K mg a):qV P w K mg base (CXe P w) 3 a.ye a.Q1 ["name","places"] (lsp (WW K a) false [false,true] ye):=
 zG (ms:=QV) (S':=[0,1]) (Sb:=[]) (Sc:=[]) T.yG.F Wr rfl rfl rfl (by decide) λe A b s H E d=>
  (zk (yw (vm (yt d) (ev 0) (ev 1))
    (zk (Yo (c:=5) rfl T.iO T.ag (WB T) (rm d) rfl T.VI T.Ww (za (zq (pv 0)) ze)))
    zJ))
def Kh(T:Txt K mg a):qV P w K mg base (CXe P w) 3 a.yD a.Zf ["value","least"] (lsp (WW K a) false [false,true] yD):=
 zG (ms:=Zb) (S':=[0,1]) (Sb:=[]) (Sc:=[]) T.qJ.F Js rfl rfl rfl (by decide) λd A b s H E e=>
  (zf (yw (TWM.tm (QB (yX aW bj (ev 0) (ev 1) (y9 _)) (wY (yX Xj Xt (ev 0) (UL (KI (v:=.int 1000000000) rfl T.bJ ⟨_,rfl⟩)) (y9 _)))))
    (zk (Yo (c:=2) rfl T.bO T.VP (Kf T) (rm e) rfl T.Qm T.Kc (za (zq (pv 0)) ze)))
    zJ)
   (zk (zS (zq (pv 0)))))
def bP(T:Txt K mg a):qV P w K mg base (CXe P w) 3 a.qT a.Wd ["ways","origin","goal","way","heights"] (lsp (WW K a) false [true,true,true,true,true] qT):=
 zG (ms:=VW) (S':=[1,1,1,1,1]) (Sb:=[]) (Sc:=[]) T.wV.F U7 rfl rfl rfl (by decide) λd A c s H E b=>
  (zf (yw (TWM.tm (QB (XE b.units (pK (yt b) (ev 4) (ev 1) ⟨rfl,rfl,rfl,rfl⟩) ei) (wY (K8 (Yy (ec (WD T) b T.jP zE (za (ev 0) (za (ev 4) ze))))))))
    (zk (zS (vf ve)))
    zJ)
   (zf (yw (yX KJ K6 (ev 3) (vi vh) (y9 _))
    (zk (zS (cG (yt b) (ev 2) (ev 4))))
    zJ)
   (zf (yw (TWM.tm (QB (vm (yt b) (ev 2) (ev 4)) (wY (K8 (Yy (ec (WE T) b T.jQ zE (za (ev 3) (za (ev 1) (za (ev 2) ze)))))))))
    (zk (zS (vf ve)))
    zJ)
   (zk (zS (gi b.units (ec (V0 T) b T.jg zE (za (ev 0) (za (ev 3) ze))) (ix b (ev 4) (ev 2))))))))
def QW(T:Txt K mg a):qV P w K mg base (CXe P w) 4 a.yi a.vw ["name","had"] (lsp (WW K a) false [false,true] yi):=
 zG (ms:=vq) (S':=[0,1]) (Sb:=[]) (Sc:=[]) T.qt.F Qi rfl rfl rfl (by decide) λe A b s H E d=>
  (zf (jZ (ec (WG T) d T.jN zE (za (zq (pv 0)) ze)))
   (zf (yw (bq (yt d) (ev 0) (ev 1))
    (zk (Yo (c:=4) rfl T.tO T.iN (aj T) (rm d) rfl T.bK T.U9 (za (zq (pv 0)) ze)))
    zJ)
   (zk (zS (zq (pv 0))))))
def ao(T:Txt K mg a):qV P w K mg base (CXe P w) 4 a.q_ a.JW ["places","ways"] (lsp (WW K a) false [true,true] q_):=
 zG (ms:=JT) (S':=[1,1,0,0,0]) (Sb:=[]) (Sc:=[]) T.vo.F kl rfl rfl rfl (by decide) λd A b s H E c=>
  (zk (jv (zD ⟨rfl,rfl⟩) rfl (we (wd (pv 1))) (QG (n:=3) rfl (yg (gn 2 kl.nd) (yg (gn 3 kl.nd) (yg (gn 4 kl.nd) QF yY) yY) yY))
    (zf (jZ (ec (jo T) c T.yG zE (za (zq (pv 2)) (za (ev 0) ze))))
   (zf (jZ (ec (jo T) c T.yG zE (za (zq (pv 3)) (za (ev 0) ze))))
   (zk (jZ (ec (Kh T) c T.qJ zE (za (zq (pv 4)) (za (EM.weak ei) ze)))))))))
def WH(T:Txt K mg a):qV P w K mg base (CXe P w) 4 a.zV a.v8 ["self","origin","goal"] (lsp (WW K a) false [true,false,false] zV):=
 zG (ms:=YJ) (S':=[1,0,0]) (Sb:=[]) (Sc:=[]) T.Wx VF rfl rfl rfl (by decide) λd A c s H E b=>
  (zf (jZ (ec (jo T) b T.yG zE (za (zq (pv 1)) (za (EM.weak (Vb (ev 0) (fa ⟨T.qz,T.jh⟩ fz))) ze))))
   (zf (jZ (ec (jo T) b T.yG zE (za (zq (pv 2)) (za (EM.weak (Vb (ev 0) (fa ⟨T.qz,T.jh⟩ fz))) ze))))
   (zk (zS (pK (yt b) (ix b (Vb (ev 0) (fa ⟨T.qz,T.qK⟩ fz)) (ev 1)) (ev 2) ⟨rfl,rfl,rfl,rfl⟩)))))
def V1(T:Txt K mg a):qV P w K mg base (CXe P w) 4 a.zY a.kZ ["self","origin"] (lsp (WW K a) true [true,false] zY):=
 zG (ms:=Z1) (S':=[1,0]) (Sb:=[]) (Sc:=[]) T.VL Ka rfl rfl rfl (by decide) λd A b s H E c=>
  (zf (jZ (ec (jo T) c T.yG zE (za (zq (pv 1)) (za (EM.weak (Vb (ev 0) (fa ⟨T.qz,T.jh⟩ fz))) ze))))
   (zk (sg (QJ rfl rfl T.VJ (za (ix c (Vb (ev 0) (fa ⟨T.qz,T.qK⟩ fz)) (ev 1)) ze)))))
def wu(T:Txt K mg a):qV P w K mg base (CXe P w) 4 a.qm a.Xg ["_law_ways_here","_law_origin","_law_goal","_law_way","_law_heights","_law_due"] (lsp (WW K a) false [true,true,true,true,true,true] qm):=
 zG (ms:=W9) (S':=[1,1,1,1,1,1,0,0]) (Sb:=[]) (Sc:=[]) T.qY.F Qj rfl rfl rfl (by decide) λcdv A outer s H E hr=>
  (zf (se 6 Qj.nd (FM.em (jT (za (FM.em (jK rfl rfl T.wg (za (ev 0) ze))) (za (B8 (yX KJ K6 (ev 3) (vi vh) (y9 _)) (vi vh) (FM.em (jK rfl rfl T.wg (za (ev 3) ze)))) (za (FM.em (QJ rfl rfl T.VJ (za (ev 4) ze))) ze))))))
   (zf (se 7 Qj.nd (ec (bP T) hr T.wV zE (za (EM.weak (ix hr (ev 6) ei)) (za (ev 1) (za (ev 2) (za (EM.weak (ix hr (ev 6) ei)) (za (EM.weak (ix hr (ev 6) ei)) ze)))))))
   (zk (zS (cE (xP rfl T.ZX (ev 7) (p6 rfl T.iK PyProof.Rows.Boot.«bool» (v:=.ty "bool") rfl) rfl ⟨⟨trivial,T.ZY⟩,⟨⟨trivial,T.Qn⟩,trivial⟩⟩) (cE (pA hr.units (eA (ev 7)) (eA (ev 5))) (oS (pA hr.units (eA (ev 6)) (Aj (bE (eA (ev 0)) (bE (eA (ev 3)) (bE (eA (ev 4)) Ai))))))))))))
def WI(T:Txt K mg a):qV P w K mg base (CXe P w) 5 a.qo a.YQ ["places"] (lsp (WW K a) false [true] qo):=
 zG (ms:=YK) (S':=[1,2,0]) (Sb:=[]) (Sc:=[]) T.jO.F kI rfl rfl rfl (by decide) λd A b s H E c=>
  (zf (ZM (i:=1) kI.nd rfl (.inl rfl) gL)
   (zk (jv (zD ⟨rfl,rfl⟩) rfl (we (wd (pv 0))) (gn 2 kI.nd)
    (zf (jZ (ec (QW T) c T.qt zE (za (zq (pv 2)) (za (ev 1) ze))))
   (zk (UN (yt c) (pv 1) (ev 2) (vf ve)))))))
def bQ(T:Txt K mg a):qV P w K mg base (CXe P w) 5 a.yL a.Qs ["self","origin","goal"] (lsp (WW K a) false [true,false,false] yL):=
 zG (ms:=VX) (S':=[1,0,0,0]) (Sb:=[]) (Sc:=[]) T.bM JM rfl rfl rfl (by decide) λd A c s H E b=>
  (zf (yw (yX KJ K6 (gy (fr:=false) (ws:=[false,false]) (tab:=[(6,zV)]) (ev 0) (al ⟨_,_,_,_,T.qz,T.VS,WH T,(rm b),T.Wz⟩) zE (za (zq (pv 1)) (za (zq (pv 2)) ze))) (vi vh) (y9 _))
    (zk (zS (vi vh)))
    zJ)
   (zf (ZM (i:=3) JM.nd rfl (.inl rfl) (jT (za (zq (pv 2)) ze)))
   (zf (cL (zD ⟨rfl,rfl⟩) (XE b.units (ix b (ev 3) (Xr Qw QA ei)) (ev 1))
    (zk (Vc (pv 3) (ec (X8 T) b T.km zE (za (EM.weak (ix b (ev 3) (Xr Qw QA ei))) (za (EM.weak (ix b (Vb (ev 0) (fa ⟨T.qz,T.qK⟩ fz)) (ev 1))) (za (EM.weak (Vb (ev 0) (fa ⟨T.qz,T.QQ⟩ fz))) ze)))))))
   (zk (zS (FM.em (bB rfl rfl T.wg rfl T.Ju (za (ev 3) ze))))))))
def YN(T:Txt K mg a):eO P w K mg base (CXe P w) 5 a.yM a.YU ["_law_places","_law_ways_here","_law_origin","_law_goal","_law_way","_law_heights","_law_due"] (lsp (WW K a) false [true,true,true,true,false,true,true] yM):=
 U4 (ms:=YL) (S':=[1,1,1,1,0,1,1]) (Sb:=[]) (Sc:=[]) T.yd.F jf rfl rfl rfl (by decide) λd A c s H E b=>
  (zf (m_ (i:=1) ["_law_row","_law_places"] [none,some 0] [0,1] jf.nd rfl rfl rfl (by kernel_rfl) (Vh (ev 1)) (λ_=>(kB (i:=0) (show List.Nodup (["_law_row","_law_places"]:List Str)from by decide +kernel) rfl (.inl rfl))) (λ_=>UO) (λ_=>(vj (za (vn (wt T) (D3 1) (rm b) rfl T.zM.g T.zM.k T.zM.b WV (za (ev 1) (za (EM.weak (ix b (ev 0) ei)) ze))) (za (vn (wt T) (D3 1) (rm b) rfl T.zM.g T.zM.k T.zM.b WV (za (ev 1) (za (EM.weak (ix b (ev 0) ei)) ze))) (za (ix b (ev 0) ei) ze))))))
   (zf (yw (yX fA gf (ev 4) (vi vh) (y9 _))
    (zk (m_ (i:=4) ["_law_place","_law_places"] [none,some 0] [0,1] jf.nd rfl rfl rfl (by kernel_rfl) (Vh (ev 4)) (λ_=>(kB (i:=0) (show List.Nodup (["_law_place","_law_places"]:List Str)from by decide +kernel) rfl (.inl rfl))) (λ_=>UO) (λ_=>(vn (wt T) (D3 1) (rm b) rfl T.zM.g T.zM.k T.zM.b WV (za (ev 1) (za (ev 0) ze))))))
    zJ)
   (zf (oZ (i:=5) jf.nd rfl (by first|exact .inl rfl|exact .inr rfl) (FM.em (QJ rfl rfl T.VJ (za (FM.em (Ad ["_law_place","_law_places","_law_heights"] [none,some 0,some 5] [0,1,1] rfl (by kernel_rfl) (pv 5) (λ_=>(kB (i:=0) (show List.Nodup (["_law_place","_law_places","_law_heights"]:List Str)from by decide +kernel) rfl (.inl rfl))) (λ_=>UO) (λ_=>(vj (za (vn (wt T) (D3 1) (rm b) rfl T.zM.g T.zM.k T.zM.b WV (za (ev 1) (za (ev 0) ze))) (za (ix b (ev 2) (ev 0)) ze)))))) ze))))
   (zk (zS (ec (wu T) b T.qY (yy zE) (za (ev 1) (za (EM.weak (vn (wt T) (D3 1) (rm b) rfl T.zM.g T.zM.k T.zM.b (yy zE) (za (ev 0) (za (ev 2) ze)))) (za (EM.weak (vn (wt T) (D3 1) (rm b) rfl T.zM.g T.zM.k T.zM.b (yy zE) (za (ev 0) (za (ev 3) ze)))) (za (ev 4) (za (ev 5) (za (ev 6) ze))))))))))))
def aq(T:Txt K mg a):qV P w K mg base (CXe P w) 6 a.qx a.Z_ ["self","places","ways"] (Bi (WW K a) 6 [true,true] qx):=
 gK (ms:=vt) (S':=[2,1,1]) (Sb:=[]) (Sc:=[]) (n:=2) T.U_ X2 rfl rfl rfl (by decide) rfl λd A c s H E b=>
  (zf (jZ (ec (JU T) b T.jU zE (za (ev 1) (za (UL (KI (v:=.int 12) rfl T.wU ⟨_,rfl⟩)) ze))))
   (zf (jZ (ec (JU T) b T.jU zE (za (ev 2) (za (UL (KI (v:=.int 60) rfl T.Ql ⟨_,rfl⟩)) ze))))
   (zf (jZ (ec (WI T) b T.jO zE (za (ev 1) ze)))
   (zf (jZ (ec (ao T) b T.vo zE (za (ev 1) (za (ev 2) ze))))
   (zf (gD (i:=0) (pv 0) (FM.em (jK rfl rfl T.wg (za (ev 1) ze))) (fa ⟨T.qz,T.jh⟩ fz))
   (zf (gD (i:=0) (pv 0) (FM.em (jK rfl rfl T.wg (za (ev 2) ze))) (fa ⟨T.qz,T.QQ⟩ fz))
   (zk (gD (i:=0) (pv 0) (FM.em (QJ rfl rfl T.VJ (za (FM.em (xY ["place","ways"] [none,some 2] [0,1] rfl (by kernel_rfl) (Vh (ev 1)) (λ_=>(kB (i:=0) (show List.Nodup (["place","ways"]:List Str)from by decide +kernel) rfl (.inl rfl))) (λ_=>UO) (λ_=>(vj (za (zq (pv 0)) (za (FM.em (XF (WC T) (rm b) rfl T.qg.g T.qg.k T.qg.b WV (za (ev 0) (za (ev 1) ze)))) ze)))))) ze))) (fa ⟨T.qz,T.qK⟩ fz)))))))))
def CA(T:Txt K mg a):qV P w K mg base (CXe P w) 8 a.iP a.A_ ["_law_script"] (lsp (WW K a) false [true] iP):=
 zG (ms:=AN) (S':=[1,0,0,0,0,0,0,0,0,0,0,0,0]) (Sb:=[]) (Sc:=[]) T.iL.F qX rfl rfl rfl (by decide) λe A d s H E b=>
  (zf (m_ (i:=1) ["_law_k","_law_script"] [none,some 0] [0,1] qX.nd rfl rfl rfl (by kernel_rfl) (XI rfl T.Jt (za (zT zN zO ei (ec (zt T) b T.zp zE (za (ev 0) (za (EM.weak ei) (za (EM.weak ei) ze))))) ze)) (λ_=>(kB (i:=0) (show List.Nodup (["_law_k","_law_script"]:List Str)from by decide +kernel) rfl (.inl rfl))) (λ_=>UO) (λ_=>(ec (eT T) b T.Yr WV (za (ev 1) (za (EM.weak ei) (za (ev 0) ze))))))
   (zf (se 2 qX.nd (FM.em (XF (eS T) (rm b) rfl T.ky.g T.ky.k T.ky.b zE (za (ev 0) (za (ev 1) ze)))))
   (zf (se 3 qX.nd (FM.em (XF (X7 T) (rm b) rfl T.qy.g T.qy.k T.qy.b zE (za (ev 1) (za (ev 2) ze)))))
   (zf (se 4 qX.nd (FM.em (r_ (c:=6) T.nQ (aq T) (rm b) rfl T.bL T.aa zE (za (EM.weak (FM.em (jK rfl rfl T.wg (za (ev 1) ze)))) (za (EM.weak (FM.em (jK rfl rfl T.wg (za (ev 2) ze)))) ze)))))
   (Cz (nM (i:=5) qX.nd (tI (yt b) (ev 1) (iD (zt T) (rm b) rfl T.zp.g T.zp.k T.zp.b zE (tH (ev 0) (tG (EMm.weak nK) (za (EM.weak (qW rfl T.vg (za (ev 1) ze))) ze))))))
   (zf (se 6 qX.nd (ix b (ev 1) (ec (zt T) b T.zp (yy zE) (za (ev 0) (za (EM.weak ei) (za (EM.weak (qW rfl T.vg (za (ev 1) ze))) ze))))))
   (zf (se 7 qX.nd (gy (fr:=false) (ws:=[false,false]) (tab:=[(6,yL)]) (ev 4) (al ⟨_,_,_,_,T.qz,T.ah,bQ T,(rm b),T.bN⟩) (yy zE) (za (zq (pv 5)) (za (zq (pv 6)) ze))))
   (zf (se 8 qX.nd (FM.em (r9 (ws:=[false]) (tab:=[(6,zY)]) (ev 4) (al ⟨_,_,_,_,T.qz,T.Ke,V1 T,(rm b),T.VM⟩) (yy zE) (za (zq (pv 5)) ze))))
   (zf (yw (K8 (Yy (ec (wu T) b T.qY (yy zE) (za (ev 2) (za (ev 5) (za (ev 6) (za (ev 7) (za (ev 8) (za (EM.weak (vf ve)) ze)))))))))
    (zk (zS (vf ve)))
    zJ)
   (zf (yw (K8 (Yy (vn (YN T) (D3 1) (rm b) rfl T.yd.g T.yd.k T.yd.b (yy zE) (za (ev 1) (za (ev 2) (za (ev 5) (za (ev 6) (za (zq (pv 7)) (za (ev 8) (za (EM.weak (vf ve)) ze))))))))))
    (zk (zS (vf ve)))
    zJ)
   (zf (xT (ec (ak T) b T.vp (yy zE) (za (ev 0) (za (ev 1) (za (zq (pv 2)) (za (zq (pv 7)) ze))))) (QG (n:=2) rfl (yg (gn 9 qX.nd) (yg (gn 10 qX.nd) QF yY) yY)))
   (zf (yw (K8 (Yy (ec (wu T) b T.qY (yy zE) (za (ev 9) (za (ev 5) (za (ev 6) (za (ev 10) (za (ev 8) (za (EM.weak (ec (Qo T) b T.jB (yy zE) (za (ev 9) (za (ev 5) (za (ev 6) (za (ev 10) (za (ev 8) ze))))))) ze)))))))))
    (zk (zS (vf ve)))
    zJ)
   (zf (se 7 qX.nd (bt (fr:=false) (ie (ws:=[true,true,true]) (Kg T) rfl) (rm b) rfl T.yQ.g T.yQ.k T.yQ.b (yy zE) (za (ev 0) (za (ev 1) (za (ev 7) ze)))))
   (zf (se 8 qX.nd (ec (Qp T) b T.y6 (yy zE) (za (ev 0) (za (ev 1) (za (ev 8) ze)))))
   (zf (se 11 qX.nd (ec (Qo T) b T.jB (yy zE) (za (ev 2) (za (ev 5) (za (ev 6) (za (ev 7) (za (ev 8) ze)))))))
   (zf (yw (K8 (Yy (ec (wu T) b T.qY (yy zE) (za (ev 2) (za (ev 5) (za (ev 6) (za (ev 7) (za (ev 8) (za (ev 11) ze)))))))))
    (zk (zS (vf ve)))
    zJ)
   (zf (yw (TWM.tm (wZ (Yy (ev 11)) (vF (XE b.units (UM KJ K6 (ev 7) (vi vh) (y9 _)) (il (yt b) (za (zq (pv 5)) (za (zq (pv 6)) ze)) (ev 3))))))
    (zk (zS (vf ve)))
    zJ)
   (zf (yw (TWM.tm (wZ (Yy (ev 11)) (wZ (yX fA gf (ev 7) (vi vh) (y9 _)) (vF (XE b.units (ix b (ev 8) (ev 6)) (W4 (yt b) (ev 3) (za (zq (pv 5)) (za (zq (pv 6)) ze))))))))
    (zk (zS (vf ve)))
    zJ)
   (zf (se 2 qX.nd (bt (fr:=false) (ie (ws:=[true,true,true]) (Jv T) rfl) (rm b) rfl T.yz.g T.yz.k T.yz.b (yy zE) (za (ev 0) (za (ev 1) (za (ev 2) ze)))))
   (zf (se 12 qX.nd (ec (zt T) b T.zp (yy zE) (za (ev 0) (za (EM.weak ei) (za (EM.weak ei) ze)))))
   (zf (yw (yX Xj Xt (ev 12) ei (y9 _))
    (zk (se 6 qX.nd (ix b (ev 1) (ec (zt T) b T.zp (yy zE) (za (ev 0) (za (EM.weak ei) (za (EM.weak (qW rfl T.vg (za (ev 1) ze))) ze)))))))
    zJ)
   (zf (yw (kj b.units (ev 12) ei)
    (zk (se 6 qX.nd (Yx Qv)))
    zJ)
   (zf (yw (kj b.units (ec (zt T) b T.zp (yy zE) (za (ev 0) (za (EM.weak ei) (za (EM.weak ei) ze)))) ei)
    (zk (se 5 qX.nd (Yx Qv)))
    zJ)
   (zf (se 11 qX.nd (ec (Qo T) b T.jB (yy zE) (za (ev 2) (za (ev 5) (za (ev 6) (za (ev 7) (za (ev 8) ze)))))))
   (zf (yw (K8 (Yy (ec (wu T) b T.qY (yy zE) (za (ev 2) (za (ev 5) (za (ev 6) (za (ev 7) (za (ev 8) (za (ev 11) ze)))))))))
    (zk (zS (vf ve)))
    zJ)
   (zk (zS (vn (YN T) (D3 1) (rm b) rfl T.yd.g T.yd.k T.yd.b (yy zE) (za (ev 1) (za (ev 2) (za (ev 5) (za (ev 6) (za (zq (pv 7)) (za (ev 8) (za (ev 11) ze)))))))))))))))))))))))))))))))))))
def zo(c:a ρ=.ok x)(hb:b ρ=.ok y)(h:f x y=.ok z):mOp f a b ρ=.ok z:=by unfold mOp;rw[c,okb,hb,okb,h]
def zx(h:ms ρ=.ok xs)(a:f xs=.ok x):zh f ms ρ=.ok x:=by unfold zh;rw[h,okb,a]
def zu(b:a ρ=.ok x)(h:ms ρ=.ok xs):zb a ms ρ=.ok (x::xs):=by unfold zb;rw[b,okb,h,okb]
def iQ(h:ms ρ=.ok xs)(a:xs.length<=sizeLine):ZD ms ρ=.ok (.l xs):=by unfold ZD;rw[h,okb,if_pos a]
def tP(c:a ρ=.ok (.i x))(b:0<n):mOp ZK a (mC (.i n)) ρ=.ok (.i (x % n)):=zo c rfl (Vj b)
def AO(d:a ρ=.ok (.i x))(b:0<n)(c:n<1073741824):mOp K3 a (mC (.i n)) ρ=.ok (.i (x / n)):=zo d rfl (pb b c)
def V3(b:a ρ=.ok (.i x)):zB (mOp (yP false) a (mC (.i n))) ρ=.ok (decide (x=n)):=by unfold zB;rw[zo (z:=.b (decide (x=n))) b rfl (d_.trans (by rw[M8]))];rfl
def c6(b:a ρ=.ok (.i x)):zB (mOp pGt a (mC (.i n))) ρ=.ok (decide (x>n)):=by unfold zB;rw[zo (z:=.b (decide (x>n))) b rfl rfl];rfl
def jV(c:a ρ=.ok x)(hb:b ρ=.ok y):Je a b ρ=.ok (x&&y):=by
 unfold Je;rw[c,okb];cases x
 .rfl
 .rw[if_pos rfl,hb];rfl
def zA(h:c ρ=.ok x):sIf c a b ρ=if x=true then a ρ else b ρ:=by unfold sIf;rw[h,okb]
def Z5(h:m ρ=.ok x):jc m ρ=.ok (.rt x):=by unfold jc;rw[h,okb]
def pO(b:a ρ=.ok (.i x)):zB (mOp pLt a (mC (.i n))) ρ=.ok (decide (x<n)):=by unfold zB;rw[zo (z:=.b (decide (x<n))) b rfl rfl];rfl
def zC(h:m ρ=.ok (.b b)):zB m ρ=.ok b:=by unfold zB;rw[h];rfl
def QX(c:a ρ=.ok x)(hb:b ρ=.ok y):mOr a b ρ=.ok (x||y):=by
 unfold mOr;rw[c,okb];cases x
 .rw[if_neg F6,hb];rfl
 .rfl
def V4(b:a ρ=.ok x):lR a ρ=.ok (!x):=by unfold lR;rw[b,okb]
def X9(c:a ρ=.ok (.b x))(hb:b ρ=.ok (.b y)):bo a b ρ=.ok (.b (x&&y)):=by
 unfold bo;rw[c,okb];show(Out.ok x).bind _=_;rw[okb];cases x
 .rfl
 .rw[if_pos rfl,hb];rfl
def sz5{z:Str}(h:z.length<=100000):z.length<=sizeLine:=F2 h (by decide)
def signs_at(h:m ρ=.ok (.s z)):U0 m ρ=.ok (z.cps.toList.map λc=>PV.s ⟨#[c]⟩):=by unfold U0;rw[h,okb];rfl
def Jw(h:ms ρ=.ok xs)(a:xs.length<=sizeLine):Xv ms ρ=.ok (.t xs):=by unfold Xv;rw[h,okb,if_pos a]
def Qq(c:a ρ=.ok false):Je a b ρ=.ok false:=by unfold Je;rw[c,okb];rfl
def zw(h:p ρ G=.nx ρ' G')(a:q ρ' G'=o):ZE p q ρ G=o:=by unfold ZE;rw[h];exact a
def iR(h:p ρ G=.rt x G'):ZE p q ρ G=.rt x G':=by unfold ZE;rw[h]
def nR(h:c ρ G=.ok false G'):hIf c p q ρ G=q ρ G':=by unfold hIf;rw[h];rfl
def nS(h:c ρ G=.ok true G'):hIf c p q ρ G=p ρ G':=by unfold hIf;rw[h];rfl
def c7(c:Wi bs ρ=some r)(a:m r=.ok b):hPT bs m ρ G=.ok b G:=by unfold hPT;rw[c];dsimp only;rw[a]
def tQ(d:Wi bs ρ=none)(a:Kv G bs ρ=some r)(c:m r=.ok b):hPT bs m ρ G=.ok b G:=by unfold hPT;rw[d,a];dsimp only;rw[c]
def nU(b:Wi bs ρ=some r)(a:m r=.ok x):hP bs m ρ G=.ok (.v x) G:=by unfold hP;rw[b];dsimp only;rw[a]
def wW(h:m ρ G=.ok x G'):Vw i m ρ G=.nx (ρ.set i (some x)) G':=by unfold Vw;rw[h];rfl
def iT(h:m ρ G=.ok x G'):pG m ρ G=.rt x G':=by unfold pG;rw[h];rfl
def lY(h:Kv G bs ρ=some r):Kv G (false::bs) (a::ρ)=some (none::r):=by show(Kv G bs ρ).map _=_;rw[h];rfl
def lZ(a:XS G 8 x=some y)(h:Kv G bs ρ=some r):Kv G (true::bs) (some x::ρ)=some (some y::r):=by show(XS G 8 x).bind _=_;rw[a,h];rfl
def Dm(h:a.length+b.length<=n)(c:n<=100000):yk (.s a) (.s b)=.ok (.s (a++b)):=by have:a.length+b.length<=sizeLine:=F2 (F2 h c) (by decide);unfold yk;simp only[this,if_true]
def AQ(a:0<=i)(b:i<xs.length):pIx (.l xs) (.i i)=.ok (xs[i.toNat]'(by omega)):=by rw[sA,US a,E5 (by omega)];rfl
def wX{xs:Ea}{i:Int}(b:0<=i)(a:i<xs.length):∃y∈xs,pIx (.l (xs.map .s)) (.i i)=.ok (.s y):=
 ⟨xs[i.toNat]'(by omega),a0N _,by rw[AQ b (by rw[D0];exact a),List.getElem_map]⟩
def AR{xs:EB}{i:Int}(b:0<=i)(a:i<xs.length):∃y∈xs,pIx (.l (xs.map .i)) (.i i)=.ok (.i y):=
 ⟨xs[i.toNat]'(by omega),a0N _,by rw[AQ b (by rw[D0];exact a),List.getElem_map]⟩
def any_map{a c d:Type}[DecidableEq a]{f:c->d}{kvs:List (a×c)}{k:a}:(kvs.map λp=>(p.1,f p.2)).any (λb=>decide (b.1=k))=kvs.any (λb=>decide (b.1=k)):=by rw[List.any_map];rfl
def nV{b a c:Type}[DecidableEq b]{f:a->c}{kvs:List (b×a)}{k:b}{x:a}:dput (kvs.map λp=>(p.1,f p.2)) k (f x)=(dput kvs k x).map λp=>(p.1,f p.2):=by
 unfold dput;rw[any_map];split
 .rw[G5,G5];refine R8 λp _=>?_;show(if p.1=k then(p.1,f x)else(p.1,f p.2))=((if p.1=k then(p.1,x)else p).1,f (if p.1=k then(p.1,x)else p).2);split<;>rfl
 .rw[M6];rfl
theorem ar{b c d:Type}[DecidableEq b]{f:c->d}:∀{a:List (b×c)}{k:b},zr (a.map λp=>(p.1,f p.2)) k=(zr a k).map f
 |[],_=>rfl
 | (j,u)::a,k=>by rw[E6,zL,zL,ar];split<;>rfl
abbrev Wy:=Str×Str×Int
abbrev Ht:=List (Key×Int)
abbrev sk(z:Str):Key:=Sum.inr z
def wP(w:Wy):PV:=.t [.s w.1,.s w.2.1,.i w.2.2]
def hD(h:Ht):List (Key×PV):=h.map λp=>(p.1,.i p.2)
def V5:zr (hD h) k=(zr h k).map .i:=ar
def pP:dput (hD h) k (.i v)=hD (dput h k v):=nV
def AS:(hD h).length=h.length:=D0 _
def rlx(u:Ht×Bool)(w:Wy):Ht×Bool:=
 match zr u.1 (sk w.1)with
 |none=>u
 |some x=>match zr u.1 (sk w.2.1)with
  |none=>(dput u.1 (sk w.2.1) (x+w.2.2),true)
  |some y=>if x+w.2.2<y then(dput u.1 (sk w.2.1) (x+w.2.2),true)else u
def tR(h:Ht):Nat:=(h.map λp=>p.2.toNat).sum
def Sup(V:List Wy)(o:Str)(h:Ht):Prop:=∀g y,zr h g=some y->g=sk o\/∃w∈V,sk w.2.1=g/\∃x,zr h (sk w.1)=some x/\x+w.2.2<=y
structure eU(V:List Wy)(K:ET)(o:Str)(h:Ht):Prop where
 sup:Sup V o h
 nd:(h.map (·.1)).Nodup
 sub:∀k∈h.map (·.1),k∈K
 pos:∀k x,zr h k=some x->0<=x
 own:zr h (sk o)=some 0
def ko(h:Ht)(w:Wy):Prop:=∀x,zr h (sk w.1)=some x->∃y,zr h (sk w.2.1)=some y/\y<=x+w.2.2
def tS(K:ET)(h' h:Ht):Prop:=Prod.Lex (·<·) (·<·) (K.length-h'.length,tR h') (K.length-h.length,tR h)
theorem V6{d:Type}[DecidableEq d]:∀{a b:List d},a.Nodup->(∀x∈a,x∈b)->a.length<=b.length
 |[],b,_,_=>M7 _
 |x::a,b,j,h=>by have c:=h x D8;obtain⟨g,i⟩:=O7.mp j;have:=V6 (a:=a) (b:=b.erase x) i λy f=>(List.mem_erase_of_ne (show y≠x from λe=>g (e▸f))).mpr (h y (D5 _ f));rw[List.length_erase_of_mem c]at this;have hb:0<b.length:=List.length_pos_of_mem c;rw[D4];omega
def eU.len{V:List Wy}{K:ET}{o:Str}{h:Ht}(i:eU V K o h):h.length<=K.length:=by
 have:=V6 i.nd i.sub
 rwa [D0]at this
theorem iU{k:Key}{v:Int}:∀{h:Ht}{y:Int},(h.map (·.1)).Nodup->zr h k=some y->v.toNat<y.toNat->tR (h.map λa=>if a.1=k then(a.1,v)else a)<tR h
 |[],y,_,e,_=>by cases e
 | (j,x)::h,y,g,e,b=>by
  rw[zL]at e;obtain⟨d,f⟩:=O7.mp g;by_cases c:j=k
  .subst c;rw[if_pos rfl]at e;cases e;have:(h.map λa=>if a.1=j then(a.1,v)else a)=h:=by
    conv=>rhs;rw[<- List.map_id h]
    refine R8 λp hp=>?_;rw[if_neg (show ¬p.1=j from λz=>d (G7.mpr ⟨p,hp,z⟩))];rfl
   unfold tR;rw[E6,this,if_pos rfl,E6,E6,a1u,a1u];exact Nat.add_lt_add_right b _
  .rw[if_neg c]at e;have:=iU f e b;unfold tR at this ⊢;rw[E6,if_neg c,E6,E6,a1u,a1u];exact Nat.add_lt_add_left this _
def Sup.put{V:List Wy}{o:Str}{h:Ht}{w:Wy}{x:Int}(i:Sup V o h)(l:w∈V)(q:1<=w.2.2)(b:zr h (sk w.1)=some x)(f:∀y,zr h (sk w.2.1)=some y->x+w.2.2<y):Sup V o (dput h (sk w.2.1) (x+w.2.2)):=by
 have n:¬sk w.2.1=sk w.1:=λc=>by rw[<- c]at b;have:=f x b;omega
 intro g y e;rw[jL]at e;split at e
 .rename_i c;cases e;refine .inr ⟨w,l,c,x,?_,O8 _⟩;rw[jL,if_neg n];exact b
 .rcases i g y e with r|⟨p,d,m,j,a,le⟩
  .exact .inl r
  .refine .inr ⟨p,d,m,?_⟩;rw[jL];split
   .rename_i c;rw[<- c]at a;have:=f j a;exact⟨_,rfl,by omega⟩
   .exact⟨j,a,le⟩
def pQ{V:List Wy}{K:ET}{o:Str}{u:Ht×Bool}{w:Wy}(i:eU V K o u.1)(l:w∈V)(q:sk w.2.1∈K)(m:1<=w.2.2):eU V K o (rlx u w).1/\((rlx u w=u/\ko u.1 w)\/((rlx u w).2=true/\tS K (rlx u w).1 u.1)):=by
 unfold rlx;cases g:zr u.1 (sk w.1)with
 |none=>exact⟨i,.inl ⟨rfl,λx e=>by rw[g]at e;cases e⟩⟩
 |some x=>
  have s:=i.pos _ _ g;dsimp only;cases b:zr u.1 (sk w.2.1)with
  |none=>
   have h:eU V K o (dput u.1 (sk w.2.1) (x+w.2.2)):=by
    refine⟨i.sup.put l m g (λy e=>by rw[b]at e;cases e),W5 i.nd,λk d=>?_,λk y e=>?_,?_⟩
    .rw[QM,b]at d;rcases G8.mp d with d|d
     .exact i.sub k d
     .rw[F7.mp d];exact q
    .rw[jL]at e;split at e
     .cases e;omega
     .exact i.pos k y e
    .rw[jL];split
     .rename_i z;rw[z]at b;rw[i.own]at b;cases b
     .exact i.own
   refine⟨h,.inr ⟨rfl,.left _ _ ?_⟩⟩;have p:=h.len;have:(dput u.1 (sk w.2.1) (x+w.2.2)).length=u.1.length+1:=by have:=M4 List.length (QM (a:=u.1) (k:=sk w.2.1) (v:=x+w.2.2));rw[b,D0]at this;rw[this];simp
   dsimp only at p ⊢;omega
  |some y=>
   dsimp only;by_cases c:x+w.2.2<y
   .rw[if_pos c];have d:(zr u.1 (sk w.2.1)).isSome=true:=by rw[b];rfl
    have h:eU V K o (dput u.1 (sk w.2.1) (x+w.2.2)):=by
     refine⟨i.sup.put l m g (λz e=>by rw[b]at e;cases e;exact c),W5 i.nd,λk f=>?_,λk z e=>?_,?_⟩
     .rw[QM,if_pos d]at f;exact i.sub k f
     .rw[jL]at e;split at e
      .cases e;omega
      .exact i.pos k z e
     .rw[jL];split
      .rename_i z;rw[z,i.own]at b;cases b;omega
      .exact i.own
    refine⟨h,.inr ⟨rfl,?_⟩⟩;have r:dput u.1 (sk w.2.1) (x+w.2.2)=u.1.map λj=>if j.1=sk w.2.1 then(j.1,x+w.2.2)else j:=by unfold dput;rw[wN,if_pos d]
    have n:=iU (v:=x+w.2.2) i.nd b (by omega);unfold tS;dsimp only;rw[r,D0];exact .right _ n
   .rw[if_neg c];exact⟨i,.inl ⟨rfl,λz e=>by rw[g]at e;cases e;exact⟨y,b,by omega⟩⟩⟩
def eV(d:tS K a b)(e:tS K b c):tS K a c:=by unfold tS at *;rw[Prod.lex_def]at *;dsimp only at *;omega
theorem c8{V:List Wy}{K:ET}{o:Str}:∀{W:List Wy}{u:Ht×Bool},eU V K o u.1->(∀w∈W,w∈V/\sk w.2.1∈K/\1<=w.2.2)->eU V K o (W.foldl rlx u).1/\((W.foldl rlx u=u/\∀w∈W,ko u.1 w)\/((W.foldl rlx u).2=true/\tS K (W.foldl rlx u).1 u.1))
 |[],u,i,_=>⟨i,.inl ⟨rfl,λw h=>by cases h⟩⟩
 |w::W,u,i,f=>by
  obtain⟨v,g,m⟩:=f w D8;obtain⟨l,s⟩:=pQ (u:=u) (w:=w) i v g m;obtain⟨p,a⟩:=c8 (W:=W) (u:=rlx u w) l λc h=>f c (D5 _ h);refine⟨p,?_⟩;rw[a0w];rcases s with⟨n,r⟩|⟨q,d⟩
  .rw[n]at a ⊢;rcases a with⟨b,e⟩|a
   .refine .inl ⟨b,λc h=>?_⟩;rcases G0.mp h with rfl|h
    .exact r
    .exact e c h
   .exact .inr a
  .rcases a with⟨b,e⟩|⟨x,j⟩
   .rw[b];exact .inr ⟨q,d⟩
   .exact .inr ⟨x,eV j d⟩
def tT(r:E_):Prop:=∃a b c d,r=[a,b,c,d]
abbrev hSt(o:Str)(W:List Wy)(h:Ht)(b:Bool)(r:E_):Sto:=[some (.s o),some (.l (W.map wP)),some (.d (hD h)),some (.b b)]++r
def Zd(c:a ρ=.ok (.s z))(b:zc i ρ=.ok (.d (hD h))):zB (mOp (pIn n) a (zc i)) ρ=.ok (xor n (zr h (sk z)).isSome):=by refine zC (zo c b ?_);show Out.ok (PV.b (xor n (zr (hD h) (sk z)).isSome))=_;rw[V5,O1]
def vv(d:a ρ=.ok (.s z))(b:zc i ρ=.ok (.d (hD h)))(c:zr h (sk z)=some x):mOp pIx (zc i) a ρ=.ok (.i x):=by refine zo b d ?_;show vk (zr (hD h) (sk z))=_;rw[V5,c];rfl
def W_(c:a ρ=.ok true):mOr a b ρ=.ok true:=by unfold mOr;rw[c,okb];rfl
def tU{o:Str}{W:List Wy}{h:Ht}{b:Bool}{w:Wy}{a7:EI}(p:h.length<100000):∃j,qL [some (.s o),some (.l (W.map wP)),some (.d (hD h)),some (.b b),some (.s w.1),some (.s w.2.1),some (.i w.2.2),a7]=.ok (.nx [some (.s o),some (.l (W.map wP)),some (.d (hD (rlx (h,b) w).1)),some (.b (rlx (h,b) w).2),some (.s w.1),some (.s w.2.1),some (.i w.2.2),j]):=by
 have e:=zA (ρ:=[some (.s o),some (.l (W.map wP)),some (.d (hD h)),some (.b b),some (.s w.1),some (.s w.2.1),some (.i w.2.2),a7]) (a:=zZ (qu 7 (mOp yk (mOp pIx (zc 2) (zc 4)) (zc 6))) (sIf (mOr (zB (mOp (pIn true) (zc 5) (zc 2))) (zB (mOp pLt (zc 7) (mOp pIx (zc 2) (zc 5))))) (zZ (cK 2 (zc 5) (zc 7)) (qu 3 (mC (.b true)))) zP)) (b:=zP) (Zd (n:=false) (a:=zc 4) (i:=2) rfl rfl);unfold rlx;dsimp only;cases g:zr h (sk w.1)with
 |none=>rw[g]at e;exact⟨a7,e⟩
 |some x=>
  rw[g]at e;have put:∀{d:Sto},d=[some (.s o),some (.l (W.map wP)),some (.d (hD h)),some (.b b),some (.s w.1),some (.s w.2.1),some (.i w.2.2),some (.i (x+w.2.2))]->zZ (cK 2 (zc 5) (zc 7)) (qu 3 (mC (.b true))) d=.ok (.nx [some (.s o),some (.l (W.map wP)),some (.d (hD (dput h (sk w.2.1) (x+w.2.2)))),some (.b true),some (.s w.1),some (.s w.2.1),some (.i w.2.2),some (.i (x+w.2.2))]):=λ{d} f=>by subst f;refine zd ⟨[some (.s o),some (.l (W.map wP)),some (.d (hD (dput h (sk w.2.1) (x+w.2.2)))),some (.b true),some (.s w.1),some (.s w.2.1),some (.i w.2.2),some (.i (x+w.2.2))].set 3 (some (.b b)),?_,rfl⟩;show(if(hD h).length<sizeLine then Out.ok (Fw.nx [some (.s o),some (.l (W.map wP)),some (.d (dput (hD h) (sk w.2.1) (.i (x+w.2.2)))),some (.b b),some (.s w.1),some (.s w.2.1),some (.i w.2.2),some (.i (x+w.2.2))])else .wall)=_;rw[if_pos (by rw[AS];exact E7 p (by decide)),pP];rfl
  have q:qu 7 (mOp yk (mOp pIx (zc 2) (zc 4)) (zc 6)) [some (.s o),some (.l (W.map wP)),some (.d (hD h)),some (.b b),some (.s w.1),some (.s w.2.1),some (.i w.2.2),a7]=.ok (.nx [some (.s o),some (.l (W.map wP)),some (.d (hD h)),some (.b b),some (.s w.1),some (.s w.2.1),some (.i w.2.2),some (.i (x+w.2.2))]):=z_ (zo (vv rfl rfl g) rfl rfl);refine⟨some (.i (x+w.2.2)),e.trans ?_⟩;show zZ _ _ _=_;refine zd ⟨_,q,?_⟩;cases l:zr h (sk w.2.1)with
  |none=>refine(zA (W_ ((Zd (n:=true) (a:=zc 5) (i:=2) rfl rfl).trans (by rw[l];rfl)))).trans ?_;exact put rfl
  |some y=>
   dsimp only;have t:=zA (ρ:=[some (.s o),some (.l (W.map wP)),some (.d (hD h)),some (.b b),some (.s w.1),some (.s w.2.1),some (.i w.2.2),some (.i (x+w.2.2))]) (a:=zZ (cK 2 (zc 5) (zc 7)) (qu 3 (mC (.b true)))) (b:=zP) (QX (x:=false) ((Zd (n:=true) (a:=zc 5) (i:=2) rfl rfl).trans (by rw[l];rfl)) (zC (m:=mOp pLt (zc 7) (mOp pIx (zc 2) (zc 5))) (b:=decide (x+w.2.2<y)) (zo rfl (vv rfl rfl l) rfl)));refine t.trans ?_;by_cases c:x+w.2.2<y
   .rw[if_pos c,D6 c];exact put rfl
   .rw[if_neg c,D7 c];rfl
theorem c9{K:ET}{o:Str}{W:List Wy}(p:K.length<=1000)(n:∀w∈W,sk w.2.1∈K/\1<=w.2.2):∀{V:List Wy}{u:Ht×Bool}{r:E_},(∀w∈V,w∈W)->eU W K o u.1->tT r->∃a,tT a/\vd w6 qL (V.map wP) (hSt o W u.1 u.2 r)=.ok (.nx (hSt o W (V.foldl rlx u).1 (V.foldl rlx u).2 a))
 |[],u,r,_,_,d=>⟨r,d,rfl⟩
 |w::V,u,r,l,i,d=>by obtain⟨y,x,z,f,rfl⟩:=d;obtain⟨c,e⟩:=tU (o:=o) (W:=W) (h:=u.1) (b:=u.2) (w:=w) (a7:=f) (P6 (F2 i.len p) (by decide));obtain⟨g,m⟩:=n w (l w D8);obtain⟨v,_⟩:=pQ (u:=u) (w:=w) i (l w D8) g m;obtain⟨a,j,q⟩:=c9 p n (V:=V) (u:=rlx u w) (r:=[some (.s w.1),some (.s w.2.1),some (.i w.2.2),c]) (λs h=>l s (D5 _ h)) v ⟨_,_,_,_,rfl⟩;refine⟨a,j,?_⟩;rw[a0w,<- q];show(qL [some (.s o),some (.l (W.map wP)),some (.d (hD u.1)),some (.b u.2),some (.s w.1),some (.s w.2.1),some (.i w.2.2),f]).bind _=_;rw[e];rfl
theorem pR(m:K.length<=1000)(f:∀w∈W,sk w.2.1∈K/\1<=w.2.2)(h:Ht)(i:eU W K o h)(r:E_)(y:tT r):∃n a l,eU W K o a/\(∀w∈W,ko a w)/\qF qM yA n (hSt o W h true r)=.ok (.nx (hSt o W a false l)):=by
 obtain⟨c,g,x⟩:=c9 (o:=o) m f (V:=W) (u:=(h,false)) (λw h=>h) i y;obtain⟨v,z⟩:=c8 (W:=W) (u:=(h,false)) i λw h=>⟨h,f w h⟩;have s:yA (hSt o W h true r)=.ok (.nx (hSt o W (W.foldl rlx (h,false)).1 (W.foldl rlx (h,false)).2 c)):=zd ⟨hSt o W h false r,rfl,qG (yh rfl) x⟩;have one:∀{n d},qF qM yA n (hSt o W (W.foldl rlx (h,false)).1 (W.foldl rlx (h,false)).2 c)=d->qF qM yA (n+1) (hSt o W h true r)=d:=λ{n d} e=>by show(yA (hSt o W h true r)).bind _=_;rw[s];exact e
 rcases z with⟨q,j⟩|⟨A,b⟩
 .refine⟨2,h,c,i,j,one ?_⟩;rw[q];rfl
 .obtain⟨n,a,l,p,j,e⟩:=pR m f (W.foldl rlx (h,false)).1 v c g;refine⟨n+1,a,l,p,j,one ?_⟩;rw[A];exact e
termination_by (K.length-h.length,tR h)
decreasing_by exact b
def Jx(o:Str)(W:List Wy)(h:Ht):Prop:=eU W (sk o::W.map λw=>sk w.2.1) o h/\∀w∈W,ko h w
def Xa(m:W.length<=100)(f:∀w∈W,1<=w.2.2):∃h,Jx o W h/\yo [.s o,.l (W.map wP)]=.ok (.d (hD h)):=by
 have b:eU W (sk o::W.map λw=>sk w.2.1) o [(sk o,0)]:=by
  refine⟨λg y e=>?_,O7.mpr ⟨by simp,a1o⟩,λk i=>?_,λk x e=>?_,?_⟩
  .rw[zL]at e;split at e
   .rename_i c;exact .inl c.symm
   .cases e
  .rw[F7.mp i];exact D8
  .rw[zL]at e;split at e
   .cases e;exact O8 _
   .cases e
  .rw[zL,if_pos rfl]
 obtain⟨n,l,p,d,j,e⟩:=pR (o:=o) (W:=W) (K:=sk o::W.map λw=>sk w.2.1) (by rw[D4,D0];omega) (λw a=>⟨D5 _ (G7.mpr ⟨w,a,rfl⟩),f w a⟩) [(sk o,0)] b [none,none,none,none] ⟨_,_,_,_,rfl⟩;refine⟨l,⟨d,j⟩,zF ?_⟩;exact zd ⟨_,rfl,zd ⟨hSt o W [(sk o,0)] true [none,none,none,none],rfl,zd ⟨_,UT e (by intro z;cases z),rfl⟩⟩⟩
abbrev signs:Str:="abcdefghijklmnopqrstuvwxyz0123456789"
def str_inj{a b a' c:Str}(f:a.length=a'.length)(h:a++b=a'++c):a=a'/\b=c:=by have d:a.cps++b.cps=a'.cps++c.cps:=M4 Str.cps h;have:=Array.append_inj d f;obtain⟨x⟩:=a;obtain⟨y⟩:=b;obtain⟨i⟩:=a';obtain⟨g⟩:=c;obtain⟨d,e⟩:=this;exact⟨M4 Str.mk d,M4 Str.mk e⟩
def Sgs(z:Str):Prop:=∀c∈z.cps.toList,c∈signs.cps.toList
def Sgs.app(f:Sgs a)(hb:Sgs b):Sgs (a++b):=λc d=>by have e:(a++b).cps.toList=a.cps.toList++b.cps.toList:=Array.toList_append;rw[e]at d;exact(G8.mp d).elim (f c) (hb c)
def Nm(z:Str):Prop:=(1<=z.length/\z.length<=12)/\Sgs z
def nodup_range{d:Type}{f:Nat->d}(h:∀j k,j<n->k<n->f j=f k->j=k):((List.range n).map f).Nodup:=by rw[a1v,List.pairwise_map];refine List.Pairwise.imp_of_mem ?_ (a1v.mp List.nodup_range);intro a b g hb c e;exact c (h a b (a0C.mp g) (a0C.mp hb) e)
def CB(b:a ρ=.ok (.i n)):wM a ρ=.ok (some n):=by unfold wM;rw[b];rfl
def WOk(N:Ea)(W:List Wy):Prop:=∀w∈W,w.1∈N/\w.2.1∈N/\1<=w.2.2/\w.2.2<=1000000000
def wx{a:Type}{f:a->PV}{xs:List a}:kf [.l (xs.map f)]=.ok (.i (xs.length:Int)):=by show Out.ok (PV.i ((xs.map f).length:Int))=_;rw[D0]
def iV{N:Ea}{s:Int}(h:0<N.length):∃z∈N,pIx (.l (N.map .s)) (.i (s % (N.length:Int)))=.ok (.s z):=
 wX (a1j _ (by omega)) (a0X _ (by omega))
def nW{fr:Bool}{n:Nat}{ms:MS}{xs:Ew}{ρ:Sto}(hf:fr=false)(h:ms (xs.map some++List.replicate (n-xs.length) none)=.ok (.nx ρ)):ZA fr n ms xs=.ok .n:=by subst hf;unfold ZA;rw[h];rfl
def j6(h:m ρ=.ok x):Yu m ρ=.ok (.nx ρ):=by unfold Yu;rw[h];rfl
def iW{x:PV}{n:Int}{k:Nat}(h:kf [x]=.ok (.i (k:Int)))(a:(k:Int)<=n):qw [x,.i n]=.ok .n:=by refine nW rfl ((zA (x:=false) (zC (zo (zx (xs:=[x]) rfl h) rfl ?_))).trans (show _=Out.ok (Fw.nx [some x,some (.i n)])from rfl));show Out.ok (PV.b (decide ((k:Int)>n)))=_;rw[D7 (by omega)]
def tV(h:Nm z):qj [.s z]=.ok (.s z):=by
 obtain⟨⟨l1,l2⟩,hs⟩:=h;have hl:kf [.s z]=.ok (.i z.length):=xZ (sz5 (by omega));have loop:∀{cs:Eb}{o:EI},(∀c∈cs,c∈signs.cps.toList)->∃o',vd Za qN (cs.map λc=>PV.s ⟨#[c]⟩) [some (.s z),o]=.ok (.nx [some (.s z),o']):=by
  intro cs
  induction cs with
  |nil=>intro o _;exact⟨o,rfl⟩
  |cons c cs ih=>
   intro o hc;obtain⟨o',e⟩:=ih (o:=some (.s ⟨#[c]⟩)) λx hx=>hc x (D5 _ hx);refine⟨o',?_⟩;have eb:qN [some (.s z),some (.s ⟨#[c]⟩)]=.ok (.nx [some (.s z),some (.s ⟨#[c]⟩)]):=by refine(zA (x:=false) (zC (zo (x:=.s ⟨#[c]⟩) (y:=.s signs) rfl rfl ?_))).trans rfl;show Out.ok (PV.b (xor true (!(Builtin.Str.occurrences signs ⟨#[c]⟩ 0 signs.length 1).isEmpty)))=_;rw[StrLaws.found_one,D6 (hc c D8)];rfl
   show(qN [some (.s z),some (.s ⟨#[c]⟩)]).bind _=_;rw[eb];exact e
 obtain⟨o',e⟩:=loop (cs:=z.cps.toList) (o:=none) hs;refine zF (zd ⟨_,(zA (QX (x:=false) (y:=false) ((pO (x:=(z.length:Int)) (zx (xs:=[.s z]) rfl hl)).trans (by rw[D7 (by omega)])) ((c6 (x:=(z.length:Int)) (zx (xs:=[.s z]) rfl hl)).trans (by rw[D7 (by omega)])))).trans (show _=Out.ok (Fw.nx [some (.s z),none])from rfl),zd ⟨_,qG (signs_at rfl) e,rfl⟩⟩)
def Xb(P:Ea):List (Key×PV):=P.map λz=>(sk z,.b true)
def c_(h:z∉P):zr (Xb P) (sk z)=none:=by
 cases e:zr (Xb P) (sk z)with
 |none=>rfl
 |some x=>have:=XX e;obtain⟨y,a,b⟩:=G7.mp this;cases b;exact absurd a h
def iX{N:Ea}(c:N.Nodup)(d:∀z∈N,Nm z)(m:N.length<=12):qo [.l (N.map .s)]=.ok .n:=by
 have loop:∀{R P:Ea}{o:EI},P++R=N->∃a b,vd Zc qO (R.map .s) [some (.l (N.map .s)),some (.d (Xb P)),o]=.ok (.nx [some (.l (N.map .s)),some (.d (Xb a)),b]):=by
  intro R
  induction R with
  |nil=>intro P o _;exact⟨P,o,rfl⟩
  |cons z R i=>
   intro P o e;obtain⟨a,b,j⟩:=i (P:=P++[z]) (o:=some (.s z)) (by rw[a0f];exact e);refine⟨a,b,?_⟩;have hz:z∉P:=λh=>by rw[<- e]at c;exact(a03.mp c).2.2 z h z D8 rfl
   have g:z∈N:=by rw[<- e];exact L7 _ D8
   have hp:(Xb P).length<=12:=by have:=M4 List.length e;rw[E8]at this;unfold Xb;rw[D0];omega
   have en:yi [.s z,.d (Xb P)]=.ok (.s z):=by refine zF (zd ⟨_,j6 (zx (xs:=[.s z]) rfl (tV (d z g))),zd ⟨_,(zA (x:=false) (zC (zo (x:=.s z) (y:=.d (Xb P)) rfl rfl ?_))).trans (show _=Out.ok (Fw.nx [some (.s z),some (.d (Xb P))])from rfl),rfl⟩⟩);show Out.ok (PV.b (xor false (zr (Xb P) (sk z)).isSome))=_;rw[c_ hz];rfl
   have f:dput (Xb P) (sk z) (.b true)=Xb (P++[z]):=by unfold dput;rw[wN,c_ hz];unfold Xb;rw[M6];rfl
   have l:qO [some (.l (N.map .s)),some (.d (Xb P)),some (.s z)]=.ok (.nx [some (.l (N.map .s)),some (.d (Xb (P++[z]))),some (.s z)]):=by refine zd ⟨_,j6 (zx (xs:=[.s z,.d (Xb P)]) rfl en),?_⟩;show(if(Xb P).length<sizeLine then Out.ok (Fw.nx [some (.l (N.map .s)),some (.d (dput (Xb P) (sk z) (.b true))),some (.s z)])else .wall)=_;rw[if_pos (P6 hp (by decide)),f]
   show(qO [some (.l (N.map .s)),some (.d (Xb P)),some (.s z)]).bind _=_;rw[l];exact j
 obtain⟨a,b,e⟩:=loop (R:=N) (P:=[]) (o:=none) rfl;exact nW rfl (zd ⟨[some (.l (N.map .s)),some (.d (Xb [])),none],rfl,qG (yh rfl) e⟩)
theorem AU{z:Str}:∀{N:Ea},inP (.str z) (N.map .s)=some (decide (z∈N))
 |[]=>by rw[D7 (by simp)];rfl
 |y::N=>by
  show(match some (V.str y),inP (.str z) (N.map .s)with|some u,some b=>some (eqV u (.str z)||b)|_,_=>none)=_;rw[AU (N:=N)];show some ((y==z)||decide (z∈N))=_;congr 1;by_cases c:y=z
  .subst c;rw[T2,D6 D8];rfl
  .rw[O0.mpr c,Bool.false_or];by_cases h:z∈N
   .rw[D6 h,D6 (D5 _ h)]
   .rw[D7 h,D7 λq=>(G0.mp q).elim (λe=>c e.symm) h]
def CC{z:Str}{N:Ea}{n:Bool}:pIn n (.s z) (.l (N.map .s))=.ok (.b (xor n (decide (z∈N)))):=by show vk ((inP (.str z) (N.map .s)).map λb=>PV.b (xor n b))=_;rw[AU];rfl
def QY{z:Str}{N:Ea}(h:z∈N):ye [.s z,.l (N.map .s)]=.ok .n:=
 nW rfl ((zA (x:=false) (zC (zo (x:=.s z) (y:=.l (N.map .s)) rfl rfl (CC.trans (by rw[D6 h];rfl))))).trans (show _=Out.ok (Fw.nx [some (.s z),some (.l (N.map .s))])from rfl))
def iY(a:1<=m)(b:m<=1000000000):yD [.i m,.i 1]=.ok (.i m):=by refine zF (zd ⟨_,(zA (QX (x:=false) (y:=false) (zC (zo (x:=.i m) (y:=.i 1) rfl rfl ?_)) ((c6 (x:=m) rfl).trans (by rw[D7 (by omega)])))).trans (show _=Out.ok (Fw.nx [some (.i m),some (.i 1)])from rfl),rfl⟩);show Out.ok (PV.b (decide (m<1)))=_;rw[D7 (by omega)]
def nX(h:WOk N W):q_ [.l (N.map .s),.l (W.map wP)]=.ok .n:=by
 have loop:∀{V:List Wy}{a b c:EI},(∀w∈V,w∈W)->∃d g f,vd YI jR (V.map wP) [some (.l (N.map .s)),some (.l (W.map wP)),a,b,c]=.ok (.nx [some (.l (N.map .s)),some (.l (W.map wP)),d,g,f]):=by
  intro V
  induction V with
  |nil=>intro a b c _;exact⟨a,b,c,rfl⟩
  |cons w V n=>
   intro a b c i;obtain⟨j,m,o,q⟩:=h w (i w D8);obtain⟨d,g,f,e⟩:=n (a:=some (.s w.1)) (b:=some (.s w.2.1)) (c:=some (.i w.2.2)) λx l=>i x (D5 _ l);refine⟨d,g,f,?_⟩;have p:jR [some (.l (N.map .s)),some (.l (W.map wP)),some (.s w.1),some (.s w.2.1),some (.i w.2.2)]=.ok (.nx [some (.l (N.map .s)),some (.l (W.map wP)),some (.s w.1),some (.s w.2.1),some (.i w.2.2)]):=
    zd ⟨_,j6 (zx (xs:=[.s w.1,.l (N.map .s)]) rfl (QY j)),zd ⟨_,j6 (zx (xs:=[.s w.2.1,.l (N.map .s)]) rfl (QY m)),j6 (zx (xs:=[.i w.2.2,.i 1]) rfl (iY o q))⟩⟩
   show(jR [some (.l (N.map .s)),some (.l (W.map wP)),some (.s w.1),some (.s w.2.1),some (.i w.2.2)]).bind _=_;rw[p];exact e
 obtain⟨d,g,f,e⟩:=loop (V:=W) (a:=none) (b:=none) (c:=none) λw h=>h;exact nW rfl (qG (yh rfl) e)
def Uk(N:Ea)(F:Str->Ht):List (Key×PV):=N.map λz=>(sk z,.d (hD (F z)))
def roP(N:Ea)(W:List Wy)(F:Str->Ht):PV:=.o 6 [("places",.l (N.map .s)),("ways",.l (W.map wP)),("lengths",.d (Uk N F))]
def de:∀{acc:Er},((acc++es).map (·.1)).Nodup->es.foldl (λacc kv=>dput acc kv.1 kv.2) acc=acc++es:=by
 induction es with
 |nil=>intro acc _;rw[M5];rfl
 |cons e es ih=>
  intro acc nd;have hn:zr acc e.1=none:=by
   cases h:zr acc e.1 with
   |none=>rfl
   |some x=>have hm:e.1∈acc.map (·.1):=G7.mpr ⟨_,XX h,rfl⟩;rw[M6,E6]at nd;exact absurd rfl ((a03.mp nd).2.2 e.1 hm e.1 D8)
  have ed:dput acc e.1 e.2=acc++[e]:=by unfold dput;rw[wN,hn];rfl
  rw[a0w,ed,ih (by rw[a0f];exact nd),a0f];rfl
def nY(c:N.Nodup):((Uk N F).map (·.1)).Nodup:=by unfold Uk;rw[G5];exact List.Pairwise.map _ (λa b h e=>h (N7 e)) c
def iZ(h:o∈N):zr (Uk N F) (sk o)=some (.d (hD (F o))):=by
 induction N with
 |nil=>cases h
 |cons z N a=>
  unfold Uk;rw[E6,zL];by_cases c:sk z=sk o
  .rw[if_pos c];rw[N7 c]
  .rw[if_neg c];exact a ((G0.mp h).resolve_left λe=>c (by rw[e]))
theorem df{F:Str->Ht}:∀{N:Ea},lV (N.map λz=>.t [.s z,.d (hD (F z))])=some (Uk N F)
 |[]=>rfl
 |z::N=>by show(lV (N.map λz=>.t [.s z,.d (hD (F z))])).map ((sk z,PV.d (hD (F z)))::·)=_;rw[df (N:=N)];rfl
def i4(h:m (some (.o 6 fs)::r)=.ok v)(a:fs.length<1000):bu 0 [6] f m (some (.o 6 fs)::r)=.ok (.nx (some (.o 6 (lS fs f v))::r)):=by unfold bu;rw[h];show(if 6∈[6]/\fs.length<1000 then Out.ok (Fw.nx (some (PV.o 6 (lS fs f v))::r))else .wall)=_;rw[if_pos ⟨D8,a⟩]
structure ROk(N:Ea)(W:List Wy):Prop where
 len:N.length<=12
 nd:N.Nodup
 nm:∀z∈N,Nm z
 wl:W.length<=60
 ok:WOk N W
def bR(R:ROk N W):∃F:Str->Ht,∀z,Jx z W (F z)/\yo [.s z,.l (W.map wP)]=.ok (.d (hD (F z))):=
 ⟨λz=>Classical.choose (Xa (o:=z) (W:=W) (by have:=R.wl;omega) λw a=>(R.ok w a).2.2.1),λz=>O6 (Xa (o:=z) (W:=W) (by have:=R.wl;omega) λw a=>(R.ok w a).2.2.1)⟩
def tW(R:ROk N W)(hF:∀z,yo [.s z,.l (W.map wP)]=.ok (.d (hD (F z)))):qx [.l (N.map .s),.l (W.map wP)]=.ok (roP N W F):=by
 have hl:=R.len;have hw:=R.wl;have ec:lcP Z2 Z3 Z4 (N.map .s) [none,some (.l (W.map wP))] []=.ok (.l (N.map λz=>.t [.s z,.d (hD (F z))])):=by refine Vo PV.s (λz=>.t [.s z,.d (hD (F z))]) (λρ=>∃o,ρ=[o,some (.l (W.map wP))]) N [none,some (.l (W.map wP))] ⟨none,rfl⟩ (λz hz ρ ⟨o,ho⟩=>?_) (by omega);subst ho;exact⟨_,rfl,⟨_,rfl⟩,Jw (zu rfl (zu (zx (xs:=[.s z,.l (W.map wP)]) rfl (hF z)) rfl)) (F9 rfl)⟩
 have ed:ZN [.l (N.map λz=>.t [.s z,.d (hD (F z))])]=.ok (.d (Uk N F)):=by show vk ((lV (N.map λz=>.t [.s z,.d (hD (F z))])).map λes=>PV.d (Vs es))=_;rw[df];show Out.ok (PV.d (Vs (Uk N F)))=_;unfold Vs;rw[de (acc:=[]) (by rw[a0x];exact nY R.nd)];rfl
 have e:vt [some (.o 6 []),some (.l (N.map .s)),some (.l (W.map wP))]=.ok (.nx [some (roP N W F),some (.l (N.map .s)),some (.l (W.map wP))]):=by refine zd ⟨_,j6 (zx (xs:=[.l (N.map .s),.i 12]) rfl (iW wx (by omega))),zd ⟨_,j6 (zx (xs:=[.l (W.map wP),.i 60]) rfl (iW wx (by omega))),zd ⟨_,j6 (zx (xs:=[.l (N.map .s)]) rfl (iX R.nd R.nm hl)),zd ⟨_,j6 (zx (xs:=[.l (N.map .s),.l (W.map wP)]) rfl (nX R.ok)),zd ⟨_,i4 (v:=.l (N.map .s)) rfl (by decide),zd ⟨_,i4 (v:=.l (W.map wP)) rfl (F9 rfl),(i4 (v:=.d (Uk N F)) (zx (zu (bF (yh rfl) ec) rfl) ed) (F9 rfl)).trans ?_⟩⟩⟩⟩⟩⟩;rw[XJ,Vm (by decide +kernel),XJ,Vm (by decide +kernel),Vm (by decide +kernel),XJ];rfl
 show(match vt [some (.o 6 []),some (.l (N.map .s)),some (.l (W.map wP))]with | .ok (.nx ρ)=>(match ρ[0]? with|some (some x)=>Out.ok x|_=>.wall) | .ok (.rt _)=>.wall | .ok (.bk _)=>.wall | .ok (.ct _)=>.wall | .exc c fs=>.exc c fs | .wall=>.wall)=_;rw[e];rfl
def bS(h:m ρ=.ok (roP N W F)):aK [6] "places" m ρ=.ok (.l (N.map .s))/\aK [6] "lengths" m ρ=.ok (.d (Uk N F)):=by
 constructor
 .unfold aK;rw[h,okb];show(if 6∈[6]then vk (List.lookup ("places":Str) [("places",PV.l (N.map .s)),("ways",.l (W.map wP)),("lengths",.d (Uk N F))])else .wall)=_;rw[if_pos D8,gM];rfl
 .unfold aK;rw[h,okb];show(if 6∈[6]then vk (List.lookup ("lengths":Str) [("places",PV.l (N.map .s)),("ways",.l (W.map wP)),("lengths",.d (Uk N F))])else .wall)=_;rw[if_pos D8,Jj (by decide +kernel),Jj (by decide +kernel),gM];rfl
def nZ(h:o∈N):zY [roP N W F,.s o]=.ok (.d (hD (F o))):=by
 have g:=bS (m:=zc 0) (ρ:=[some (roP N W F),some (.s o)]) (N:=N) (W:=W) (F:=F) rfl;have ei:pIx (.d (Uk N F)) (.s o)=.ok (.d (hD (F o))):=by show vk (zr (Uk N F) (sk o))=_;rw[iZ h];rfl
 exact zF (zd ⟨_,j6 (zx (xs:=[.s o,.l (N.map .s)]) (zu rfl (zu g.1 rfl)) (QY h)),Z5 (zx (zu (zo g.2 rfl ei) rfl) rfl)⟩)
def Jx.n4(g:Jx o W h)(e:zr h (sk z)=some y)(hz:z≠o):∃w∈W,w.2.1=z/\∃x,zr h (sk w.1)=some x/\x+w.2.2=y:=by
 rcases g.1.sup _ _ e with c|⟨w,b,a,x,d,le⟩
 .exact absurd (N7 c) hz
 .have a:=N7 a;obtain⟨j,f,i⟩:=g.2 w b x d;rw[a,e]at f;cases f;exact⟨w,b,a,x,d,by omega⟩
def Jy(c:a ρ=.ok (.s x))(hb:b ρ=.ok (.s y)):zB (mOp (yP n) a b) ρ=.ok (xor n (decide (x=y))):=zC (zo c hb ni)
def tX(c:a ρ=.ok (.i x))(hb:b ρ=.ok (.i y)):zB (mOp (yP false) a b) ρ=.ok (decide (x=y)):=zC (zo c hb (d_.trans (by rw[M8])))
def n5(g:Jx o W h)(P:∀w∈W,1<=w.2.2)(e:zr h (sk z)=some y)(hz:z≠o):∃w∈W,w.2.1=z/\y8 [.s z,.d (hD h),.l (W.map wP)]=.ok (.s w.1)/\∃x,zr h (sk w.1)=some x/\x+w.2.2=y:=by
 have loop:∀{V:List Wy}{a b c:EI},(∀w∈V,w∈W)->(∃w∈V,w.2.1=z/\∃x,zr h (sk w.1)=some x/\x+w.2.2=y)->∃w∈W,w.2.1=z/\vd yS zX (V.map wP) [some (.s z),some (.d (hD h)),some (.l (W.map wP)),a,b,c]=.ok (.rt (.s w.1))/\∃x,zr h (sk w.1)=some x/\x+w.2.2=y:=by
  intro V
  induction V with
  |nil=>rintro a b c _ ⟨w,C,_⟩;cases C
  |cons w V Q=>
   intro a b c F B
   let M:=w
   have S:=P w (F w D8);have t:∀{x:Bool},Je (zB (mOp (yP false) (zc 4) (zc 0))) (Je (zB (mOp (pIn false) (zc 3) (zc 1))) (zB (mOp (yP false) (mOp yk (mOp pIx (zc 1) (zc 3)) (zc 5)) (mOp pIx (zc 1) (zc 0))))) [some (.s z),some (.d (hD h)),some (.l (W.map wP)),some (.s w.1),some (.s w.2.1),some (.i w.2.2)]=.ok x->zX [some (.s z),some (.d (hD h)),some (.l (W.map wP)),some (.s w.1),some (.s w.2.1),some (.i w.2.2)]=if x=true then jc (zc 3) [some (.s z),some (.d (hD h)),some (.l (W.map wP)),some (.s w.1),some (.s w.2.1),some (.i w.2.2)]else zP [some (.s z),some (.d (hD h)),some (.l (W.map wP)),some (.s w.1),some (.s w.2.1),some (.i w.2.2)]:=λO=>zA O
   have step:∀{f:Out Fw},zX [some (.s z),some (.d (hD h)),some (.l (W.map wP)),some (.s w.1),some (.s w.2.1),some (.i w.2.2)]=f->vd yS zX ((w::V).map wP) [some (.s z),some (.d (hD h)),some (.l (W.map wP)),a,b,c]=f.bind λf=>match f with
     |.nx d=>vd yS zX (V.map wP) d
     |.ct d=>vd yS zX (V.map wP) d
     |.bk d=>.ok (.nx d)
     |.rt v=>.ok (.rt v):=λ{f} J=>by
    rw[<- J];rfl
   have u:=Jy (ρ:=[some (.s z),some (.d (hD h)),some (.l (W.map wP)),some (.s w.1),some (.s w.2.1),some (.i w.2.2)]) (a:=zc 4) (b:=zc 0) (x:=w.2.1) (y:=z) (n:=false) rfl rfl;have q:=Zd (ρ:=[some (.s z),some (.d (hD h)),some (.l (W.map wP)),some (.s w.1),some (.s w.2.1),some (.i w.2.2)]) (h:=h) (z:=w.1) (n:=false) (a:=zc 3) (i:=1) rfl rfl;have E:zX [some (.s z),some (.d (hD h)),some (.l (W.map wP)),some (.s w.1),some (.s w.2.1),some (.i w.2.2)]=.ok (.nx [some (.s z),some (.d (hD h)),some (.l (W.map wP)),some (.s w.1),some (.s w.2.1),some (.i w.2.2)])->¬(w.2.1=z/\∃x,zr h (sk w.1)=some x/\x+w.2.2=y)->∃w∈W,w.2.1=z/\vd yS zX ((M::V).map wP) [some (.s z),some (.d (hD h)),some (.l (W.map wP)),a,b,c]=.ok (.rt (.s w.1))/\∃x,zr h (sk w.1)=some x/\x+w.2.2=y:=λI N=>by
    rw[step I];exact Q (λD L=>F D (D5 _ L)) (by
     obtain⟨D,j,r⟩:=B;rcases G0.mp j with rfl|j
     .exact absurd r N
     .exact⟨D,j,r⟩)
   by_cases s:w.2.1=z
   .cases l:zr h (sk w.1)with
    |none=>rw[l]at q;exact E ((t (jV (y:=false) u (Qq q))).trans (by rw[a0F];rfl)) λ⟨_,x,B,_⟩=>by rw[l]at B;cases B
    |some x=>
     rw[l]at q;have p:=t (jV u (jV q (tX (zo (vv (h:=h) (z:=w.1) (x:=x) rfl rfl l) rfl rfl) (vv rfl rfl e))));rw[D6 s]at p;by_cases A:x+w.2.2=y
     .rw[D6 A]at p;refine⟨w,F w D8,s,?_,x,l,A⟩;rw[step (f:=.ok (.rt (.s w.1))) p];rfl
     .rw[D7 A]at p;refine E p λ⟨_,R,m,r⟩=>?_;rw[l]at m;cases m;exact A r
   .rw[D7 s]at u;exact E ((t (Qq u)).trans rfl) λr=>s r.1
 obtain⟨w,C,H,K,G⟩:=loop (V:=W) (a:=none) (b:=none) (c:=none) (λw h=>h) (g.n4 e hz);exact⟨w,C,H,zF (qG (yh rfl) K),G⟩
def Jz:pIx (.l ((P++[z]).map .s)) (.i (-1))=.ok (.s z):=by
 have h:ixN ((P++[z]).map PV.s).length (-1)=some P.length:=by rw[D0,E8];unfold ixN;rw[if_neg (by decide),if_pos (by simp;omega)];congr 1;simp;omega
 rw[sA];unfold atI;rw[h];show vk (((P++[z]).map PV.s)[P.length]?)=_;rw[F4,P2 (D3 _),a1W];rfl
def ux:Option Int->PV
 |none=>.n
 |some x=>.i x
def pS(c:a ρ=.ok (.d (hD h)))(hb:b ρ=.ok (.s z)):uw a b ρ=.ok (ux (zr h (sk z))):=by unfold uw;rw[c,okb];show(b ρ).bind (sX (hD h))=_;rw[hb,okb];show Out.ok ((zr (hD h) (sk z)).getD .n)=_;rw[V5];cases zr h (sk z)<;>rfl
def Dn(d:a ρ=.ok (.d (Uk N F)))(hb:b ρ=.ok (.s o))(c:o∈N):mOp pIx a b ρ=.ok (.d (hD (F o))):=by refine zo d hb ?_;show vk (zr (Uk N F) (sk o))=_;rw[iZ c];rfl
def Xc(a:o∈N)(b:g∈N):zV [roP N W F,.s o,.s g]=.ok (ux (zr (F o) (sk g))):=by have q:=bS (m:=zc 0) (ρ:=[some (roP N W F),some (.s o),some (.s g)]) (N:=N) (W:=W) (F:=F) rfl;exact zF (zd ⟨_,j6 (zx (xs:=[.s o,.l (N.map .s)]) (zu rfl (zu q.1 rfl)) (QY a)),zd ⟨_,j6 (zx (xs:=[.s g,.l (N.map .s)]) (zu rfl (zu q.1 rfl)) (QY b)),Z5 (pS (Dn q.2 rfl a) rfl)⟩⟩)
def KD(ha:a ρ=.ok (roP N W F))(hm:ms ρ=.ok xs)(h1:(nm==("places":Str))=false)(h2:(nm==("ways":Str))=false)(h3:(nm==("lengths":Str))=false)(h:f (roP N W F::xs)=.ok x):XG [(6,f)] nm a ms ρ=.ok x:=by unfold XG;rw[ha,okb];show(if(List.lookup nm [("places",PV.l (N.map .s)),("ways",.l (W.map wP)),("lengths",.d (Uk N F))]).isSome=true then Out.wall else(ms ρ).bind λxs=>f (roP N W F::xs))=_;rw[Jj h1,Jj h2,Jj h3,x_,if_neg (by intro z;cases z),hm,okb];exact h
def n6(h:m ρ=.ok (roP N W F)):aK [6] "ways" m ρ=.ok (.l (W.map wP)):=by unfold aK;rw[h,okb];show(if 6∈[6]then vk (List.lookup ("ways":Str) [("places",PV.l (N.map .s)),("ways",.l (W.map wP)),("lengths",.d (Uk N F))])else .wall)=_;rw[if_pos D8,Jj (by decide +kernel),gM];rfl
def dg(a:ms ρ=.ok [.s x,.s y])(b:m ρ=.ok (.dt L)):zB (U1 n ms m) ρ=.ok (xor n (zr L [sk x,sk y]).isSome):=by refine zC ?_;unfold U1;rw[a];show(m ρ).bind (inT n [sk x,sk y])=_;rw[b];rfl
def au(b:m ρ=.ok (.dt L))(a:ms ρ=.ok [.s x,.s y])(e:zr L [sk x,sk y]=some v):eM m ms ρ=.ok (.i v):=by unfold eM;rw[b,okb,a,okb];show vk ((zr L [sk x,sk y]).map PV.i)=_;rw[e];rfl
abbrev Lst:=List (List Key×Int)
def WS(N:Ea)(W:List Wy):Prop:=∀w∈W,w.1∈N/\w.2.1∈N/\1<=w.2.2/\w.2.2<=200000000
def WS.ok(h:WS N W):WOk N W:=λw e=>by obtain⟨a,b,c,d⟩:=h w e;exact⟨a,b,c,by omega⟩
def WS.app(h:WS N W)(f:a∈N)(e:g∈N)(c:1<=m)(d:m<=200000000):WS N (W++[(a,g,m)]):=λw b=>by
 rcases G8.mp b with b|b
 .exact h w b
 .rw[F7.mp b];exact⟨f,e,c,d⟩
def i5(h:ρ[i]?=some (some (.dt L)))(a:ms ρ=.ok [.s x,.s y])(b:mv ρ=.ok (.i n))(c:L.length<100000):Wq i ms mv ρ=.ok (.nx (ρ.set i (some (.dt (dput L [sk x,sk y] n))))):=by unfold Wq;rw[b,okb,h,a];show(if _ then _ else _)=_;exact if_pos (E7 c (by decide))
def X_{a b:Type}[DecidableEq a]{L:List (a×b)}{k:a}{v:b}:(dput L k v).length<=L.length+1:=by
 unfold dput;split
 .rw[D0];omega
 .rw[E8];exact D3 _
def AV:([sk a,sk b]=[sk c,sk d])↔(a=c/\b=d):=by
 constructor
 .intro h;injection h with h1 h2
  injection h2 with h2 _
  exact⟨N7 h1,N7 h2⟩
 .rintro ⟨rfl,rfl⟩;rfl
inductive WkM(N:Ea)(W:List Wy)(M:Ea):Str->Str->Int->Prop
 |nil {a}:a∈N->WkM N W M a a 0
 |edge {w:Wy}:w∈W->WkM N W M w.1 w.2.1 w.2.2
 |via {a m b u v}:m∈M->WkM N W M a m u->WkM N W M m b v->WkM N W M a b (u+v)
section
variable {N M:Ea}{W:List Wy}{L L' L0:Lst}{a b m:Str}{u v:Int}
def WkM.nn(d:WS N W)(h:WkM N W M a b v):0<=v:=by
 induction h with
 |nil _=>exact O8 _
 |edge c=>have:=(d _ c).2.2.1;omega
 |via _ _ _ i j=>omega
def WkM.ends(d:WS N W)(h:WkM N W M a b v):a∈N/\b∈N:=by
 induction h with
 |nil h=>exact⟨h,h⟩
 |edge c=>exact⟨(d _ c).1,(d _ c).2.1⟩
 |via _ _ _ i j=>exact⟨i.1,j.2⟩
def WkM.split(B:∀z∈M',z∈M\/z=x)(c:WS N W)(h:WkM N W M' a b v):(∃u,u<=v/\WkM N W M a b u)\/∃s t,s+t<=v/\WkM N W M a x s/\WkM N W M x b t:=by
 induction h with
 |nil h=>exact .inl ⟨_,O8 _,.nil h⟩
 |edge r=>exact .inl ⟨_,O8 _,.edge r⟩
 |via o _ _ i j=>
  rcases B _ o with o|rfl
  .rcases i with⟨w,q,f⟩|⟨D,A,q,g,n⟩<;>rcases j with⟨y,p,e⟩|⟨s2,C,p,l,d⟩
   .exact .inl ⟨_,by omega,.via o f e⟩
   .exact .inr ⟨_,_,by omega,.via o f l,d⟩
   .exact .inr ⟨_,_,by omega,g,.via o n e⟩
   .have:=n.nn c;have:=l.nn c;exact .inr ⟨_,_,by omega,g,d⟩
  .rcases i with⟨w,q,f⟩|⟨D,A,q,g,n⟩<;>rcases j with⟨y,p,e⟩|⟨s2,C,p,l,d⟩
   .exact .inr ⟨_,_,by omega,f,e⟩
   .have:=l.nn c;exact .inr ⟨_,_,by omega,f,d⟩
   .have:=n.nn c;exact .inr ⟨_,_,by omega,g,e⟩
   .have:=n.nn c;have:=l.nn c;exact .inr ⟨_,_,by omega,g,d⟩
def at2(L:Lst)(a b:Str):Option Int:=zr L [sk a,sk b]
def Snd(N:Ea)(W:List Wy)(L:Lst):Prop:=∀a b v,at2 L a b=some v->WkM N W N a b v
def yO(L:Lst)(a b:Str)(v:Int):Prop:=∃u,u<=v/\at2 L a b=some u
def Dwn(L L':Lst):Prop:=∀a b v,at2 L a b=some v->yO L' a b v
def Cmp(N:Ea)(W:List Wy)(M:Ea)(L:Lst):Prop:=∀a b v,WkM N W M a b v->yO L a b v
def Dwn.refl:Dwn L L:=λ_ _ v h=>⟨v,O8 _,h⟩
def yO.dwn(h:yO L a b v)(d:Dwn L L'):yO L' a b v:=by obtain⟨u,l,e⟩:=h;obtain⟨w,f,c⟩:=d _ _ _ e;exact⟨w,by omega,c⟩
def Dwn.trans(d:Dwn L L')(d':Dwn L' L''):Dwn L L'':=λa b v h=>(d a b v h).dwn d'
def V7:at2 (dput L [sk a,sk b] v) c d=if a=c/\b=d then some v else at2 L c d:=by
 unfold at2;rw[jL];by_cases h:a=c/\b=d
 .rw[if_pos h,if_pos (AV.mpr h)]
 .rw[if_neg h,if_neg λe=>h (AV.mp e)]
def i6(L:Lst)(a b:Str)(v:Int):Lst:=match at2 L a b with
 |some x=>if v<x then dput L [sk a,sk b] v else L
 |none=>dput L [sk a,sk b] v
def Ys:i6 L a b v=dput L [sk a,sk b] v/\(∀x,at2 L a b=some x->v<x)\/i6 L a b v=L/\∃x,x<=v/\at2 L a b=some x:=by
 unfold i6;cases e:at2 L a b with
 |none=>exact .inl ⟨rfl,λx h=>nomatch h⟩
 |some x=>
  dsimp only;by_cases c:v<x
  .rw[if_pos c];exact .inl ⟨rfl,λy h=>by cases h;exact c⟩
  .rw[if_neg c];exact .inr ⟨rfl,x,by omega,rfl⟩
def Ua:Dwn L (i6 L a b v):=λc d w h=>by
 rcases Ys (L:=L) (a:=a) (b:=b) (v:=v)with⟨e,k⟩|⟨e,_⟩<;>rw[e]
 .unfold yO;rw[V7];by_cases q:a=c/\b=d
  .obtain⟨rfl,rfl⟩:=q;rw[if_pos ⟨rfl,rfl⟩];have:=k w h;exact⟨v,by omega,rfl⟩
  .rw[if_neg q];exact⟨w,O8 _,h⟩
 .exact⟨w,O8 _,h⟩
def i7:yO (i6 L a b v) a b v:=by
 rcases Ys (L:=L) (a:=a) (b:=b) (v:=v)with⟨e,_⟩|⟨e,k⟩<;>rw[e]
 .unfold yO;rw[V7,if_pos ⟨rfl,rfl⟩];exact⟨v,O8 _,rfl⟩
 .exact k
def dh(h:Snd N W L)(f:WkM N W N a b v):Snd N W (i6 L a b v):=by
 rcases Ys (L:=L) (a:=a) (b:=b) (v:=v)with⟨e,_⟩|⟨e,k⟩<;>rw[e]
 .intro c d w e;rw[V7]at e;split at e
  .rename_i q;obtain⟨rfl,rfl⟩:=q;cases e;exact f
  .exact h _ _ _ e
 .exact h
def di:(i6 L a b v).length<=L.length+1:=by
 rcases Ys (L:=L) (a:=a) (b:=b) (v:=v)with⟨e,_⟩|⟨e,_⟩<;>rw[e]
 .exact X_
 .exact S7 _
abbrev lSt(N:Ea)(W:List Wy)(L:Lst)(p q r s t z:EI):Sto:=[some (.l (N.map .s)),some (.l (W.map wP)),some (.dt L),p,q,r,s,t,z]
variable {p q r s t z:EI}
def CD(B:N.length<=12):∃L p,L.length<=N.length/\Snd N W L/\(∀x∈N,yO L x x 0)/\vd kK kL (N.map .s) (lSt N W [] none q r s t z)=.ok (.nx (lSt N W L p q r s t z)):=by
 obtain⟨A,⟨L,p,l,j,n,rfl⟩,e⟩:=Jk (g:=kK) (b:=kL) PV.s (λk o=>∃L p,L.length<=k/\Snd N W L/\(∀x∈N.take k,yO L x x 0)/\o=lSt N W L p q r s t z) N (lSt N W [] none q r s t z) ⟨[],none,D3 _,λ_ _ _ e=>(nomatch(show(none:EJ)=some _ from e)),λx f=>(nomatch f),rfl⟩ (λk y o ⟨L,p,l,j,n,i⟩=>by
  subst i;refine⟨_,rfl,_,⟨dput L [sk N[k],sk N[k]] 0,some (.s N[k]),F2 X_ (by omega),λc d w e=>?_,λx f=>?_,rfl⟩,.inl (i5 rfl rfl rfl (by omega))⟩
  .rw[V7]at e;split at e
   .rename_i h;obtain⟨rfl,rfl⟩:=h;cases e;exact .nil (a0N _)
   .exact j _ _ _ e
  .unfold yO;rw[V7];by_cases h:N[k]=x/\N[k]=x
   .rw[if_pos h];exact⟨0,O8 _,rfl⟩
   .rw[if_neg h];rw[P0 y]at f;rcases G8.mp f with f|f
    .exact n x f
    .have:=F7.mp f;exact absurd ⟨this.symm,this.symm⟩ h)
 exact⟨L,p,l,j,λx f=>n x (by rw[a0q];exact f),e⟩
def dj(h:ks (lSt N W L p q r s t z)=.ok [.s a,.s b])(j:zc i (lSt N W L p q r s t z)=.ok (.i v))(l:L.length<100000):sIf (mOr (zB (U1 true ks (zc 2))) (zB (mOp pLt (zc i) (eM (zc 2) ks)))) (Wq 2 ks (zc i)) zP (lSt N W L p q r s t z)=.ok (.nx (lSt N W (i6 L a b v) p q r s t z)):=by
 have d:=dg (n:=true) (ms:=ks) (m:=zc 2) (L:=L) h rfl;have pt:=i5 (i:=2) (L:=L) (mv:=zc i) rfl h j l;unfold i6 at2;cases e:zr L [sk a,sk b]with
 |none=>rw[e]at d;exact(zA (W_ d)).trans pt
 |some x=>
  rw[e]at d;have g:=QX d (zC (b:=decide (v<x)) (zo (f:=pLt) j (au (m:=zc 2) rfl h e) rfl));dsimp only;by_cases c:v<x
  .rw[D6 c]at g;rw[if_pos c];exact(zA g).trans pt
  .rw[D7 c]at g;rw[if_neg c];exact(zA g).trans rfl
def CF(C:L0.length<=12)(B:W.length<=60)(o:Snd N W L0):∃L q r s,L.length<=L0.length+W.length/\Snd N W L/\Dwn L0 L/\(∀w∈W,yO L w.1 w.2.1 w.2.2)/\vd kM kN (W.map wP) (lSt N W L0 p none none none t z)=.ok (.nx (lSt N W L p q r s t z)):=by
 obtain⟨A,⟨L,q,r,s,l,f,j,h,rfl⟩,e⟩:=Jk (g:=kM) (b:=kN) wP (λk n=>∃L q r s,L.length<=L0.length+k/\Snd N W L/\Dwn L0 L/\(∀w∈W.take k,yO L w.1 w.2.1 w.2.2)/\n=lSt N W L p q r s t z) W (lSt N W L0 p none none none t z) ⟨L0,none,none,none,D3 _,o,Dwn.refl,λx c=>(nomatch c),rfl⟩ (λk y n ⟨L,q,r,s,l,f,j,h,d⟩=>by
  subst d;refine⟨_,rfl,_,⟨i6 L W[k].1 W[k].2.1 W[k].2.2,some (.s W[k].1),some (.s W[k].2.1),some (.i W[k].2.2),F2 di (by omega),dh f (.edge (a0N _)),j.trans Ua,λx c=>?_,rfl⟩,.inl (dj (ks:=zb (zc 4) (zb (zc 5) zl)) (i:=6) rfl rfl (by omega))⟩;rw[P0 y]at c;rcases G8.mp c with c|c
  .exact(h x c).dwn Ua
  .rw[F7.mp c];exact i7)
 exact⟨L,q,r,s,l,f,j,λx c=>h x (by rw[a0q];exact c),e⟩
end
section
variable {N M:Ea}{W:List Wy}{L L' L0:Lst}{a b m:Str}{u v:Int}{p q r s t z:EI}
def tY(h:Snd N W L)(C:m∈N)(l:L.length<100000):∃L' o,L'.length<=L.length+1/\Snd N W L'/\Dwn L L'/\(∀x y,yO L a m x->yO L m b y->yO L' a b (x+y))/\jm (lSt N W L p (some (.s a)) (some (.s b)) s (some (.s m)) z)=.ok (.nx (lSt N W L' p (some (.s a)) (some (.s b)) s (some (.s m)) o)):=by
 have e:=λP Q=>zA (ρ:=lSt N W L p (some (.s a)) (some (.s b)) s (some (.s m)) z) (a:=P) (b:=Q) (jV (dg (n:=false) (ms:=zb (zc 4) (zb (zc 7) zl)) (m:=zc 2) (x:=a) (y:=m) (L:=L) rfl rfl) (dg (n:=false) (ms:=zb (zc 7) (zb (zc 5) zl)) (m:=zc 2) (x:=m) (y:=b) (L:=L) rfl rfl));cases c:zr L [sk a,sk m]with
 |none=>rw[c]at e;exact⟨L,z,S7 _,h,Dwn.refl,λx y ⟨_,_,q⟩ _=>(nomatch(c.symm.trans q)),e _ _⟩
 |some x=>
  cases d:zr L [sk m,sk b]with
  |none=>rw[c,d]at e;exact⟨L,z,S7 _,h,Dwn.refl,λx y _ ⟨_,_,q⟩=>(nomatch(d.symm.trans q)),e _ _⟩
  |some y=>rw[c,d]at e;refine⟨i6 L a b (x+y),some (.i (x+y)),di,dh h (.via C (h _ _ _ c) (h _ _ _ d)),Ua,λG D ⟨j,F,B⟩ ⟨g,E,f⟩=>?_,(e _ _).trans (zd ⟨lSt N W L p (some (.s a)) (some (.s b)) s (some (.s m)) (some (.i (x+y))),z_ (zo (au rfl rfl c) (au rfl rfl d) rfl),dj (ks:=zb (zc 4) (zb (zc 5) zl)) (i:=8) rfl rfl l⟩)⟩;obtain⟨w,H,A⟩:=i7 (L:=L) (a:=a) (b:=b) (v:=x+y);cases(c.symm.trans B:some x=some j);cases(d.symm.trans f:some y=some g);exact⟨w,by omega,A⟩
def CG(I:Snd N W L0)(G:m∈N)(O:N.length<=12)(K:L0.length<=10000):∃L f c,L.length<=L0.length+N.length/\Snd N W L/\Dwn L0 L/\(∀b∈N,∀x y,yO L0 a m x->yO L0 m b y->yO L a b (x+y))/\vd kO jm (N.map .s) (lSt N W L0 p (some (.s a)) r s (some (.s m)) z)=.ok (.nx (lSt N W L p (some (.s a)) f s (some (.s m)) c)):=by
 obtain⟨E,⟨L,f,c,l,n,h,j,rfl⟩,e⟩:=Jk (g:=kO) (b:=jm) PV.s (λk w=>∃L f c,L.length<=L0.length+k/\Snd N W L/\Dwn L0 L/\(∀b∈N.take k,∀x y,yO L0 a m x->yO L0 m b y->yO L a b (x+y))/\w=lSt N W L p (some (.s a)) f s (some (.s m)) c) N (lSt N W L0 p (some (.s a)) r s (some (.s m)) z) ⟨L0,r,z,D3 _,I,Dwn.refl,λx d=>(nomatch d),rfl⟩ (λk D w ⟨L,f,c,l,n,h,j,i⟩=>by
  subst i;obtain⟨H,F,J,s2,A,C,B⟩:=tY (a:=a) (b:=N[k]) (p:=p) (s:=s) (z:=c) n G (by omega);refine⟨_,rfl,_,⟨H,some (.s N[k]),F,by omega,s2,h.trans A,λb hb x y d o=>?_,rfl⟩,.inl B⟩;rw[P0 D]at hb;rcases G8.mp hb with hb|hb
  .exact(j b hb x y d o).dwn A
  .rw[F7.mp hb]at o ⊢;exact C x y (d.dwn h) (o.dwn h))
 exact⟨L,f,c,l,n,h,λx d=>j x (by rw[a0q];exact d),e⟩
def CH(O:Snd N W L0)(J:m∈N)(G:N.length<=12)(Q:L0.length<=5000):∃L h f c,L.length<=L0.length+N.length*12/\Snd N W L/\Dwn L0 L/\(∀a∈N,∀b∈N,∀x y,yO L0 a m x->yO L0 m b y->yO L a b (x+y))/\vd kQ kR (N.map .s) (lSt N W L0 p q r s (some (.s m)) z)=.ok (.nx (lSt N W L p h f s (some (.s m)) c)):=by
 obtain⟨H,⟨L,h,f,c,l,o,i,n,rfl⟩,e⟩:=Jk (g:=kQ) (b:=kR) PV.s (λk w=>∃L h f c,L.length<=L0.length+k*12/\Snd N W L/\Dwn L0 L/\(∀a∈N.take k,∀b∈N,∀x y,yO L0 a m x->yO L0 m b y->yO L a b (x+y))/\w=lSt N W L p h f s (some (.s m)) c) N (lSt N W L0 p q r s (some (.s m)) z) ⟨L0,q,r,z,D3 _,O,Dwn.refl,λx d=>(nomatch d),rfl⟩ (λk F w ⟨L,h,f,c,l,o,i,n,j⟩=>by
  subst j;obtain⟨K,C,I,P,s2,A,E,D⟩:=CG (a:=N[k]) (p:=p) (r:=f) (s:=s) (z:=c) o J G (by omega);refine⟨_,rfl,_,⟨K,some (.s N[k]),C,I,by omega,s2,i.trans A,λa ha b hb x y d B=>?_,rfl⟩,.inl (qG (yh rfl) D)⟩;rw[P0 F]at ha;rcases G8.mp ha with ha|ha
  .exact(n a ha b hb x y d B).dwn A
  .rw[F7.mp ha]at d ⊢;exact E b hb x y (d.dwn i) (B.dwn i))
 exact⟨L,h,f,c,l,o,i,λx d=>n x (by rw[a0q];exact d),e⟩
def CJ(X:Snd N W L0)(D:WS N W)(P:N.length<=12)(hl:L0.length<=100)(S:Cmp N W [] L0):∃L f i c d,L.length<=5000/\Snd N W L/\Cmp N W N L/\vd kS kT (N.map .s) (lSt N W L0 p q r s t z)=.ok (.nx (lSt N W L p f i s c d)):=by
 obtain⟨Q,⟨L,f,i,c,d,l,B,j,rfl⟩,e⟩:=Jk (g:=kS) (b:=kT) PV.s (λk C=>∃L f i c d,L.length<=100+k*144/\Snd N W L/\Cmp N W (N.take k) L/\C=lSt N W L p f i s c d) N (lSt N W L0 p q r s t z) ⟨L0,q,r,t,z,by omega,X,S,rfl⟩ (λk K C ⟨L,f,i,c,d,l,B,j,o⟩=>by
  subst o;obtain⟨U,F,E,R,Z,s2,T,H,G⟩:=CH (m:=N[k]) (p:=p) (q:=f) (r:=i) (s:=s) (z:=d) B (a0N _) P (by omega);refine⟨_,rfl,_,⟨U,F,E,some (.s N[k]),R,by omega,s2,λa b v h=>?_,rfl⟩,.inl (qG (yh rfl) G)⟩;obtain⟨Y,hb⟩:=h.ends D;rw[P0 K]at h;rcases h.split (M:=N.take k) (x:=N[k]) (λz hz=>(G8.mp hz).imp id F7.mp) D with⟨u,lu,w⟩|⟨O,c,le,J,I⟩
  .obtain⟨A,n,y⟩:=(j _ _ _ w).dwn T;exact⟨A,by omega,y⟩
  .obtain⟨A,n,y⟩:=H a Y b hb O c (j _ _ _ J) (j _ _ _ I);exact⟨A,by omega,y⟩)
 rw[a0q]at j;exact⟨L,f,i,c,d,by omega,B,j,e⟩
def LOk(N:Ea)(L:Lst)(F:Str->Ht):Prop:=(∀a∈N,∀b∈N,zr L [sk a,sk b]=zr (F a) (sk b))
def ax(A:WS N W)(g:Jx o W F)(h:WkM N W N a b v):∀x,zr F (sk a)=some x->∃y,y<=x+v/\zr F (sk b)=some y:=by
 induction h with
 |nil _=>intro x e;exact⟨x,by omega,e⟩
 |edge n=>intro x e;obtain⟨y,d,l⟩:=g.2 _ n x e;exact⟨y,l,d⟩
 |via _ _ _ i j=>intro x e;obtain⟨y,l,d⟩:=i x e;obtain⟨f,w,c⟩:=j y d;exact⟨f,by omega,c⟩
def V8(i:WS N W)(g:Jx o W F)(h:o∈N):∀(n:Nat){z:Str}{y:Int},y.toNat<=n->zr F (sk z)=some y->WkM N W N o z y:=by
 intro n
 induction n with
 |zero=>
  intro z y A e;by_cases hz:z=o
  .subst hz;cases(g.1.own.symm.trans e);exact .nil h
  .obtain⟨w,d,_,x,f,c⟩:=g.n4 e hz;have:=(i w d).2.2.1;have:=g.1.pos _ _ f;omega
 |succ n l=>
  intro z y A e;by_cases hz:z=o
  .subst hz;cases(g.1.own.symm.trans e);exact .nil h
  .obtain⟨w,d,rfl,x,f,c⟩:=g.n4 e hz;have j:=i w d;have:=g.1.pos _ _ f;rw[<- c];exact .via j.1 (l (by omega) f) (.edge d)
def bT(d:WS N W)(j:N.length<=12)(D:W.length<=60)(f:∀z,Jx z W (F z)):∃L,LOk N L F/\qA [.l (N.map .s),.l (W.map wP)]=.ok (.dt L):=by
 obtain⟨G,i,Z,Q,H,E⟩:=CD (N:=N) (W:=W) (q:=none) (r:=none) (s:=none) (t:=none) (z:=none) j;obtain⟨P,A,x,g,S,s2,O,K,B⟩:=CF (N:=N) (W:=W) (L0:=G) (p:=i) (t:=none) (z:=none) (by omega) D Q;have I:Cmp N W [] P:=λa b v h=>by
  cases h with
  |nil h=>exact(H _ h).dwn O
  |edge w=>exact K _ w
  |via h _ _=>cases h
 obtain⟨L,Y,T,X,R,_,J,n,C⟩:=CJ (p:=i) (q:=A) (r:=x) (s:=g) (t:=none) (z:=none) s2 d j (by omega) I;refine⟨L,λa o b hb=>?_,zF (zd ⟨_,rfl,zd ⟨_,qG (yh rfl) E,zd ⟨_,qG (yh rfl) B,zd ⟨_,qG (yh rfl) C,rfl⟩⟩⟩⟩)⟩;cases e:zr L [sk a,sk b]with
 |none=>
  cases c:zr (F a) (sk b)with
  |none=>rfl
  |some y=>obtain⟨u,_,q⟩:=n _ _ _ (V8 d (f a) o _ (D3 _) c);cases(e.symm.trans q)
 |some v=>obtain⟨y,l,c⟩:=ax d (f a) (J _ _ _ e) 0 (f a).1.own;obtain⟨u,U,q⟩:=n _ _ _ (V8 d (f a) o _ (D3 _) c);cases(e.symm.trans q);rw[c,show y=v by omega]
end
def pT(h:ρ[i]?=some (some (.l xs)))(a:m ρ=.ok y)(b:xs.length<100000):o6 i m ρ=.ok (.nx (ρ.set i (some (.l (xs++[y]))))):=by unfold o6;rw[h];show(m ρ).bind _=_;rw[a,okb,if_pos (E7 b (by decide))]
def AW{a:Type}{xs:List a}(h:0<=i):Wh xs none (some i)=xs.take i.toNat:=by
 unfold Wh;show List.take ((if i<0 then(i+(xs.length:Int)).toNat else min i.toNat xs.length)-0) (xs.drop 0)=_;rw[if_neg (by omega),Nat.sub_zero,List.drop_zero];by_cases c:i.toNat<=xs.length
 .rw[Nat.min_eq_left c]
 .rw[Nat.min_eq_right (by omega),a0B (D3 _),a0B (by omega)]
def dk{a:Type}{xs:List a}{i:Int}(h:0<=i)(b:i<=xs.length):Wh xs (some i) none=xs.drop i.toNat:=by unfold Wh;show List.take (xs.length-(if i<0 then(i+(xs.length:Int)).toNat else min i.toNat xs.length)) (xs.drop (if i<0 then(i+(xs.length:Int)).toNat else min i.toNat xs.length))=_;rw[if_neg (by omega),Nat.min_eq_left (by omega),a0B (by rw[S4];omega)]
def yb(d:0<=k)(f:k<=1000)(g:0<m):∃x:Int,0<=x/\x<m/\zg [.sc ns,.i k,.i m]=.ok (.i x):=by
 obtain⟨c,i,j,q⟩:∃c:Int,0<=c/\c<1000000007/\sIf (zB (mOp pGt (zh kf (zb (zc 0) zl)) (mC (.i 0)))) (qu 3 (mOp ZK (mOp pIx (zc 0) (mOp ZK (zc 1) (zh kf (zb (zc 0) zl)))) (mC (.i 1000000007)))) zP [some (.sc ns),some (.i k),some (.i m),some (.i 5)]=.ok (.nx [some (.sc ns),some (.i k),some (.i m),some (.i c)]):=by
  have l:zh kf (zb (zc 0) zl) [some (.sc ns),some (.i k),some (.i m),some (.i 5)]=.ok (.i (ns.length:Int)):=zx (xs:=[.sc ns]) rfl rfl;have t:=λP Q=>zA (a:=P) (b:=Q) (c6 (n:=0) l);by_cases c:(ns.length:Int)>0
  .rw[D6 c]at t;have h:=a1j k (show(ns.length:Int)≠0 by omega);have o:=a0X k c;have e:pIx (.sc ns) (.i (k % (ns.length:Int)))=.ok (.i (ns[(k % (ns.length:Int)).toNat]'(by omega))):=by show vk ((atI ns _).map PV.i)=_;rw[US h,E5 (by omega)];rfl
   exact⟨_,a1j _ (by decide),a0X _ (by decide),(t _ _).trans (z_ (tP (zo rfl (zo rfl l (Vj c)) e) (by decide)))⟩
  .rw[D7 c]at t;exact⟨5,by decide,by decide,t _ _⟩
 have p:0<=k*k/\k*k<=1000000:=⟨Int.mul_nonneg d d,Int.le_trans (Int.mul_le_mul f f d (by decide)) (by decide)⟩;exact⟨_,a1j _ (by omega),a0X _ g,zF (zd ⟨_,rfl,zd ⟨_,q,Z5 (zo (AO (tP (zo (zo (zo rfl (zo rfl rfl (WZ (by decide) (by decide))) rfl) rfl rfl) (zo rfl (zo rfl rfl (WZ (by omega) (by omega))) rfl) (WZ (by omega) (by omega))) (by decide)) (by decide) (by decide)) rfl (Vj g))⟩⟩)⟩
abbrev bU:Str:="abcdefghijklmnopqrstuvwyz0123456789"
def s2(r:Int):Str:=⟨#[(bU.cps.toList[r.toNat]?).getD 0]⟩
def ay:bU.length=35:=by decide +kernel
def pV:∀a:Fin 35,∀b:Fin 35,s2 (a.val:Int)=s2 (b.val:Int)->a=b:=by decide +kernel
def CK:∀a:Fin 35,(bU.cps.toList[a.val]?).getD 0∈signs.cps.toList:=by decide +kernel
def CL(c:0<=r)(d:r<35):pIx (.s bU) (.i r)=.ok (.s (s2 r)):=by
 unfold pIx;have a:bU.length<=sizeLine:=by rw[ay];decide
 simp only[a,if_true];have b:r.toNat<bU.cps.toList.length:=by have:=ay;unfold Str.length at this;simp;omega
 rw[US c];unfold s2;rw[E5 b];rfl
def Br:∀a:Fin 13,(Txt.mul "x" (a.val:Int)).length=a.val/\∀c∈(Txt.mul "x" (a.val:Int)).cps.toList,c∈signs.cps.toList:=by decide +kernel
def nmX(a b:Nat)(n:Nat):Str:=Txt.mul "x" (a:Int)++s2 (n:Int)++Txt.mul "x" ((b:Int)+(n:Int) % 2)
def str_len{a b:Str}:(a++b).length=a.length+b.length:=Array.size_append
def AX(h:a+b<=10)(j:n<35):Nm (nmX a b n):=by
 obtain⟨g,f⟩:=Br ⟨a,by omega⟩;have e:(b:Int)+(n:Int) % 2=((b+n % 2:Nat):Int):=by omega
 obtain⟨d,l⟩:=Br ⟨b+n % 2,by omega⟩;unfold nmX;rw[e];refine⟨?_,((show Sgs _ from f).app λc i=>?_).app l⟩
 .rw[str_len,str_len];have:(s2 (n:Int)).length=1:=rfl;dsimp only at g d;omega
 .have:c∈[(bU.cps.toList[((n:Int)).toNat]?).getD 0]:=i;rw[F7.mp this];exact CK ⟨n,j⟩
def tZ(e:m<35)(c:n<35)(h:nmX a b m=nmX a b n):m=n:=by unfold nmX at h;have d:=(str_inj (a:=Txt.mul "x" (a:Int)++s2 (m:Int)) (a':=Txt.mul "x" (a:Int)++s2 (n:Int)) (by rw[str_len,str_len];rfl) h).1;have f:=(str_inj rfl d).2;exact M4 Fin.val (pV ⟨m,e⟩ ⟨n,c⟩ f)
def AY(d:n<=35):((List.range n).map (nmX a b)).Nodup:=nodup_range λj k c f e=>tZ (by omega) (by omega) e
def n8(p:0<=k)(v:k<=900):∃a b:Nat,a+b<=10/\∀n:Nat,n<35->kA [.sc ns,.i k,.i (n:Int)]=.ok (.s (nmX a b n)):=by
 obtain⟨a,l,w,g⟩:=yb (ns:=ns) (k:=k) (m:=11) p (by omega) (by decide);obtain⟨b,o,u,j⟩:=yb (ns:=ns) (k:=k+1) (m:=11-a) (by omega) (by omega) (by omega);obtain⟨a,rfl⟩:=a00 l;obtain⟨b,rfl⟩:=a00 o;refine⟨a,b,by omega,λn s=>?_⟩;have d:∀{i:Int},0<=i->i<=100->ZI (.s "x") (.i i)=.ok (.s (Txt.mul "x" i)):=λh q=>if_pos ⟨by decide,by omega,by omega⟩;obtain⟨f,_⟩:=Br ⟨a,by omega⟩;have e:(b:Int)+(n:Int) % 2=((b+n % 2:Nat):Int):=by omega
 obtain⟨c,_⟩:=Br ⟨b+n % 2,by omega⟩;rw[<- e]at c;dsimp only at f c;have r:(s2 (n:Int)).length=1:=rfl;exact zF (zd ⟨_,z_ (zx (xs:=[.sc ns,.i k,.i 11]) rfl g),zd ⟨_,z_ (zo (zx (xs:=[.sc ns,.i (k+1),.i (11-(a:Int))]) rfl j) (tP rfl (by decide)) rfl),Z5 (zo (zo (zo rfl rfl (d (by omega) (by omega))) (zo rfl rfl (CL (by omega) (by omega))) (Dm (n:=100) (by omega) (by decide))) (zo rfl rfl (d (by omega) (by omega))) (Dm (n:=100) (by rw[str_len];omega) (by decide)))⟩⟩)
abbrev wSt(ns:EB)(N:Ea)(c:Int)(W:List Wy)(x y:EI):Sto:=[some (.sc ns),some (.l (N.map .s)),some (.i c),some (.i (N.length:Int)),some (.l (W.map wP)),x,y]
def i8(h:m (wSt ns N c W x y)=.ok (.t [.s o,.s g,.i n]))(a:W.length<1000):o6 4 m (wSt ns N c W x y)=.ok (.nx (wSt ns N c (W++[(o,g,n)]) x y)):=by refine(pT rfl h (by rw[D0];omega)).trans ?_;show Out.ok (Fw.nx [some (.sc ns),some (.l (N.map .s)),some (.i c),some (.i (N.length:Int)),some (.l (W.map wP++[wP (o,g,n)])),x,y])=_;rw[show W.map wP++[wP (o,g,n)]=(W++[(o,g,n)]).map wP by rw[M6];rfl]
def n_(G:0<N.length)(h1:N.length<=6):∃W:List Wy,W.length<=18/\WS N W/\kz [.sc ns,.l (N.map .s)]=.ok (.l (W.map wP)):=by
 obtain⟨r,r0,h,I⟩:=yb (ns:=ns) (k:=3) (m:=3) (by decide) (by decide) (by decide);obtain⟨c,Y,ec⟩:=AR (xs:=[30,100000000,3]) r0 h;have L:1<=c/\c<=100000000:=by simp only[List.mem_cons,List.not_mem_nil,or_false]at Y;omega
 obtain⟨d,d0,d1,U⟩:=yb (ns:=ns) (k:=4) (m:=3) (by decide) (by decide) (by decide);obtain⟨h,Z,u⟩:∃F:Nat,F<=N.length/\ZI (.i (N.length:Int)) (.i (if d>0 then 1 else 0))=.ok (.i (F:Int)):=by
  by_cases q:d>0
  .rw[if_pos q];exact⟨N.length,D3 _,(WZ (by omega) (by omega)).trans (by rw[Int.mul_one])⟩
  .rw[if_neg q];exact⟨0,M7 _,(WZ (by omega) (by omega)).trans (by rw[Int.mul_zero];rfl)⟩
 obtain⟨S,⟨v,E,D,l1,T,a⟩,M⟩:=cT (g:=JN) (b:=JO) (λk e=>∃W x y,W.length<=k/\WS N W/\e=wSt ns N c W x y) h (wSt ns N c [] none none) ⟨[],none,none,D3 _,λw H=>(nomatch H),rfl⟩ (λk P e ⟨W,x,y,l,f,a⟩=>by
  subst a;obtain⟨o,z,A⟩:=wX (xs:=N) (i:=(k:Int)) (by omega) (by omega);obtain⟨g,B,j⟩:=iV (N:=N) (s:=(k:Int)+1) G;obtain⟨s,s0,s1,C⟩:=yb (ns:=ns) (k:=10+(k:Int)) (m:=c) (by omega) (by omega) (by omega);exact⟨_,rfl,_,⟨W++[(o,g,1+s)],some (.i (k:Int)),y,by rw[E8];exact a0M l,f.app z B (by omega) (by omega),rfl⟩,.inl (i8 (Jw (zu (zo rfl rfl A) (zu (zo rfl (zo (zo rfl rfl rfl) rfl (Vj (by omega))) j) (zu (zo rfl (zx (xs:=[.sc ns,.i (10+(k:Int)),.i c]) rfl C) rfl) rfl))) (F9 rfl)) (by omega))⟩)
 subst a;obtain⟨m,K,m1,em⟩:=yb (ns:=ns) (k:=5) (m:=13) (by decide) (by decide) (by decide);have nn:0<(N.length:Int)*(N.length:Int):=Int.mul_pos (by omega) (by omega);obtain⟨Q,⟨W,x,y,l,f,a⟩,J⟩:=cT (g:=JP) (b:=JQ) (λk e=>∃W x y,W.length<=v.length+k/\WS N W/\e=wSt ns N c W x y) m.toNat (wSt ns N c v E D) ⟨v,E,D,D3 _,T,rfl⟩ (λk P e ⟨W,x,y,l,f,a⟩=>by
  subst a;obtain⟨p,X,R,O⟩:=yb (ns:=ns) (k:=20+(k:Int)) (m:=(N.length:Int)*(N.length:Int)) (by omega) (by omega) nn;obtain⟨o,z,A⟩:=iV (N:=N) (s:=p) G;obtain⟨g,B,j⟩:=wX (xs:=N) (i:=p / (N.length:Int)) (Int.ediv_nonneg X (by omega)) (Int.ediv_lt_of_lt_mul (by omega) R);obtain⟨s,s0,s1,C⟩:=yb (ns:=ns) (k:=33+(k:Int)) (m:=c) (by omega) (by omega) (by omega);exact⟨_,rfl,_,⟨W++[(o,g,1+s)],some (.i (k:Int)),some (.i p),by rw[E8];show W.length+1<=_;omega,f.app z B (by omega) (by omega),rfl⟩,.inl (zd ⟨wSt ns N c W (some (.i (k:Int))) (some (.i p)),z_ (zx (xs:=[.sc ns,.i (20+(k:Int)),.i ((N.length:Int)*(N.length:Int))]) (zu rfl (zu rfl (zu (zo rfl rfl (WZ (by omega) (by omega))) rfl))) O),i8 (Jw (zu (zo rfl (zo rfl rfl (Vj (by omega))) A) (zu (zo rfl (zo rfl rfl (pb (by omega) (by omega))) j) (zu (zo rfl (zx (xs:=[.sc ns,.i (33+(k:Int)),.i c]) rfl C) rfl) rfl))) (F9 rfl)) (by omega)⟩)⟩)
 subst a;exact⟨W,by omega,f,zF (zd ⟨_,z_ (zo (iQ (xs:=[.i 30,.i 100000000,.i 3]) rfl (F9 rfl)) (zx (xs:=[.sc ns,.i 3,.i 3]) rfl I) ec),zd ⟨_,z_ (zx (xs:=[.l (N.map .s)]) rfl wx),zd ⟨_,rfl,zd ⟨_,qG (cQ (n:=h) (zu (zo rfl (zx (zu (zo (zx (xs:=[.sc ns,.i 4,.i 3]) rfl U) rfl rfl) rfl) (show _=Out.ok (PV.i (if d>0 then 1 else 0))from by by_cases q:d>0<;>simp[eF,q])) u) rfl) (by omega)) M,zd ⟨_,qG (sL (zu (zx (xs:=[.sc ns,.i 5,.i 13]) rfl em) rfl) K (by omega)) J,rfl⟩⟩⟩⟩⟩)⟩
def Path(h:Ht)(W:List Wy):List Str->Prop
 |s::z::r=>(∃w∈W,w.1=s/\w.2.1=z/\∃x y,zr h (sk s)=some x/\zr h (sk z)=some y/\x+w.2.2=y)/\Path h W (z::r)
 |_=>True
section
variable {N:Ea}{W:List Wy}{F:Str->Ht}{o g:Str}
abbrev wyS(N:Ea)(W:List Wy)(F:Str->Ht)(o g:Str)(Q:Ea):Sto:=[some (roP N W F),some (.s o),some (.s g),some (.l (Q.map .s))]
def oa(R:ROk N W)(B:Jx o W (F o))(K:o∈N):∀(n:Nat){r:Ea}{z:Str}{y:Int},y.toNat<=n->zr (F o) (sk z)=some y->(z::r).Nodup->(∀p∈z::r,∃d,zr (F o) (sk p)=some d/\y<=d)->Path (F o) W (z::r)->(z::r).getLast?=some g->
  ∃(m:Nat)(q:Ea),(o::q).length<=100/\(∀p∈o::q,(zr (F o) (sk p)).isSome=true)/\Path (F o) W (o::q)/\(o::q).getLast?=some g/\qF kn jn m (wyS N W F o g (z::r).reverse)=.ok (.nx (wyS N W F o g (o::q).reverse)):=by
 intro n;have E:∀w∈W,1<=w.2.2:=λw v=>(R.ok w v).2.2.1;have f:∀{r:Ea}{z:Str},kn (wyS N W F o g (z::r).reverse)=.ok (xor true (decide (z=o))):=λ{r z}=>
  Jy (n:=true) (zo rfl rfl (by rw[a1E];exact Jz)) rfl
 have i:∀{r:Ea},qF kn jn 1 (wyS N W F o g (o::r).reverse)=.ok (.nx (wyS N W F o g (o::r).reverse)):=λ{r}=>by unfold qF;rw[f,D6 rfl];rfl
 have l:∀{r:Ea}{z:Str}{y:Int},(z::r).Nodup->(∀p∈z::r,∃d,zr (F o) (sk p)=some d/\y<=d)->(z::r).length<=100:=λ{r z y} j hp=>by
  have X:((z::r).map sk).Nodup:=List.Pairwise.map _ (λa b h e=>h (N7 e)) j;have L:∀k∈(z::r).map sk,k∈sk o::W.map λw=>sk w.2.1:=λk O=>by obtain⟨p,u,rfl⟩:=G7.mp O;obtain⟨d,A,_⟩:=hp p u;exact B.1.sub _ (XY.mp (by rw[A];rfl))
  have:=V6 X L;have wl:=R.wl;simp only[List.length_map,List.length_cons]at this ⊢;omega
 have all:∀{r:Ea}{z:Str}{y:Int},(∀p∈z::r,∃d,zr (F o) (sk p)=some d/\y<=d)->∀p∈z::r,(zr (F o) (sk p)).isSome=true:=λh p hp=>by obtain⟨_,e,_⟩:=h p hp;rw[e];rfl
 induction n with
 |zero=>
  intro r z y T e j hp pt D;have y0:=B.1.pos _ _ e;have hz:z=o:=by
   by_cases c:z=o
   .exact c
   .obtain⟨w,v,_,x,s,C⟩:=B.n4 e c;have:=B.1.pos _ _ s;have:=E w v;omega
  subst hz;exact⟨1,r,l j hp,all hp,pt,D,i⟩
 |succ n Z=>
  intro r z y T e j hp pt D;by_cases c:z=o
  .subst c;exact⟨1,r,l j hp,all hp,pt,D,i⟩
  .obtain⟨w,v,M,U,x,s,C⟩:=n5 B E e c;have x0:=B.1.pos _ _ s;have w1:=E w v;have Y:w.1∉z::r:=λh=>by obtain⟨d,A,le⟩:=hp _ h;rw[s]at A;cases A;omega
   obtain⟨m,q,Q,P,S,G,eq⟩:=Z (r:=z::r) (z:=w.1) (y:=x) (by omega) s (O7.mpr ⟨Y,j⟩) (λp u=>by
    rcases G0.mp u with rfl|h
    .exact⟨x,s,O8 _⟩
    .obtain⟨d,A,le⟩:=hp p h;exact⟨d,A,by omega⟩) ⟨⟨w,v,rfl,M,x,y,s,e,C⟩,pt⟩ (by rw[a01];exact D)
   refine⟨m+1,q,Q,P,S,G,?_⟩;have H:=bS (m:=zc 0) (ρ:=wyS N W F o g (z::r).reverse) (N:=N) (W:=W) (F:=F) rfl;have I:zh y8 (zb (mOp pIx (zc 3) (mUn d8 (mC (.i 1)))) (zb (mOp pIx (aK [6] "lengths" (zc 0)) (zc 1)) (zb (aK [6] "ways" (zc 0)) zl))) (wyS N W F o g (z::r).reverse)=.ok (.s w.1):=zx (zu (zo rfl rfl (by rw[a1E];exact Jz)) (zu (Dn H.2 rfl K) (zu (n6 rfl) rfl))) U;have J:jn (wyS N W F o g (z::r).reverse)=.ok (.nx (wyS N W F o g (w.1::z::r).reverse)):=by refine(pT rfl I (by rw[D0,a0S];have:=l j hp;omega)).trans ?_;rw[a1E (as:=z::r)];show Out.ok (Fw.nx [some (roP N W F),some (.s o),some (.s g),some (.l ((z::r).reverse.map .s++[.s w.1]))])=Out.ok (Fw.nx [some (roP N W F),some (.s o),some (.s g),some (.l (((z::r).reverse++[w.1]).map .s))]);rw[M6];rfl
   unfold qF;rw[f,D7 c];show((jn (wyS N W F o g (z::r).reverse)).bind _)=_;rw[J];exact eq
def og(a:o∈N)(b:g∈N)(e:zr (F o) (sk g)=none):yL [roP N W F,.s o,.s g]=.ok .n:=by have c:mOp (K5 false) (XG [(6,zV)] "length" (zc 0) (zb (zc 1) (zb (zc 2) zl))) (mC .n) [some (roP N W F),some (.s o),some (.s g),none]=.ok (.b true):=zo (KD rfl rfl (by decide +kernel) (by decide +kernel) (by decide +kernel) (Xc a b)) rfl (by rw[e];rfl);exact zF (yx ((zA (x:=true) (zC c)).trans rfl))
def oh(R:ROk N W)(i:Jx o W (F o))(a:o∈N)(d:g∈N)(e:zr (F o) (sk g)=some y):∃q:List Str,(o::q).length<=100/\(∀p∈o::q,(zr (F o) (sk p)).isSome=true)/\Path (F o) W (o::q)/\(o::q).getLast?=some g/\yL [roP N W F,.s o,.s g]=.ok (.l ((o::q).map .s)):=by have b:mOp (K5 false) (XG [(6,zV)] "length" (zc 0) (zb (zc 1) (zb (zc 2) zl))) (mC .n) [some (roP N W F),some (.s o),some (.s g),none]=.ok (.b false):=zo (KD rfl rfl (by decide +kernel) (by decide +kernel) (by decide +kernel) (Xc a d)) rfl (by rw[e];rfl);obtain⟨m,q,c,f,j,h,eq⟩:=oa R i a y.toNat (r:=[]) (z:=g) (D3 _) e (by simp) (λp hp=>by rw[List.mem_singleton.mp hp];exact⟨y,e,O8 _⟩) trivial rfl;refine⟨q,c,f,j,h,zF (zd ⟨_,(zA (x:=false) (zC b)).trans rfl,zd ⟨wyS N W F o g [g],rfl,zd ⟨_,UT eq (by intro z;cases z),Z5 (zx (xs:=[.l ((o::q).reverse.map .s)]) rfl ?_)⟩⟩⟩)⟩;show Out.ok (PV.l ((o::q).reverse.map PV.s).reverse)=_;rw[<- List.map_reverse,a2y]
end
structure j7(W:List Wy)(L:Lst):Prop where
 len:L.length<=W.length
 all:∀w∈W,∃m,zr L [sk w.1,sk w.2.1]=some m/\m<=w.2.2
 one:∀s g m,zr L [sk s,sk g]=some m->∃w∈W,w.1=s/\w.2.1=g/\w.2.2=m
def j7.put{W:List Wy}{L:Lst}{w:Wy}(h:j7 W L)(c:∀m,zr L [sk w.1,sk w.2.1]=some m->w.2.2<m):j7 (W++[w]) (dput L [sk w.1,sk w.2.1] w.2.2)where
 len:=F2 X_ (by rw[E8];exact a0M h.len)
 all:=λv a=>by
  rw[jL];by_cases e:[sk w.1,sk w.2.1]=[sk v.1,sk v.2.1]
  .rw[if_pos e];refine⟨_,rfl,?_⟩;rcases G8.mp a with a|a
   .obtain⟨m,d,le⟩:=h.all v a;rw[<- e]at d;have:=c m d;omega
   .rw[F7.mp a];exact O8 _
  .rw[if_neg e];rcases G8.mp a with a|a
   .exact h.all v a
   .exact absurd (by rw[F7.mp a]) e
 one:=λs g m e=>by
  rw[jL]at e;by_cases b:[sk w.1,sk w.2.1]=[sk s,sk g]
  .rw[if_pos b]at e;cases e;injection b with c3 c4
   injection c4 with c4 _
   exact⟨w,L7 _ D8,N7 c3,N7 c4,rfl⟩
  .rw[if_neg b]at e;obtain⟨v,a,r⟩:=h.one s g m e;exact⟨v,G9 _ a,r⟩
def j7.leave{W:List Wy}{L:Lst}{w:Wy}{m:Int}(h:j7 W L)(e:zr L [sk w.1,sk w.2.1]=some m)(le:m<=w.2.2):j7 (W++[w]) L where
 len:=F2 h.len (by rw[E8];exact a0J _ _)
 all:=λv a=>by
  rcases G8.mp a with a|a
  .exact h.all v a
  .rw[F7.mp a];exact⟨m,e,le⟩
 one:=λs g m e=>by obtain⟨v,a,r⟩:=h.one s g m e;exact⟨v,G9 _ a,r⟩
def oi(E:W.length<=60):∃L,j7 W L/\yU [.l (W.map wP)]=.ok (.dt L):=by
 have loop:∀{V U:List Wy}{L:Lst}{a b c:EI},U++V=W->j7 U L->∃d i o l,j7 W d/\vd jC yT (V.map wP) [some (.l (W.map wP)),some (.dt L),a,b,c]=.ok (.nx [some (.l (W.map wP)),some (.dt d),i,o,l]):=by
  intro V
  induction V with
  |nil=>intro U L a b c e h;rw[M5]at e;exact⟨L,a,b,c,e▸h,rfl⟩
  |cons w V D=>
   intro U L a b c e h;have B:U.length<60:=by have:=M4 List.length e;rw[E8,D4]at this;omega
   have p:=dg (ms:=zb (zc 2) (zb (zc 3) zl)) (m:=zc 1) (ρ:=[some (.l (W.map wP)),some (.dt L),some (.s w.1),some (.s w.2.1),some (.i w.2.2)]) (x:=w.1) (y:=w.2.1) (L:=L) (n:=true) rfl rfl;have put:Wq 1 (zb (zc 2) (zb (zc 3) zl)) (zc 4) [some (.l (W.map wP)),some (.dt L),some (.s w.1),some (.s w.2.1),some (.i w.2.2)]=.ok (.nx [some (.l (W.map wP)),some (.dt (dput L [sk w.1,sk w.2.1] w.2.2)),some (.s w.1),some (.s w.2.1),some (.i w.2.2)]):=by show(if L.length<sizeLine then _ else _)=_;exact if_pos (P6 h.len (a0W B (by decide)))
   have f:∀{d:Lst},j7 (U++[w]) d->yT [some (.l (W.map wP)),some (.dt L),some (.s w.1),some (.s w.2.1),some (.i w.2.2)]=.ok (.nx [some (.l (W.map wP)),some (.dt d),some (.s w.1),some (.s w.2.1),some (.i w.2.2)])->∃d i o l,j7 W d/\vd jC yT ((w::V).map wP) [some (.l (W.map wP)),some (.dt L),a,b,c]=.ok (.nx [some (.l (W.map wP)),some (.dt d),i,o,l]):=λ{d} A v=>by obtain⟨C,i,o,l,z,u⟩:=D (U:=U++[w]) (L:=d) (a:=some (.s w.1)) (b:=some (.s w.2.1)) (c:=some (.i w.2.2)) (by rw[a0f];exact e) A;refine⟨C,i,o,l,z,?_⟩;show(yT [some (.l (W.map wP)),some (.dt L),some (.s w.1),some (.s w.2.1),some (.i w.2.2)]).bind _=_;rw[v];exact u
   cases j:zr L [sk w.1,sk w.2.1]with
   |none=>rw[j]at p;refine f (h.put λm e=>by rw[j]at e;cases e) ((zA (x:=true) ?_).trans put);unfold mOr;rw[p];rfl
   |some m=>
    rw[j]at p;have q:=QX p (zC (zo (a:=zc 4) (b:=eM (zc 1) (zb (zc 2) (zb (zc 3) zl))) rfl (au rfl rfl j) (show pLt (.i w.2.2) (.i m)=.ok (.b (decide (w.2.2<m)))from rfl)));by_cases r:w.2.2<m
    .rw[D6 r]at q;exact f (h.put λF e=>by rw[j]at e;cases e;exact r) ((zA q).trans put)
    .rw[D7 r]at q;exact f (h.leave j (by omega)) ((zA q).trans rfl)
 obtain⟨L,i,o,l,h,e⟩:=loop (V:=W) (U:=[]) (L:=[]) (a:=none) (b:=none) (c:=none) rfl ⟨D3 _,λw h=>(by cases h),λs g m e=>by cases e⟩;exact⟨L,h,zF (zd ⟨[some (.l (W.map wP)),some (.dt []),none,none,none],rfl,zd ⟨_,qG (yh rfl) e,rfl⟩⟩)⟩
def Ki(W:List Wy)(a b:Str):List Int:=(W.filter λw=>decide (w.1=a)&&decide (w.2.1=b)).map (·.2.2)
def Yt:m∈Ki W a b↔∃w∈W,w.1=a/\w.2.1=b/\w.2.2=m:=by
 unfold Ki;rw[G7];constructor
 .rintro ⟨w,c,rfl⟩
  rw[a0T,N8,a0h,a0h]at c;exact⟨w,c.1,c.2.1,c.2.2,rfl⟩
 .rintro ⟨w,c,rfl,rfl,rfl⟩
  exact⟨w,a0T.mpr ⟨c,by simp⟩,rfl⟩
def lst(W:List Wy)(a b:Str):Option Int:=if Ki W a b=[]then none else some (ff (Ki W a b))
def alg(W:List Wy):List Str->Option Int
 |s::z::r=>(lst W s z).bind λa=>(alg W (z::r)).map (a+·)
 |_=>some 0
def okW(H:Ht)(w:Wy):Bool:=match zr H (sk w.1)with
 |none=>true
 |some x=>match zr H (sk w.2.1)with
  |none=>false
  |some y=>decide (y<=x+w.2.2)
def hbG(W:List Wy)(o g:Str)(H:Ht):Option (List Str)->Bool
 |none=>!(zr H (sk g)).isSome
 |some q=>(decide (q.head?=some o)&&decide (q.getLast?=some g))&&((zr H (sk g)).isSome&&decide (alg W q=zr H (sk g)))
def hb(W:List Wy)(o g:Str)(q:EZ)(H:Ht):Bool:=decide (zr H (sk o)=some 0)&&(W.all (okW H)&&hbG W o g H q)
def wyO:Option (List Str)->PV
 |none=>.n
 |some q=>.l (q.map .s)
def az(i:j7 W L):zr L [sk a,sk b]=lst W a b:=by
 unfold lst;cases e:zr L [sk a,sk b]with
 |none=>rw[if_pos];refine List.eq_nil_iff_forall_not_mem.mpr λm c=>?_;obtain⟨w,d,rfl,rfl,_⟩:=Yt.mp c;obtain⟨u,j,_⟩:=i.all w d;rw[e]at j;cases j
 |some m=>
  obtain⟨w,d,r,o,q⟩:=i.one a b m e;have c:m∈Ki W a b:=Yt.mpr ⟨w,d,r,o,q⟩;have l:Ki W a b≠[]:=λz=>by rw[z]at c;cases c
  rw[if_neg l];congr 1;refine Int.le_antisymm ?_ (XU c);obtain⟨p,h,f,g,s⟩:=Yt.mp (QL l);obtain⟨u,n,v⟩:=i.all p h;rw[f,g,e]at n;cases n;omega
theorem Ub{o:Type}{g:MG}{b:MS}(j:o->PV)(J:Sto->Prop)(p:o->Bool)(x:PV):∀(f:List o)(d:Sto),J d->(∀a∈f,∀d,J d->∃c,g (j a) d=some c/\((p a=true/\∃e,J e/\b c=.ok (.nx e))\/(p a=false/\b c=.ok (.rt x))))->(f.all p=true/\∃i,J i/\vd g b (f.map j) d=.ok (.nx i))\/(f.all p=false/\vd g b (f.map j) d=.ok (.rt x))
 |[],d,h,_=>.inl ⟨rfl,d,h,rfl⟩
 |a::f,d,h,r=>by
  obtain⟨c,v,s⟩:=r a D8 d h;rw[E6,Vl,v,a0a];rcases s with⟨m,e,u,l⟩|⟨m,l⟩
  .rw[m,a0b];rcases Ub j J p x f e u (λa w=>r a (D5 _ w))with⟨t,q,y,n⟩|⟨t,n⟩
   .refine .inl ⟨t,q,y,?_⟩;show(b c).bind _=_;rw[l];exact n
   .refine .inr ⟨t,?_⟩;show(b c).bind _=_;rw[l];exact n
  .refine .inr ⟨by rw[m];rfl,?_⟩;show(b c).bind _=_;rw[l];rfl
def t7{W:List Wy}{H:Ht}:qh [.l (W.map wP),.d (hD H)]=.ok (.b (W.all (okW H))):=by
 have q:=Ub (g:=w8) (b:=w_) wP (λl=>∃a b c,l=[some (.l (W.map wP)),some (.d (hD H)),a,b,c]) (okW H) (.b false) W [some (.l (W.map wP)),some (.d (hD H)),none,none,none] ⟨_,_,_,rfl⟩ (λw s l ⟨a,b,c,d⟩=>by
  subst d;refine⟨[some (.l (W.map wP)),some (.d (hD H)),some (.s w.1),some (.s w.2.1),some (.i w.2.2)],rfl,?_⟩;have f:=Zd (n:=false) (a:=zc 2) (i:=1) (ρ:=[some (.l (W.map wP)),some (.d (hD H)),some (.s w.1),some (.s w.2.1),some (.i w.2.2)]) (h:=H) (z:=w.1) rfl rfl;have j:=Zd (n:=true) (a:=zc 3) (i:=1) (ρ:=[some (.l (W.map wP)),some (.d (hD H)),some (.s w.1),some (.s w.2.1),some (.i w.2.2)]) (h:=H) (z:=w.2.1) rfl rfl;unfold okW;cases o:zr H (sk w.1)with
  |none=>rw[o]at f;exact .inl ⟨rfl,_,⟨_,_,_,rfl⟩,(zA f).trans rfl⟩
  |some x=>
   rw[o]at f;cases p:zr H (sk w.2.1)with
   |none=>rw[p]at j;exact .inr ⟨rfl,(zA f).trans ((zA (W_ j)).trans rfl)⟩
   |some y=>
    rw[p]at j;have m:zB (mOp pGt (mOp pIx (zc 1) (zc 3)) (mOp yk (mOp pIx (zc 1) (zc 2)) (zc 4))) [some (.l (W.map wP)),some (.d (hD H)),some (.s w.1),some (.s w.2.1),some (.i w.2.2)]=.ok (decide (y>x+w.2.2)):=zC (zo (vv rfl rfl p) (zo (vv rfl rfl o) rfl rfl) rfl);by_cases c:y<=x+w.2.2
    .rw[D7 (by omega)]at m;exact .inl ⟨D6 c,_,⟨_,_,_,rfl⟩,(zA f).trans ((zA (QX j m)).trans rfl)⟩
    .rw[D6 (by omega)]at m;exact .inr ⟨D7 c,(zA f).trans ((zA (QX j m)).trans rfl)⟩)
 rcases q with⟨t,r,⟨a,b,c,d⟩,e⟩|⟨t,e⟩
 .subst d;rw[t];exact zF (zd ⟨_,qG (yh rfl) e,rfl⟩)
 .rw[t];exact zF (yx (qG (yh rfl) e))
def i9:yP n (ux x) (.i y)=.ok (.b (xor n (decide (x=some y)))):=by
 cases x with
 |none=>rw[D7 (by simp)];rfl
 |some v => 
  show yP n (.i v) (.i y)=_;rw[d_];by_cases c:v=y
  .rw[D6 c,D6 (by rw[c])]
  .rw[D7 c,D7 (λz=>c (G4 z))]
def AZ(h:ρ[i]?=some (some x))(a:m ρ=.ok y)(hf:f x y=.ok z):xR i f m ρ=.ok (.nx (ρ.set i (some z))):=by unfold xR;rw[h];show(m ρ).bind _=_;rw[a,okb,hf,okb]
def V9{Q:Ea}{z:Str}{i:Nat}(e:Q[i]?=some z):pIx (.l (Q.map .s)) (.i i)=.ok (.s z):=by show vk (atI (Q.map PV.s) i)=_;rw[US (Int.natCast_nonneg _),a1C,F4,e];rfl
def t8{q:Ea}(l:q.length<=100000):qi [.l (q.map .s),.s o,.s g]=.ok (.b (decide (q.head?=some o)&&decide (q.getLast?=some g))):=by
 have len:zh kf (zb (zc 0) zl) [some (.l (q.map .s)),some (.s o),some (.s g)]=.ok (.i (q.length:Int)):=zx (xs:=[.l (q.map .s)]) rfl wx;have c:mOp pGt (zh kf (zb (zc 0) zl)) (mC (.i 0)) [some (.l (q.map .s)),some (.s o),some (.s g)]=.ok (.b (decide ((q.length:Int)>0))):=zo len rfl rfl;refine zF (Z5 ?_);cases q with
 |nil=>rfl
 |cons s r=>
  rw[D6 (by rw[D4];omega)]at c;obtain⟨P,z,e⟩:∃P z,s::r=P++[z]:=⟨_,_,(a0I (List.cons_ne_nil s r)).symm⟩;have j:(s::r).getLast?=some z:=by rw[e,a2z]
  have hz:pIx (.l ((s::r).map .s)) (.i (-1))=.ok (.s z):=by rw[e];exact Jz
  have d:=zo (a:=mOp pIx (zc 0) (mC (.i 0))) (b:=zc 1) (ρ:=[some (.l ((s::r).map .s)),some (.s o),some (.s g)]) (zo rfl rfl (V9 (Q:=s::r) (i:=0) rfl)) rfl (ni (n:=false) (y:=o));have f:=zo (a:=mOp pIx (zc 0) (mUn d8 (mC (.i 1)))) (b:=zc 2) (ρ:=[some (.l ((s::r).map .s)),some (.s o),some (.s g)]) (zo rfl rfl hz) rfl (ni (n:=false) (y:=g));rw[j];refine(X9 c (X9 d f)).trans ?_;rw[a0b,M8,M8];congr 3
  .exact P1.mpr ⟨λh=>by rw[h];rfl,λh=>G4 h⟩
  .exact P1.mpr ⟨λh=>by rw[h],λh=>G4 h⟩
def oj(n:W.length<=60):yW [.l (W.map wP),.l ((s::r).map .s)]=.ok (ux (alg W (s::r))):=by
 obtain⟨L,i,j⟩:=oi (W:=W) n;have o:∀{Q r:Ea}{s:Str}{t:Int}{x:EI},(∃v,alg W (s::r)=some v/\∃d,vd yr zH (nI ((s::r).map .s) (r.map .s)) [some (.l (W.map wP)),some (.l (Q.map .s)),some (.dt L),some (.i t),x]=.ok (.nx [some (.l (W.map wP)),some (.l (Q.map .s)),some (.dt L),some (.i (t+v)),d]))\/(alg W (s::r)=none/\vd yr zH (nI ((s::r).map .s) (r.map .s)) [some (.l (W.map wP)),some (.l (Q.map .s)),some (.dt L),some (.i t),x]=.ok (.rt .n)):=by
  intro Q r
  induction r with
  |nil=>intro s t x;exact .inl ⟨0,rfl,x,by rw[Int.add_zero];rfl⟩
  |cons z r p=>
   intro s t x;have g:zB (mOp iA (zc 4) (zc 2)) [some (.l (W.map wP)),some (.l (Q.map .s)),some (.dt L),some (.i t),some (.t [.s s,.s z])]=.ok (!(lst W s z).isSome):=zC (zo rfl rfl (by show Out.ok (PV.b (!(zr L [sk s,sk z]).isSome))=_;rw[az i]));have m:alg W (s::z::r)=(lst W s z).bind λa=>(alg W (z::r)).map (a+·):=rfl;have fz:vd yr zH (nI ((s::z::r).map .s) ((z::r).map .s)) [some (.l (W.map wP)),some (.l (Q.map .s)),some (.dt L),some (.i t),x]=(zH [some (.l (W.map wP)),some (.l (Q.map .s)),some (.dt L),some (.i t),some (.t [.s s,.s z])]).bind λf=>match f with
    |.nx b=>vd yr zH (nI ((z::r).map .s) (r.map .s)) b
    |.ct b=>vd yr zH (nI ((z::r).map .s) (r.map .s)) b
    |.bk b=>.ok (.nx b)
    |.rt v=>.ok (.rt v):=rfl
   rw[fz,m];cases e:lst W s z with
   |none=>rw[e]at g;exact .inr ⟨rfl,by rw[show zH _=.ok (.rt .n)from yx ((zA g).trans rfl)];rfl⟩
   |some a=>
    rw[e]at g;have l:zH [some (.l (W.map wP)),some (.l (Q.map .s)),some (.dt L),some (.i t),some (.t [.s s,.s z])]=.ok (.nx [some (.l (W.map wP)),some (.l (Q.map .s)),some (.dt L),some (.i (t+a)),some (.t [.s s,.s z])]):=zd ⟨_,(zA g).trans rfl,AZ (x:=.i t) (y:=.i a) rfl (zo rfl rfl (by show vk ((zr L [sk s,sk z]).map PV.i)=_;rw[az i,e];rfl)) rfl⟩;rw[l];rcases p (s:=z) (t:=t+a) (x:=some (.t [.s s,.s z]))with⟨v,ev,d,c⟩|⟨ev,c⟩
    .refine .inl ⟨a+v,by rw[ev];rfl,d,?_⟩;rw[show t+(a+v)=t+a+v by omega];exact c
    .exact .inr ⟨by rw[ev];rfl,c⟩
 have h:AD (zb (zc 1) (zb (mSl pSl (zc 1) (wM (mC (.i 1))) aL) zl)) [some (.l (W.map wP)),some (.l ((s::r).map .s)),some (.dt L),some (.i 0),none]=.ok (nI ((s::r).map .s) (r.map .s)):=by have ec:Wh ((s::r).map PV.s) (some 1) none=r.map PV.s:=dk (by decide) (by rw[D0,D4];omega);unfold AD;rw[zu (x:=.l ((s::r).map .s)) rfl (zu (x:=.l (r.map .s)) (show Out.ok (PV.l (Wh ((s::r).map PV.s) (some 1) none))=_ from by rw[ec]) rfl),okb];rfl
 rcases o (Q:=s::r) (r:=r) (s:=s) (t:=0) (x:=none)with⟨v,ev,d,c⟩|⟨ev,c⟩
 .rw[ev];refine zF (zd ⟨_,z_ (zx (xs:=[.l (W.map wP)]) rfl j),zd ⟨_,rfl,zd ⟨_,qG h c,?_⟩⟩⟩);show Out.ok (Fw.rt (.i (0+v)))=_;rw[a20];rfl
 .rw[ev];exact zF (zd ⟨_,z_ (zx (xs:=[.l (W.map wP)]) rfl j),zd ⟨_,rfl,yx (qG h c)⟩⟩)
def t9(p:W.length<=60)(m:∀r,q=some r->r.length<=100000):qT [.l (W.map wP),.s o,.s g,wyO q,.d (hD H)]=.ok (.b (hb W o g q H)):=by
 have c:=QX (zC (zo (a:=uw (zc 4) (zc 1)) (b:=mC (.i 0)) (ρ:=[some (.l (W.map wP)),some (.s o),some (.s g),some (wyO q),some (.d (hD H))]) (pS rfl rfl) rfl (i9 (n:=true) (x:=zr H (sk o)) (y:=0)))) (V4 (zC (zx (ms:=zb (zc 0) (zb (zc 4) zl)) (xs:=[.l (W.map wP),.d (hD H)]) (ρ:=[some (.l (W.map wP)),some (.s o),some (.s g),some (wyO q),some (.d (hD H))]) rfl (t7 (W:=W) (H:=H)))));unfold hb;by_cases j:zr H (sk o)=some 0
 .rw[D6 j]at c ⊢;cases l:W.all (okW H)with
  |false=>rw[l]at c;exact zF (yx ((zA c).trans rfl))
  |true=>
   rw[l]at c;refine zF (zd ⟨_,(zA c).trans rfl,?_⟩);cases q with
   |none=>refine yx ((zA (x:=true) (zC rfl)).trans ?_);show jc _ _=_;refine Z5 (zo rfl rfl ?_);show Out.ok (PV.b (xor true (zr (hD H) (sk g)).isSome))=_;rw[V5,O1,a0Q];rfl
   |some q=>
    refine zd ⟨_,(zA (x:=false) (zC rfl)).trans rfl,?_⟩;have u:=Zd (n:=true) (a:=zc 2) (i:=4) (ρ:=[some (.l (W.map wP)),some (.s o),some (.s g),some (.l (q.map .s)),some (.d (hD H))]) (h:=H) (z:=g) rfl rfl;have v:=V4 (zC (zx (ms:=zb (zc 3) (zb (zc 1) (zb (zc 2) zl))) (ρ:=[some (.l (W.map wP)),some (.s o),some (.s g),some (.l (q.map .s)),some (.d (hD H))]) (xs:=[.l (q.map .s),.s o,.s g]) rfl (t8 (o:=o) (g:=g) (m q rfl))));have d:=QX u v;show zZ _ _ [some (.l (W.map wP)),some (.s o),some (.s g),some (.l (q.map .s)),some (.d (hD H))]=.ok (.rt (.b (true&&(true&&((decide (q.head?=some o)&&decide (q.getLast?=some g))&&((zr H (sk g)).isSome&&decide (alg W q=zr H (sk g))))))));cases e:decide (q.head?=some o)&&decide (q.getLast?=some g)with
    |false=>rw[e,Bool.not_false,Bool.or_true]at d;exact yx ((zA d).trans rfl)
    |true=>
     rw[e,Bool.not_true,Bool.or_false]at d;cases f:zr H (sk g)with
     |none=>rw[f]at d;exact yx ((zA d).trans rfl)
     |some y=>
      rw[f]at d;refine zd ⟨_,(zA d).trans rfl,?_⟩;cases q with
      |nil=>simp at e
      |cons s r=>refine Z5 (zo (zx (xs:=[.l (W.map wP),.l ((s::r).map .s)]) rfl (oj p)) (vv rfl rfl f) (i9.trans ?_));rw[M8];rfl
 .rw[D7 j]at c ⊢;exact zF (yx ((zA c).trans rfl))
section
variable {W:List Wy}{H:Ht}{o g:Str}
abbrev loS(W:List Wy)(o g:Str)(q:EZ)(H:Ht)(a b c d e f:EI):Sto:=[some (.l (W.map wP)),some (.s o),some (.s g),some (wyO q),some (.d (hD H)),a,b,c,d,e,f]
theorem dm:∀{c:EB},oX (c.map PV.i)=some c
 |[]=>rfl
 |n::c=>by show(match toI (PV.i n),oX (c.map PV.i)with|some a,some b=>some (a::b)|_,_=>none)=_;rw[dm];rfl
def pW(h:m ρ=.ok (.l ((Ki W a b).map .i)))(e:lst W a b=some y):zh eN (zb m zl) ρ=.ok (.i y):=by
 refine zx (zu h rfl) ?_;show vk ((oX ((Ki W a b).map PV.i)).bind λd=>if d=[]then none else some (PV.i (ff d)))=_;rw[dm];show vk (if Ki W a b=[]then none else some (PV.i (ff (Ki W a b))))=_;unfold lst at e;by_cases c:Ki W a b=[]
 .rw[if_pos c]at e;cases e
 .rw[if_neg c]at e ⊢;cases e;rfl
def om(v:W.length<=60)(p:q[i]?=some s)(r:q[i+1]?=some z):mLC (yF (zc 0)) [none,none,none,some 3,some 9] vT vU vV (loS W o g (some q) H a b c d (some (.i (i:Nat))) f)=.ok (.l ((Ki W s z).map .i)):=by
 have:=Vn (g:=vT) (c:=vU) (e:=vV) wP (λw=>decide (w.1=s)&&decide (w.2.1=z)) (λw=>.i w.2.2) (λh=>∃x y t,h=[x,y,t,some (.l (q.map .s)),some (.i (i:Nat))]) W [none,none,none,some (.l (q.map .s)),some (.i (i:Nat))] [] ⟨_,_,_,rfl⟩ (λw u h ⟨x,y,t,j⟩=>by
  subst j;refine⟨[some (.s w.1),some (.s w.2.1),some (.i w.2.2),some (.l (q.map .s)),some (.i (i:Nat))],rfl,⟨_,_,_,rfl⟩,?_,λ_=>rfl⟩;have l:=Jy (n:=false) (a:=zc 0) (b:=mOp pIx (zc 3) (zc 4)) (ρ:=[some (.s w.1),some (.s w.2.1),some (.i w.2.2),some (.l (q.map .s)),some (.i (i:Nat))]) (x:=w.1) (y:=s) rfl (zo rfl rfl (V9 p));have m:=Jy (n:=false) (a:=zc 1) (b:=mOp pIx (zc 3) (mOp yk (zc 4) (mC (.i 1)))) (ρ:=[some (.s w.1),some (.s w.2.1),some (.i w.2.2),some (.l (q.map .s)),some (.i (i:Nat))]) (x:=w.2.1) (y:=z) rfl (zo rfl (zo rfl rfl rfl) (V9 (i:=i+1) r));rw[M8]at l m;exact jV l m) (by rw[a0y];omega)
 refine bF (yh rfl) (this.trans ?_);rw[a0x];unfold Ki;rw[G5];rfl
def oq:yP false (.l ((Ki W s z).map .i)) (.l [])=.ok (.b (!(lst W s z).isSome)):=by
 unfold lst;cases e:Ki W s z with
 |nil=>rfl
 |cons a r=>rfl
def i_(I:W.length<=60)(M:q.length<=100000):∀(n:Nat){i:Nat}{s:Str}{r:Ea}{t:Int}{a b c e f:EI},i+n+1=q.length->q.drop i=s::r->(∃v,alg W (s::r)=some v/\∃A C,vd qB yn ((List.range' i n).map λk=>.i (k:Nat)) (loS W o g (some q) H a b c (some (.i t)) e f)=.ok (.nx (loS W o g (some q) H a b c (some (.i (t+v))) A C)))\/(alg W (s::r)=none/\vd qB yn ((List.range' i n).map λk=>.i (k:Nat)) (loS W o g (some q) H a b c (some (.i t)) e f)=.ok (.rt (.b false))):=by
 intro n
 induction n with
 |zero=>
  intro i s r t a b c e f K p;have B:r=[]:=by have:=M4 List.length p;rw[S4,D4]at this;exact List.eq_nil_of_length_eq_zero (by omega)
  subst B;exact .inl ⟨0,rfl,e,f,by rw[Int.add_zero];rfl⟩
 |succ n L=>
  intro i s r t a b c e f K p;have J:q[i]?=some s:=by have:=a21 (xs:=q) (i:=i) (j:=0);rw[p,Nat.add_zero]at this;exact this.symm
  have B:∃z m,r=z::m:=by
   cases r with
   |nil=>have:=M4 List.length p;rw[S4]at this;simp at this;omega
   |cons z m=>exact⟨z,m,rfl⟩
  obtain⟨z,m,rfl⟩:=B;have y:q.drop (i+1)=z::m:=by rw[<- List.drop_drop,p];rfl
  have F:q[i+1]?=some z:=by have:=a21 (xs:=q) (i:=i) (j:=1);rw[p]at this;exact this.symm
  have G:alg W (s::z::m)=(lst W s z).bind λa=>(alg W (z::m)).map (a+·):=rfl;have fz:vd qB yn ((List.range' i (n+1)).map λk=>.i (k:Nat)) (loS W o g (some q) H a b c (some (.i t)) e f)=(yn (loS W o g (some q) H a b c (some (.i t)) (some (.i (i:Nat))) f)).bind λf=>match f with
    |.nx l=>vd qB yn ((List.range' (i+1) n).map λk=>.i (k:Nat)) l
    |.ct l=>vd qB yn ((List.range' (i+1) n).map λk=>.i (k:Nat)) l
    |.bk l=>.ok (.nx l)
    |.rt v=>.ok (.rt v):=by rw[List.range'_succ];rfl
  have E:=om (o:=o) (g:=g) (H:=H) I J F (a:=a) (b:=b) (c:=c) (d:=some (.i t)) (f:=f);have u:zB (mOp (yP false) (zc 10) (ZD zl)) (loS W o g (some q) H a b c (some (.i t)) (some (.i (i:Nat))) (some (.l ((Ki W s z).map .i))))=.ok (!(lst W s z).isSome):=zC (zo rfl rfl oq);rw[fz,G];cases D:lst W s z with
  |none=>rw[D]at u;have w:yn (loS W o g (some q) H a b c (some (.i t)) (some (.i (i:Nat))) f)=.ok (.rt (.b false)):=zd ⟨_,z_ E,yx ((zA u).trans rfl)⟩;exact .inr ⟨rfl,by rw[w];rfl⟩
  |some x=>
   rw[D]at u;have w:yn (loS W o g (some q) H a b c (some (.i t)) (some (.i (i:Nat))) f)=.ok (.nx (loS W o g (some q) H a b c (some (.i (t+x))) (some (.i (i:Nat))) (some (.l ((Ki W s z).map .i))))):=zd ⟨_,z_ E,zd ⟨_,(zA u).trans rfl,z_ (zo rfl (pW rfl D) rfl)⟩⟩;rw[w];rcases L (i:=i+1) (s:=z) (r:=m) (t:=t+x) (a:=a) (b:=b) (c:=c) (e:=some (.i (i:Nat))) (f:=some (.l ((Ki W s z).map .i))) (by omega) y with⟨v,ev,A,C,h⟩|⟨ev,h⟩
   .refine .inl ⟨x+v,by rw[ev];rfl,A,C,?_⟩;rw[show t+(x+v)=t+x+v by omega];exact h
   .exact .inr ⟨by rw[ev];rfl,h⟩
def bV(N:W.length<=60)(O:∀r,q=some r->r.length<=1000):qv [.l (W.map wP),.s o,.s g,wyO q,.d (hD H)]=.ok (.b (hb W o g q H)):=by
 have U:∀{a b c d e f:EI},mOr (zB (mOp (pIn true) (zc 1) (zc 4))) (zB (mOp (yP true) (mOp pIx (zc 4) (zc 1)) (mC (.i 0)))) (loS W o g q H a b c d e f)=.ok (!decide (zr H (sk o)=some 0)):=by
  intro a b c d e f;have j:=Zd (n:=true) (a:=zc 1) (i:=4) (ρ:=loS W o g q H a b c d e f) (h:=H) (z:=o) rfl rfl;cases l:zr H (sk o)with
  |none=>rw[l]at j;exact(W_ j).trans rfl
  |some x=>
   rw[l]at j;refine(QX j (zC (zo (vv rfl rfl l) rfl d_))).trans ?_;by_cases c:x=0
   .rw[D6 c,D6 (by rw[c])];rfl
   .rw[D7 c,D7 (λz=>c (G4 z))];rfl
 have R:=Ub (g:=QT) (b:=QU) wP (λp=>∃a b c,p=loS W o g q H a b c none none none) (okW H) (.b false) W (loS W o g q H none none none none none none) ⟨_,_,_,rfl⟩ (λw Z p ⟨a,b,c,A⟩=>by
  subst A;refine⟨loS W o g q H (some (.s w.1)) (some (.s w.2.1)) (some (.i w.2.2)) none none none,rfl,?_⟩;have j:=Zd (n:=false) (a:=zc 5) (i:=4) (ρ:=loS W o g q H (some (.s w.1)) (some (.s w.2.1)) (some (.i w.2.2)) none none none) (h:=H) (z:=w.1) rfl rfl;have B:=Zd (n:=true) (a:=zc 6) (i:=4) (ρ:=loS W o g q H (some (.s w.1)) (some (.s w.2.1)) (some (.i w.2.2)) none none none) (h:=H) (z:=w.2.1) rfl rfl;unfold okW;cases l:zr H (sk w.1)with
  |none=>rw[l]at j;exact .inl ⟨rfl,_,⟨_,_,_,rfl⟩,zd ⟨_,(zA (Qq j)).trans rfl,(zA (Qq j)).trans rfl⟩⟩
  |some x=>
   rw[l]at j;cases u:zr H (sk w.2.1)with
   |none=>rw[u]at B;exact .inr ⟨rfl,yx ((zA (jV j B)).trans rfl)⟩
   |some y=>
    rw[u]at B;have D:zB (mOp pGt (mOp cD (mOp pIx (zc 4) (zc 6)) (zc 7)) (mOp pIx (zc 4) (zc 5))) (loS W o g q H (some (.s w.1)) (some (.s w.2.1)) (some (.i w.2.2)) none none none)=.ok (decide (y-w.2.2>x)):=zC (zo (zo (vv rfl rfl u) rfl rfl) (vv rfl rfl l) rfl);by_cases c:y<=x+w.2.2
    .rw[D7 (by omega)]at D;exact .inl ⟨D6 c,_,⟨_,_,_,rfl⟩,zd ⟨_,(zA (jV j B)).trans rfl,(zA (jV j D)).trans rfl⟩⟩
    .rw[D6 (by omega)]at D;exact .inr ⟨D7 c,zd ⟨_,(zA (jV j B)).trans rfl,(zA (jV j D)).trans rfl⟩⟩)
 unfold hb;have C:=U (a:=none) (b:=none) (c:=none) (d:=none) (e:=none) (f:=none);by_cases J:zr H (sk o)=some 0
 .rw[D6 J]at C ⊢;rcases R with⟨t,T,⟨a,b,c,A⟩,F⟩|⟨t,F⟩
  .subst A;rw[t];refine zF (zd ⟨_,(zA C).trans rfl,zd ⟨_,qG (yh rfl) F,?_⟩⟩);have B:=Zd (n:=true) (a:=zc 2) (i:=4) (ρ:=loS W o g q H a b c none none none) (h:=H) (z:=g) rfl rfl;cases q with
   |none=>refine yx ((zA (x:=true) (zC rfl)).trans ?_);show jc _ _=_;refine Z5 (zo rfl rfl ?_);show Out.ok (PV.b (xor true (zr (hD H) (sk g)).isSome))=_;rw[V5,O1,a0Q];rfl
   |some q=>
    refine zd ⟨_,(zA (x:=false) (zC rfl)).trans rfl,?_⟩;show zZ _ _ (loS W o g (some q) H a b c none none none)=.ok (.rt (.b (true&&(true&&((decide (q.head?=some o)&&decide (q.getLast?=some g))&&((zr H (sk g)).isSome&&decide (alg W q=zr H (sk g))))))));cases q with
    |nil=>exact yx ((zA (x:=true) (W_ (zC rfl))).trans rfl)
    |cons s r=>
     have L:zB (mOp (yP false) (zc 3) (ZD zl)) (loS W o g (some (s::r)) H a b c none none none)=.ok false:=zC rfl;obtain⟨P,z,e⟩:∃P z,s::r=P++[z]:=⟨_,_,(a0I (List.cons_ne_nil s r)).symm⟩;have l:(s::r).getLast?=some z:=by rw[e,a2z]
     have hz:pIx (.l ((s::r).map .s)) (.i (-1))=.ok (.s z):=by rw[e];exact Jz
     have X:=Jy (n:=true) (a:=mOp pIx (zc 3) (mC (.i 0))) (b:=zc 1) (ρ:=loS W o g (some (s::r)) H a b c none none none) (y:=o) (zo rfl rfl (V9 (Q:=s::r) (i:=0) rfl)) rfl;have M:=Jy (n:=true) (a:=mOp pIx (zc 3) (mUn d8 (mC (.i 1)))) (b:=zc 2) (ρ:=loS W o g (some (s::r)) H a b c none none none) (y:=g) (zo rfl rfl hz) rfl;have m:=QX L (QX X (QX M B));have S:decide ((s::r).head?=some o)=decide (s=o):=P1.mpr ⟨λh=>G4 h,λh=>by rw[h];rfl⟩;have Y:decide ((s::r).getLast?=some g)=decide (z=g):=by rw[l];exact P1.mpr ⟨λh=>G4 h,λh=>by rw[h]⟩
     rw[S,Y];by_cases E:s=o
     .by_cases K:z=g
      .rw[D6 E,D6 K]at m ⊢;cases u:zr H (sk g)with
       |none=>rw[u]at m;exact yx ((zA m).trans rfl)
       |some y=>
        rw[u]at m;have len:mOp cD (zh kf (zb (zc 3) zl)) (mC (.i 1)) (loS W o g (some (s::r)) H a b c (some (.i 0)) none none)=.ok (.i (r.length:Int)):=by refine zo (zx (xs:=[.l ((s::r).map .s)]) rfl wx) rfl ?_;show Out.ok (PV.i (((s::r).length:Int)-1))=_;rw[D4];congr 2;omega
        have G:=O _ rfl;have I:Vi (zb (mOp cD (zh kf (zb (zc 3) zl)) (mC (.i 1))) zl) (loS W o g (some (s::r)) H a b c (some (.i 0)) none none)=.ok ((List.range' 0 r.length).map λk=>.i (k:Nat)):=by rw[cQ (zu len rfl) (by rw[D4]at G;omega)];unfold cM;rw[List.range_eq_range'];congr 1;exact R8 λk _=>by rw[a20]
        refine zd ⟨_,(zA m).trans rfl,zd ⟨_,rfl,?_⟩⟩;rcases i_ (o:=o) (g:=g) (H:=H) N (q:=s::r) (by omega) r.length (i:=0) (s:=s) (r:=r) (t:=0) (a:=a) (b:=b) (c:=c) (e:=none) (f:=none) (by rw[D4];omega) rfl with⟨v,ev,e',f',h⟩|⟨ev,h⟩
        .refine zd ⟨_,qG I h,Z5 (zo rfl (vv rfl rfl u) (d_.trans ?_))⟩;rw[ev,M8,a20];show _=Out.ok (PV.b (decide (some v=some y)));congr 2;exact P1.mpr ⟨λh=>by rw[h],λh=>G4 h⟩
        .rw[ev];exact yx (qG I h)
      .rw[D6 E,D7 K]at m ⊢;exact yx ((zA m).trans rfl)
     .rw[D7 E]at m ⊢;exact yx ((zA m).trans rfl)
  .rw[t];exact zF (zd ⟨_,(zA C).trans rfl,yx (qG (yh rfl) F)⟩)
 .rw[D7 J]at C ⊢;exact zF (yx ((zA C).trans rfl))
end
section
theorem Z6{f:EK}:∀{a:Ew},(∀x∈a,f x x=some true)->cF f a a=some true
 |[],_=>rfl
 |x::a,h=>by show rV (f x x) (cF f a a)=_;rw[h x D8,Z6 λy b=>h y (D5 _ b)];rfl
theorem dq{f:EK}{b:Er}:∀{a:Er},(∀x∈a,zr b x.1=some x.2/\f x.2 x.2=some true)->bp f b a=some true
 |[],_=>rfl
 |x::a,h=>by unfold bp;obtain⟨c,d⟩:=h x D8;rw[c];show rV (f x.2 x.2) (bp f b a)=_;rw[d,dq λy e=>h y (D5 _ e)];rfl
variable {W:List Wy}{H:Ht}{o g:Str}{q:EZ}
def lb:aN (n+4) (.l (W.map wP)) (.l (W.map wP))=some true:=by
 refine Z6 (f:=aN (n+3)) λx a=>?_;obtain⟨w,_,rfl⟩:=G7.mp a;show cF (Ja (n+2)) [.s w.1,.s w.2.1,.i w.2.2] [.s w.1,.s w.2.1,.i w.2.2]=_;refine Z6 λx a=>?_;simp only[List.mem_cons,List.not_mem_nil,or_false]at a;rcases a with rfl|rfl|rfl
 .rw[UU,D6 rfl]
 .rw[UU,D6 rfl]
 .rw[pd,D6 rfl]
def ot:aN (n+2) (wyO q) (wyO q)=some true:=by
 cases q with
 |none=>rfl
 |some q=>refine Z6 (f:=aN (n+1)) λx a=>?_;obtain⟨w,_,rfl⟩:=G7.mp a;show Ja (n+1) _ _=_;rw[UU,D6 rfl]
def ou(d:(H.map (·.1)).Nodup):aN (n+1) (.d (hD H)) (.d (hD H))=some true:=by
 show(if(hD H).length=(hD H).length then bp (Ja n) (hD H) (hD H)else some false)=_;rw[if_pos rfl];have a:((hD H).map (·.1)).Nodup:=by unfold hD;rw[G5];exact d
 refine dq λx b=>?_;obtain⟨j,c⟩:=a2A b;refine⟨Xz a c,?_⟩;obtain⟨p,_,rfl⟩:=G7.mp b;show Ja n (.i p.2) (.i p.2)=_;rw[pd,D6 rfl]
def V_(i:W.length<=60)(c:∀r,q=some r->r.length<=1000)(m:(H.map (·.1)).Nodup)(l:d=hb W o g q H):qm [.l (W.map wP),.s o,.s g,wyO q,.d (hD H),.b d]=.ok (.b true):=by
 subst l;have a:∀r,q=some r->r.length<=100000:=λr e=>F2 (c r e) (by decide);have j:ZD (zb (zh qI (zb (zc 0) zl)) (zb (mIf (zB (mOp (K5 false) (zc 3) (mC .n))) (mC .n) (zh qI (zb (zc 3) zl))) (zb (zh ZN (zb (zc 4) zl)) zl))) [some (.l (W.map wP)),some (.s o),some (.s g),some (wyO q),some (.d (hD H)),some (.b (hb W o g q H)),none,none]=.ok (.l [.l (W.map wP),wyO q,.d (hD H)]):=by refine iQ (zu rfl (zu ?_ rfl)) (F9 rfl);cases q<;>rfl
 have h:zh qT (zb (mOp pIx (zc 6) (mC (.i 0))) (zb (zc 1) (zb (zc 2) (zb (mOp pIx (zc 6) (mC (.i 1))) (zb (mOp pIx (zc 6) (mC (.i 2))) zl))))) [some (.l (W.map wP)),some (.s o),some (.s g),some (wyO q),some (.d (hD H)),some (.b (hb W o g q H)),some (.l [.l (W.map wP),wyO q,.d (hD H)]),none]=.ok (.b (hb W o g q H)):=zx (xs:=[.l (W.map wP),.s o,.s g,wyO q,.d (hD H)]) rfl (t9 i a);refine zF (zd ⟨_,z_ j,zd ⟨_,z_ h,Z5 ((X9 (x:=true) rfl (X9 (x:=true) (y:=true) (zo rfl rfl ?_) (zo rfl (y:=.l [.l (W.map wP),wyO q,.d (hD H)]) rfl ?_))).trans ?_)⟩⟩)
 .show nv false (.b (hb W o g q H)) (.b (hb W o g q H))=_;have:aN 8 (.b (hb W o g q H)) (.b (hb W o g q H))=some true:=by show Ja 8 _ _=_;rw[x8,D6 rfl]
  unfold nv;rw[this];rfl
 .show nv false (.l [.l (W.map wP),wyO q,.d (hD H)]) (.l [.l (W.map wP),wyO q,.d (hD H)])=.ok (.b true);have:aN 8 (.l [.l (W.map wP),wyO q,.d (hD H)]) (.l [.l (W.map wP),wyO q,.d (hD H)])=some true:=by
   refine Z6 (f:=aN 7) λx b=>?_;simp only[List.mem_cons,List.not_mem_nil,or_false]at b;rcases b with rfl|rfl|rfl
   .exact lb (n:=3)
   .exact ot (n:=5)
   .exact ou (n:=6) m
  unfold nv;rw[this];rfl
 .rfl
end
def nmS(a b n:Nat):Str:=Txt.mul " " (a:Int)++s2 (n:Int)++Txt.mul " " ((b:Int)+(n:Int) % 2)
def odR:∀a b:Fin 11,∀n:Fin 6,a.val+b.val<=10->Txt.replace (nmX a.val b.val n.val) "x" " "=nmS a.val b.val n.val:=by decide +kernel
def odS:∀a b:Fin 11,∀n:Fin 6,a.val+b.val<=10->nmS a.val b.val n.val≠"none"/\nmS a.val b.val n.val≠"":=by decide +kernel
def odC:Txt.replace "none" "x" " "="none":=by decide +kernel
def t_(e:m<35)(c:n<35)(h:nmS a b m=nmS a b n):m=n:=by unfold nmS at h;have d:=(str_inj (a:=Txt.mul " " (a:Int)++s2 (m:Int)) (a':=Txt.mul " " (a:Int)++s2 (n:Int)) (by rw[str_len,str_len];rfl) h).1;have f:=(str_inj rfl d).2;exact M4 Fin.val (pV ⟨m,e⟩ ⟨n,c⟩ f)
abbrev Hs:=List (Str×Int)
def hE(E:Hs):Ht:=E.map λp=>(sk p.1,p.2)
def zL{a b:Type}[DecidableEq a]{p:a×b}{E:List (a×b)}{k:a}:zr (p::E) k=if p.1=k then some p.2 else zr E k:=by
 unfold zr;rw[R4];by_cases c:p.1=k
 .rw[if_pos c,D6 c];rfl
 .rw[if_neg c,D7 c]
theorem wy{z:Str}:∀{E:Hs},zr (hE E) (sk z)=zr E z
 |[]=>rfl
 |p::E=>by
  show zr ((sk p.1,p.2)::hE E) (sk z)=_;rw[zL,zL,wy];by_cases c:p.1=z
  .rw[if_pos c,if_pos (by rw[c])]
  .rw[if_neg c,if_neg (λh=>c (N7 h))]
section
variable {S:Ea}{f:Str->Str}
def pX(S:Ea)(f:Str->Str):Prop:=∀a∈S,∀b∈S,f a=f b->a=b
def rnW(f:Str->Str)(W:List Wy):List Wy:=W.map λw=>(f w.1,f w.2.1,w.2.2)
def rnE(f:Str->Str)(E:Hs):Hs:=E.map λp=>(f p.1,p.2)
theorem JA(j:pX S f){z:Str}(hz:z∈S):∀{E:Hs},(∀p∈E,p.1∈S)->zr (rnE f E) (f z)=zr E z
 |[],_=>rfl
 |p::E,h=>by
  show zr ((f p.1,p.2)::rnE f E) (f z)=_;rw[zL,zL,JA j hz λp hp=>h p (D5 _ hp)];by_cases c:p.1=z
  .rw[if_pos c,if_pos (by rw[c])]
  .rw[if_neg c,if_neg (λe=>c (j _ (h p D8) _ hz e))]
def WIn(S:Ea)(W:List Wy):Prop:=∀w∈W,w.1∈S/\w.2.1∈S
theorem lg(j:pX S f){a b:Str}(d:a∈S)(hb:b∈S):∀{W:List Wy},WIn S W->Ki (rnW f W) (f a) (f b)=Ki W a b
 |[],_=>rfl
 |w::W,h=>by
  have c:=lg j d hb (W:=W) λw g=>h w (D5 _ g);unfold Ki at c ⊢;obtain⟨i,l⟩:=h w D8;show((((f w.1,f w.2.1,w.2.2):Wy)::rnW f W).filter _).map _=_;rw[a0n,a0n];have m:decide (f w.1=f a)=decide (w.1=a):=P1.mpr ⟨λe=>j _ i _ d e,λe=>by rw[e]⟩;have n:decide (f w.2.1=f b)=decide (w.2.1=b):=P1.mpr ⟨λe=>j _ l _ hb e,λe=>by rw[e]⟩;dsimp only;rw[m,n];split
  .rw[E6,E6,c]
  .exact c
theorem pY(j:pX S f){W:List Wy}(h:WIn S W):∀{q:Ea},(∀z∈q,z∈S)->alg (rnW f W) (q.map f)=alg W q
 |[],_=>rfl
 |[_],_=>rfl
 |s::z::r,b=>by
  show((lst (rnW f W) (f s) (f z)).bind λa=>(alg (rnW f W) ((z::r).map f)).map (a+·))=(lst W s z).bind λa=>(alg W (z::r)).map (a+·);rw[pY j h λy c=>b y (D5 _ c)];have:lst (rnW f W) (f s) (f z)=lst W s z:=by unfold lst;rw[lg j (b s D8) (b z (D5 _ D8)) h]
  rw[this]
theorem pZ(j:pX S f){E:Hs}(a:∀p∈E,p.1∈S):∀{W:List Wy},WIn S W->(rnW f W).all (okW (hE (rnE f E)))=W.all (okW (hE E))
 |[],_=>rfl
 |w::W,h=>by
  show(((f w.1,f w.2.1,w.2.2):Wy)::rnW f W).all _=_;rw[a0a,a0a,pZ j a λw b=>h w (D5 _ b)];obtain⟨c,d⟩:=h w D8;have:okW (hE (rnE f E)) (f w.1,f w.2.1,w.2.2)=okW (hE E) w:=by unfold okW;dsimp only;rw[wy,wy,JA j c a,JA j d a,wy,wy]
  rw[this]
def CM(j:pX S f)(i:WIn S W)(b:∀p∈E,p.1∈S)(h:o∈S)(d:g∈S)(c:∀r,q=some r->∀z∈r,z∈S):hb (rnW f W) (f o) (f g) (q.map (·.map f)) (hE (rnE f E))=hb W o g q (hE E):=by
 unfold hb;rw[pZ j b i,wy,wy,JA j h b];congr 2;cases q with
 |none=>show(!(zr (hE (rnE f E)) (sk (f g))).isSome) = !(zr (hE E) (sk g)).isSome;rw[wy,wy,JA j d b]
 |some q=>
  show((decide ((q.map f).head?=some (f o))&&decide ((q.map f).getLast?=some (f g)))&&((zr (hE (rnE f E)) (sk (f g))).isSome&&decide (alg (rnW f W) (q.map f)=zr (hE (rnE f E)) (sk (f g)))))=((decide (q.head?=some o)&&decide (q.getLast?=some g))&&((zr (hE E) (sk g)).isSome&&decide (alg W q=zr (hE E) (sk g))));rw[wy,wy,JA j d b,pY j i (c q rfl),List.head?_map,List.getLast?_map];have a:∀{x:Option Str}{y:Str},(∀z,x=some z->z∈S)->y∈S->decide (x.map f=some (f y))=decide (x=some y):=λ{x y} l m=>by
   cases x with
   |none=>rfl
   |some x=>exact P1.mpr ⟨λe=>by rw[j _ (l x rfl) _ m (G4 e)],λe=>by rw[G4 e];rfl⟩
  rw[a (λz e=>c q rfl z (List.mem_of_head? e)) h,a (λz e=>c q rfl z (List.mem_of_getLast? e)) d]
end
theorem Uc{d g:Type}{f:d->g}:∀{l:List d},l.Nodup->(∀x∈l,∀y∈l,f x=f y->x=y)->(l.map f).Nodup
 |[],_,_=>a1o
 |a::l,c,h=>by rw[E6,O7];have c:=O7.mp c;refine⟨λm=>?_,Uc c.2 λx i y j=>h x (D5 _ i) y (D5 _ j)⟩;obtain⟨b,hb,e⟩:=G7.mp m;exact c.1 (h b (D5 _ hb) a D8 e▸hb)
def od(a z:Str):Str:=if z=a then "" else Txt.replace z "x" " "
def A0(B:n<=6)(f:a+b<=10):pX ((List.range n).map (nmX a b)++[("none":Str)]) (od p0):=by
 have i:∀z∈(List.range n).map (nmX a b)++[("none":Str)],(∃m,m<6/\z=nmX a b m/\Txt.replace z "x" " "=nmS a b m/\nmS a b m≠"none"/\nmS a b m≠"")\/(z="none"/\Txt.replace z "x" " "="none"):=λz hz=>by
  rcases G8.mp hz with h|h
  .obtain⟨m,o,rfl⟩:=G7.mp h;have o:=a0C.mp o;have w:=odR ⟨a,by omega⟩ ⟨b,by omega⟩ ⟨m,by omega⟩ f;have q:=odS ⟨a,by omega⟩ ⟨b,by omega⟩ ⟨m,by omega⟩ f;exact .inl ⟨m,by omega,rfl,w,q.1,q.2⟩
  .rw[F7.mp h];exact .inr ⟨rfl,odC⟩
 have s:∀z∈(List.range n).map (nmX a b)++[("none":Str)],Txt.replace z "x" " "≠"":=λz hz=>by
  rcases i z hz with⟨m,_,_,e,_,h⟩|⟨_,e⟩
  .rw[e];exact h
  .rw[e];decide +kernel
 intro x r y p e;unfold od at e;by_cases j:x=p0
 .by_cases d:y=p0
  .rw[j,d]
  .rw[if_pos j,if_neg d]at e;exact absurd e.symm (s y p)
 .by_cases d:y=p0
  .rw[if_neg j,if_pos d]at e;exact absurd e (s x r)
  .rw[if_neg j,if_neg d]at e;rcases i x r with⟨m,o,rfl,g,u,_⟩|⟨rfl,g⟩
   .rcases i y p with⟨A,l,rfl,c,_,_⟩|⟨rfl,c⟩
    .rw[g,c]at e;rw[t_ (by omega) (by omega) e]
    .rw[g,c]at e;exact absurd e u
   .rcases i y p with⟨A,l,rfl,c,v,_⟩|⟨rfl,c⟩
    .rw[g,c]at e;exact absurd e.symm v
    .rfl
def ua(h:m ρ=.ok (.s w))(a:w.length<=1000):U5 "x" " " m ρ=.ok (.s (Txt.replace w "x" " ")):=by
 unfold U5;rw[h,okb];exact if_pos ⟨by decide +kernel,by
  have:(" ":Str).length=1:=by decide +kernel
  rw[this];omega⟩
section
variable {S N:Ea}{p0:Str}
def A4(a:N.head?=some p0)(hz:z.length<=1000):qd [.l (N.map .s),.s z]=.ok (.s (od p0 z)):=by
 cases N with
 |nil=>cases a
 |cons y r=>
  cases a;refine zF (Z5 (zo (iQ (zu (ua rfl hz) (zu rfl rfl)) (F9 rfl)) (zx (zu (zo (x:=.s z) rfl (zo rfl rfl (V9 (Q:=p0::r) (i:=0) rfl)) ni) rfl) rfl) ?_));unfold od;by_cases c:z=p0
  .rw[if_pos c,D6 c];rfl
  .rw[if_neg c,D7 c];rfl
def ow:lV (E.map λp=>.t [.s p.1,.i p.2])=some (hD (hE E)):=by
 induction E with
 |nil=>rfl
 |cons p E a=>show(pk (.s p.1)).bind (λq=>(lV (E.map λp=>.t [.s p.1,.i p.2])).map ((q,.i p.2)::·))=_;rw[a];rfl
def bW(a:(E.map (·.1)).Nodup):((hE E).map (·.1)).Nodup:=by
 unfold hE;rw[G5];have:(E.map ((λx=>x.1)∘λp=>((sk p.1,p.2):Key×Int)))=(E.map (·.1)).map sk:=by rw[G5];rfl
 rw[this];exact Uc a λx _ y _ e=>N7 e
def CN(a:(H.map (·.1)).Nodup):((hD H).map (·.1)).Nodup:=by unfold hD;rw[G5];exact a
def lh(hN:N.head?=some p0)(j:pX S (od p0))(hS:∀z∈S,z.length<=1000)(hl:W.length<=60)(hW:WIn S W)(nd:(E.map (·.1)).Nodup)(hlE:E.length<=1000)(hH:∀p∈E,p.1∈S)(ho:o∈S)(hg:g∈S)(hq:∀r,q=some r->r.length<=1000/\∀z∈r,z∈S)(hd:d=hb W o g q (hE E)):yM [.l (N.map .s),.l (W.map wP),.s o,.s g,wyO q,.d (hD (hE E)),.b d]=.ok (.b true):=by
 have od1:∀{z:Str},z∈S->qd [.l (N.map .s),.s z]=.ok (.s (od p0 z)):=λhz=>A4 hN (hS _ hz);have l1:∀{ρ:Sto},ρ=[some (.l (N.map .s)),some (.l (W.map wP)),some (.s o),some (.s g),some (wyO q),some (.d (hD (hE E))),some (.b d)]->mLC (yF (zc 1)) [none,some 0] jD wj jE ρ=.ok (.l ((rnW (od p0) W).map wP)):=λh=>by
  subst h;have:=Vo (g:=jD) (e:=jE) wP (λw=>wP (od p0 w.1,od p0 w.2.1,w.2.2)) (λρ=>∃x,ρ=[x,some (.l (N.map .s))]) W [none,some (.l (N.map .s))] ⟨_,rfl⟩ (λw hw ρ ⟨x,hρ⟩=>by
   subst hρ;obtain⟨h1,h2⟩:=hW w hw;refine⟨[some (wP w),some (.l (N.map .s))],rfl,⟨_,rfl⟩,Jw (zu (zx (xs:=[.l (N.map .s),.s w.1]) rfl (od1 h1)) (zu (zx (xs:=[.l (N.map .s),.s w.2.1]) rfl (od1 h2)) (zu (x:=.i w.2.2) rfl rfl))) (F9 rfl)⟩) (by omega)
  refine bF (yh rfl) (this.trans ?_);unfold rnW;rw[G5];rfl
 have l2:sIf (zB (mOp (K5 true) (zc 4) (mC .n))) (qu 4 (mLC (yF (zc 4)) [none,some 0] jF wo jG)) zP [some (.l (N.map .s)),some (.l ((rnW (od p0) W).map wP)),some (.s o),some (.s g),some (wyO q),some (.d (hD (hE E))),some (.b d)]=.ok (.nx [some (.l (N.map .s)),some (.l ((rnW (od p0) W).map wP)),some (.s o),some (.s g),some (wyO (q.map (·.map (od p0)))),some (.d (hD (hE E))),some (.b d)]):=by
  cases q with
  |none=>exact(zA (x:=false) (zC rfl)).trans rfl
  |some q=>
   refine(zA (x:=true) (zC rfl)).trans ?_;have:=Vo (g:=jF) (e:=jG) PV.s (λz=>.s (od p0 z)) (λρ=>∃x,ρ=[x,some (.l (N.map .s))]) q [none,some (.l (N.map .s))] ⟨_,rfl⟩ (λz hz ρ ⟨x,hρ⟩=>by
    subst hρ;exact⟨[some (.s z),some (.l (N.map .s))],rfl,⟨_,rfl⟩,zx (xs:=[.l (N.map .s),.s z]) rfl (od1 ((hq q rfl).2 z hz))⟩) (by have:=(hq q rfl).1;omega)
   refine z_ (bF (yh rfl) (this.trans ?_));show _=Out.ok (PV.l ((q.map (od p0)).map .s));rw[G5];rfl
 have nd':((rnE (od p0) E).map (·.1)).Nodup:=by
  have:(rnE (od p0) E).map (·.1)=(E.map (·.1)).map (od p0):=by unfold rnE;rw[G5,G5];rfl
  rw[this];exact Uc nd λx hx y hy e=>by obtain⟨p,hp,rfl⟩:=G7.mp hx;obtain⟨p',hp',rfl⟩:=G7.mp hy;exact j _ (hH p hp) _ (hH p' hp') e
 have l3:zh ZN (zb (mLC (Wm 5) [none,some 0,some 5] jH wq jI) zl) [some (.l (N.map .s)),some (.l ((rnW (od p0) W).map wP)),some (.s o),some (.s g),some (wyO (q.map (·.map (od p0)))),some (.d (hD (hE E))),some (.b d)]=.ok (.d (hD (hE (rnE (od p0) E)))):=by
  have:=Vo (g:=jH) (e:=jI) (λp:Str×Int=>PV.s p.1) (λp=>.t [.s (od p0 p.1),.i p.2]) (λρ=>∃x,ρ=[x,some (.l (N.map .s)),some (.d (hD (hE E)))]) E [none,some (.l (N.map .s)),some (.d (hD (hE E)))] ⟨_,rfl⟩ (λp hp ρ ⟨x,hρ⟩=>by
   subst hρ;refine⟨[some (.s p.1),some (.l (N.map .s)),some (.d (hD (hE E)))],rfl,⟨_,rfl⟩,Jw (zu (zx (xs:=[.l (N.map .s),.s p.1]) rfl (od1 (hH p hp))) (zu (vv rfl rfl ?_) rfl)) (F9 rfl)⟩;obtain⟨k,hk⟩:=a2A hp;exact Xz (bW nd) (show(hE E)[k]?=some (sk p.1,p.2) by unfold hE;rw[F4,hk];rfl)) (by omega)
  refine zx (xs:=[.l ((rnE (od p0) E).map λp=>.t [.s p.1,.i p.2])]) (zu (bF (xs:=E.map λp=>PV.s p.1) ?_ (this.trans ?_)) rfl) ?_
  .show Out.ok ((hD (hE E)).map λkx=>kP kx.1)=_;unfold hD hE;rw[G5,G5];rfl
  .unfold rnE;rw[G5];rfl
  .show vk ((lV ((rnE (od p0) E).map λp=>.t [.s p.1,.i p.2])).map λes=>PV.d (Vs es))=_;rw[ow];show Out.ok (PV.d (Vs (hD (hE (rnE (od p0) E)))))=_;unfold Vs;rw[de (acc:=[]) (by rw[a0x];exact CN (bW nd'))];rfl
 have l4:=V_ (W:=rnW (od p0) W) (H:=hE (rnE (od p0) E)) (o:=od p0 o) (g:=od p0 g) (q:=q.map (·.map (od p0))) (by unfold rnW;rw[D0];exact hl) (λr e=>by
  obtain⟨r',e',rfl⟩:=u8.mp e;rw[D0];exact(hq r' e').1) (bW nd') (d:=d) (by rw[CM j hW hH ho hg λr e=>(hq r e).2];exact hd)
 exact zF (zd ⟨_,z_ (l1 rfl),zd ⟨_,l2,zd ⟨_,z_ l3,Z5 (zx (zu rfl (zu (zx (xs:=[.l (N.map .s),.s o]) rfl (od1 ho)) (zu (zx (xs:=[.l (N.map .s),.s g]) rfl (od1 hg)) rfl))) l4)⟩⟩⟩)
end
section
variable {W:List Wy}{N:Ea}{ns:EB}{a b:Str}
def aA(l:W.length<=61)(e:lst W a b=some y):qS [.l (W.map wP),.s a,.s b]=.ok (.i y):=by
 have:=Vn (g:=YC) (c:=YD) (e:=YE) wP (λw=>decide (w.1=a)&&decide (w.2.1=b)) (λw=>.i w.2.2) (λf=>∃x,f=[x,some (.s a),some (.s b)]) W [none,some (.s a),some (.s b)] [] ⟨_,rfl⟩ (λw j f ⟨x,d⟩=>by
  subst d;refine⟨[some (wP w),some (.s a),some (.s b)],rfl,⟨_,rfl⟩,?_,λ_=>rfl⟩;have h:mSl AB (zc 0) aL (wM (mC (.i 2))) [some (wP w),some (.s a),some (.s b)]=.ok (.t [.s w.1,.s w.2.1]):=rfl;have i:cF (Ja 7) [.s w.1,.s w.2.1] [.s a,.s b]=some (decide (w.1=a)&&decide (w.2.1=b)):=by show rV (Ja 7 (.s w.1) (.s a)) (rV (Ja 7 (.s w.2.1) (.s b)) (some true))=_;rw[UU,UU];show some (decide (w.1=a)&&(decide (w.2.1=b)&&true))=_;rw[a2C]
  refine zC (zo h (Jw (xs:=[.s a,.s b]) rfl (F9 rfl)) ?_);rw[Ce,i];show Out.ok (PV.b (xor false _))=_;rw[M8]) (by rw[a0y];omega)
 refine zF (Z5 (pW (bF (yh rfl) (this.trans ?_)) e));rw[a0x];unfold Ki;rw[G5];rfl
def ub(h:xs.length+ys.length<=100000):yk (.l xs) (.l ys)=.ok (.l (xs++ys)):=if_pos (F2 h (by decide))
def oy{c:Type}{xs:List c}{x:c}:Wh (xs++[x]) none (some (-1))=xs:=by
 unfold Wh;show List.take ((if(-1:Int)<0 then(-1+((xs++[x]).length:Int)).toNat else min (-1:Int).toNat (xs++[x]).length)-0) ((xs++[x]).drop 0)=_;rw[if_pos (by decide),Nat.sub_zero,List.drop_zero,E8];have:(-1+((xs.length+[x].length:Nat):Int)).toNat=xs.length:=by simp;omega
 rw[this,List.take_left]
def CO:pIx (.l ((P++[s,z]).map .s)) (.i (-2))=.ok (.s s):=by
 have h:ixN ((P++[s,z]).map PV.s).length (-2)=some P.length:=by rw[D0,E8];unfold ixN;rw[if_neg (by decide),if_pos (by simp;omega)];congr 1;simp;omega
 rw[sA];unfold atI;rw[h];show vk (((P++[s,z]).map PV.s)[P.length]?)=_;rw[F4,P2 (D3 _),a1W];rfl
def lj(O:0<N.length)(U:N.length<=12)(S:W.length<=59)(D:∀r,q=some r->r.length<=900/\∀(i:Nat) s z,r[i]?=some s->r[i+1]?=some z->∃y,lst W s z=some y):∃(C:List Wy)(F:EZ),qZ [.sc ns,.l (N.map .s),.l (W.map wP),wyO q]=.ok (.t [.l (C.map wP),wyO F])/\C.length<=W.length+1/\∀r,F=some r->r.length<=1000:=by
 cases q with
 |none=>exact⟨W,none,zF (yx ((zA (W_ (zC rfl))).trans rfl)),by omega,λr e=>by cases e⟩
 |some q=>
  obtain⟨p,A⟩:=D q rfl;have len:zh kf (zb (zc 3) zl) [some (.sc ns),some (.l (N.map .s)),some (.l (W.map wP)),some (.l (q.map .s)),none]=.ok (.i (q.length:Int)):=zx (xs:=[.l (q.map .s)]) rfl wx;have j:=QX (x:=false) (zC (m:=mOp (K5 false) (zc 3) (mC .n)) (ρ:=[some (.sc ns),some (.l (N.map .s)),some (.l (W.map wP)),some (.l (q.map .s)),none]) rfl) (pO (n:=2) len);by_cases c:q.length<2
  .rw[D6 (by omega)]at j;exact⟨W,some q,zF (yx ((zA j).trans rfl)),by omega,λr e=>by cases e;omega⟩
  .rw[D7 (by omega)]at j;obtain⟨x,I,G,K⟩:=yb (ns:=ns) (k:=62) (m:=(N.length:Int)) (by decide) (by decide) (by omega);obtain⟨w,M,J⟩:=wX (xs:=N) I G;obtain⟨d,R,T,H⟩:=yb (ns:=ns) (k:=63) (m:=2) (by decide) (by decide) (by decide);have E:mOp pIx (zc 1) (zh zg (zb (zc 0) (zb (mC (.i 62)) (zb (zh kf (zb (zc 1) zl)) zl)))) [some (.sc ns),some (.l (N.map .s)),some (.l (W.map wP)),some (.l (q.map .s)),none]=.ok (.s w):=zo rfl (zx (xs:=[.sc ns,.i 62,.i (N.length:Int)]) (zu rfl (zu rfl (zu (zx (xs:=[.l (N.map .s)]) rfl wx) rfl))) K) J;have u:=V3 (n:=0) (zx (f:=zg) (ms:=zb (zc 0) (zb (mC (.i 63)) (zb (mC (.i 2)) zl))) (ρ:=[some (.sc ns),some (.l (N.map .s)),some (.l (W.map wP)),some (.l (q.map .s)),some (.s w)]) (xs:=[.sc ns,.i 63,.i 2]) rfl H);have g:∀{a b:Str}{y:Int},.ok (.l (W.map wP++[.t [.s a,.s b,.i y]]))=Out.ok (PV.l ((W++[((a,b,y):Wy)]).map wP)):=λ{a b y}=>by rw[M6];rfl
   by_cases B:d=0
   .rw[D6 B]at u;obtain⟨s,z,r,rfl⟩:∃s z r,q=s::z::r:=by
     match q,c with
     |s::z::r,_=>exact⟨s,z,r,rfl⟩
     |[],c=>exact absurd (by simp) c
     |[_],c=>exact absurd (by simp) c
    obtain⟨y,v⟩:=A 0 s z rfl rfl;have ec:Wh ((s::z::r).map PV.s) (some 1) none=(z::r).map PV.s:=dk (by decide) (by rw[D0,D4];omega);have l:pIx (.l ((s::z::r).map .s)) (.i 0)=.ok (.s s):=V9 (Q:=s::z::r) (i:=0) rfl;have o:pIx (.l ((s::z::r).map .s)) (.i 1)=.ok (.s z):=V9 (Q:=s::z::r) (i:=1) rfl;refine⟨W++[(w,z,y)],some (w::z::r),zF (zd ⟨_,(zA j).trans rfl,zd ⟨_,z_ E,yx ((zA u).trans (Z5 (Jw (zu (x:=.l ((W++[((w,z,y):Wy)]).map wP)) (zo rfl (iQ (zu (Jw (zu rfl (zu (zo rfl rfl o) (zu (zx (xs:=[.l (W.map wP),.s s,.s z]) (zu rfl (zu (zo rfl rfl l) (zu (zo rfl rfl o) rfl))) (aA (by omega) v)) rfl))) (F9 rfl)) rfl) (F9 rfl)) ((ub (by rw[D0];simp;omega)).trans g)) (zu (x:=.l ((w::z::r).map .s)) (zo (x:=.l [.s w]) (y:=.l ((z::r).map .s)) rfl (show Out.ok (PV.l (Wh ((s::z::r).map PV.s) (some 1) none))=_ from by rw[ec]) (ub (by simp at p ⊢;omega))) rfl)) (Nat.le_of_ble_eq_true rfl))))⟩⟩),by rw[List.length_append];exact D3 _,λL e=>by cases e;simp at p ⊢;omega⟩
   .rw[D7 B]at u;obtain⟨P,s,z,rfl⟩:∃P s z,q=P++[s,z]:=by
     obtain⟨z,hz⟩:∃z,q.reverse[0]?=some z:=⟨_,E5 (by rw[a0S];omega)⟩;have:=a2y q
     match D:q.reverse,this with
     |z::s::r,h=>exact⟨r.reverse,s,z,by rw[<- h];simp⟩
     |[],h=>rw[<- h]at c;exact absurd (by simp) c
     |[_],h=>rw[<- h]at c;exact absurd (by simp) c
    obtain⟨y,v⟩:=A P.length s z (by rw[P2 (D3 _),a1W];rfl) (by rw[P2 (by omega)];rw[show P.length+1-P.length=1 by omega];rfl);have ec:Wh ((P++[s,z]).map PV.s) none (some (-1))=(P++[s]).map PV.s:=by rw[show P++[s,z]=(P++[s])++[z] by simp,List.map_append (l₁:=P++[s])];exact oy
    have l:pIx (.l ((P++[s,z]).map .s)) (.i (-2))=.ok (.s s):=CO;have o:pIx (.l ((P++[s,z]).map .s)) (.i (-1))=.ok (.s z):=by rw[show P++[s,z]=(P++[s])++[z] by simp];exact Jz
    refine⟨W++[(s,w,y)],some (P++[s]++[w]),zF (zd ⟨_,(zA j).trans rfl,zd ⟨_,z_ E,zd ⟨_,(zA u).trans rfl,Z5 (Jw (zu (x:=.l ((W++[((s,w,y):Wy)]).map wP)) (zo rfl (iQ (zu (Jw (zu (zo rfl rfl l) (zu (x:=.s w) rfl (zu (zx (xs:=[.l (W.map wP),.s s,.s z]) (zu rfl (zu (zo rfl rfl l) (zu (zo rfl rfl o) rfl))) (aA (by omega) v)) rfl))) (F9 rfl)) rfl) (F9 rfl)) ((ub (by rw[D0];simp;omega)).trans g)) (zu (x:=.l ((P++[s]++[w]).map .s)) (zo (x:=.l ((P++[s]).map .s)) (y:=.l [.s w]) (show Out.ok (PV.l (Wh ((P++[s,z]).map PV.s) none (some (-1))))=_ from by rw[ec]) rfl ((ub (by simp at p ⊢;omega)).trans (by rw[List.map_append (l₁:=P++[s])];rfl))) rfl)) (F9 rfl))⟩⟩⟩),by rw[E8];exact D3 _,λL e=>by cases e;simp at p ⊢;omega⟩
end
section
variable {G:AH}{ρ:Jl}
def ll(d:mo ρ G=.ok (.g k) G)(f:m1 ρ G=.ok (.v (.i i)) G)(b:G[k]?=some (.l a))(c:0<=i)(e:i<a.length)(g:a.length<=1000):eK mo m1 ρ G=.nx ρ (G.set k (.l (a.eraseIdx i.toNat))):=by unfold eK;rw[d];show(match G[k]? with|some (.l _)=>_|_=>_)=_;rw[b];dsimp only;rw[f];show(match(HV.v (.i i)),G[k]? with | .v (.i i),some (.l a)=>_|_,_=>_)=_;rw[b];dsimp only;exact if_pos ⟨c,e,by omega⟩
def uc(d:mo ρ G=.ok (.g k) G)(f:m1 ρ G=.ok (.v (.i i)) G)(g:m2 ρ G=.ok y G)(b:G[k]?=some (.l a))(c:0<=i)(e:i.toNat<=a.length)(h:a.length<=1000):Bo mo (ZO m1 (ZO m2 sV)) ρ G=.nx ρ (G.set k (.l (a.take i.toNat++y::a.drop i.toNat))):=by
 unfold Bo;rw[d];show(match G[k]? with|some (.l _)=>_|_=>_)=_;rw[b];dsimp only;have j:ZO m1 (ZO m2 sV) ρ G=.ok [.v (.i i),y] G:=by unfold ZO;rw[f];show(HX.bind ((m2 ρ G).bind _) _)=_;rw[g];rfl
 rw[j];show(match G[k]? with|some (.l a)=>_|_=>_)=_;rw[b];dsimp only;exact if_pos ⟨c,e,P6 h (by decide)⟩
def dr(c:mv ρ G=.ok y G)(d:mo ρ G=.ok (.g k) G)(g:mk ρ G=.ok (.v (.i i)) G)(e:G[k]?=some (.l a))(b:0<=i)(f:i<a.length):eI mo mk mv ρ G=.nx ρ (G.set k (.l (a.set i.toNat y))):=by unfold eI;rw[c];show((mo ρ G).fw _)=_;rw[d];show((mk ρ G).fw _)=_;rw[g];show(match G[k]? with|some (.l a)=>_|_=>_)=_;rw[e];show(match ixN a.length i with|some t=>HFw.nx ρ (G.set k (.l (a.set t y)))|none=>_)=_;unfold ixN;rw[if_pos b,if_pos f]
def bX(c:mo ρ G=.ok (.g k) G)(d:ma ρ G=.ok y G)(b:G[k]?=some (.l a))(e:a.length<=1000):uv mo ma ρ G=.nx ρ (G.set k (.l (a++[y]))):=by unfold uv;rw[c];show(match G[k]? with|some (.l _)=>(ma ρ G).fw _|_=>_)=_;rw[b];dsimp only;rw[d];show(match G[k]? with|some (.l a)=>_|_=>_)=_;rw[b];dsimp only;rw[if_pos (P6 e (by decide))]
def Bt(d:Wi bs ρ=none)(b:Kv G bs ρ=some r)(c:m r=.ok x)(a:imm x=true):hP bs m ρ G=.ok (.v x) G:=by unfold hP;rw[d,b];dsimp only;rw[c];dsimp only;rw[if_pos a]
def Dp(d:Wi bs ρ=some r)(b:m r=.ok x)(a:nE x=some c):hF bs m ρ G=.ok (.g G.length) (G++[c]):=by unfold hF;rw[d];dsimp only;rw[b];dsimp only;rw[a]
theorem dv{n:Nat}:∀{a:Ew},Uj (XS G (n+1)) (a.map .v)=some a
 |[]=>rfl
 |x::a=>by show(some x).bind (λy=>(Uj (XS G (n+1)) (a.map .v)).map (y::·))=_;rw[dv];rfl
theorem dw{n:Nat}:∀{a:Ew},fe a=true->Uj (aO G (n+1)) (a.map .v)=some a
 |[],_=>rfl
 |x::a,h=>by have h:(imm x&&fe a)=true:=h;rw[N8]at h;show(if imm x=true then some x else none).bind (λy=>(Uj (aO G (n+1)) (a.map .v)).map (y::·))=_;rw[if_pos h.1,dw h.2];rfl
theorem Wa:∀{r:Ea},fe (r.map PV.s)=true
 |[]=>rfl
 |_::r=>(Wa (r:=r))
theorem dy:∀{W:List Wy},fe (W.map wP)=true
 |[]=>rfl
 |_::r=>(dy (W:=r))
end
theorem aB{b c:Type}{f:b->c}:∀{a:List b}{n:Nat},(a.map f).eraseIdx n=(a.eraseIdx n).map f
 |[],_=>rfl
 |_::_,0=>rfl
 |x::a,n+1=>by show f x::(a.map f).eraseIdx n=f x::(a.eraseIdx n).map f;rw[aB]
section
variable {N:Ea}{ns:EB}
abbrev lC(r:Ea):Cell:=.l ((r.map PV.s).map .v)
abbrev owS(ns:EB)(N:Ea)(a:Int)(z:Str)(t:Int):Jl:=[some (.v (.sc ns)),some (.v (.l (N.map .s))),some (.g 0),some (.v (.i a)),some (.v (.s z)),some (.v (.i t))]
def jq:hIf (hPT [false,false,false,false,false,true] (zB (mOp (yP false) (zc 5) (mC (.i k))))) body ZP (owS ns N a z t) G=if t=k then body (owS ns N a z t) G else .nx (owS ns N a z t) G:=by
 have h:hPT [false,false,false,false,false,true] (zB (mOp (yP false) (zc 5) (mC (.i k)))) (owS ns N a z t) G=.ok (decide (t=k)) G:=c7 rfl (V3 rfl);by_cases c:t=k
 .rw[D6 c]at h;rw[nS h,if_pos c]
 .rw[D7 c]at h;rw[nR h,if_neg c];rfl
def A5:aO [lC r] 8 (.g 0)=some (wyO (some r)):=by show(Uj (aO [lC r] 7) ((r.map PV.s).map .v)).map PV.l=_;rw[dw Wa];rfl
def lr(c:0<=i)(f:i<1+(N.length:Int))(e:a ρ=.ok (.l (N.map .s)))(hb:b ρ=.ok (.i i))(g:N.length<=1000):∃z∈N++[("none":Str)],mOp pIx (mOp yk a (ZD (zb (mC (.s "none")) zl))) b ρ=.ok (.s z):=by obtain⟨z,hz,d⟩:=wX (xs:=N++[("none":Str)]) (i:=i) c (by rw[E8];show i<((N.length+1:Nat):Int);omega);exact⟨z,hz,zo (zo (y:=.l [.s "none"]) e rfl ((ub (by simp;omega)).trans (by rw[List.map_append];rfl))) hb d⟩
def aC(hN:0<N.length)(hn:N.length<=12)(hq:∀r,q=some r->0<r.length/\r.length<=900/\∀z∈r,z∈N++[("none":Str)]):∃q':Option (List Str),vOf yC [.sc ns,.l (N.map .s),wyO q]=.ok (wyO q')/\∀r,q'=some r->r.length<=1000/\∀z∈r,z∈N++[("none":Str)]:=by
 have fin:∀{x:HV}{G:AH}{v:PV},yB [some (.v (.sc ns)),some (.v (.l (N.map .s))),some (.v (wyO q)),none,none,none] []=.rt x G->aO G 8 x=some v->vOf yC [.sc ns,.l (N.map .s),wyO q]=.ok v:=λ{x G v} h1 h2=>by
  have:yC ([.sc ns,.l (N.map .s),wyO q].map .v) []=.ok x G:=by show(match yB [some (.v (.sc ns)),some (.v (.l (N.map .s))),some (.v (wyO q)),none,none,none] []with | .nx _ G'=>HX.ok (HV.v .n) G' | .rt x G'=>.ok x G' | .exc c fs G'=>.exc c fs G'|_=>.wall)=_;rw[h1]
  unfold vOf;rw[this];dsimp only;rw[h2]
 cases q with
 |none=>
  obtain⟨k,k0,k1,ek⟩:=yb (ns:=ns) (k:=50) (m:=3) (by decide) (by decide) (by decide);have hk:hP [true] (zh zg (zb (zc 0) (zb (mC (.i 50)) (zb (mC (.i 3)) zl)))) [some (.v (.sc ns)),some (.v (.l (N.map .s))),some (.v (wyO none)),none,none,none] [.l [],lC N,.l [.v .n,.g 0,.g 1]]=.ok (.v (.i k)) [.l [],lC N,.l [.v .n,.g 0,.g 1]]:=nU rfl (zx (xs:=[.sc ns,.i 50,.i 3]) rfl ek);have hl:Au (ZO (hP [] (mC .n)) (ZO (hF [] (ZD zl)) (ZO (hF [false,true] (zh qI (zb (zc 1) zl))) sV))) [some (.v (.sc ns)),some (.v (.l (N.map .s))),some (.v (wyO none)),none,none,none] []=.ok (.g 2) [.l [],lC N,.l [.v .n,.g 0,.g 1]]:=rfl;have hx:∀{y:HV},atI [HV.v .n,.g 0,.g 1] k=some y->yB [some (.v (.sc ns)),some (.v (.l (N.map .s))),some (.v (wyO none)),none,none,none] []=.rt y [.l [],lC N,.l [.v .n,.g 0,.g 1]]:=λ{y} hy=>by refine iR ((nS (c7 rfl (zC rfl))).trans (iT ?_));unfold hIx;show((Au _ _ _).bind _)=_;rw[hl];show((hP _ _ _ _).bind _)=_;rw[hk];show(match atI [HV.v .n,.g 0,.g 1] k with|some z=>HX.ok z _|none=>.wall)=_;rw[hy]
  have k3:k=0\/k=1\/k=2:=by omega
  rcases k3 with rfl|rfl|rfl
  .exact⟨none,fin (hx rfl) rfl,λr e=>by cases e⟩
  .exact⟨some [],fin (hx rfl) rfl,λr e=>by cases e;exact⟨by decide,λz hz=>by cases hz⟩⟩
  .refine⟨some N,fin (hx rfl) ?_,λr e=>by cases e;exact⟨by omega,λz hz=>G9 _ hz⟩⟩;show(Uj (aO _ 7) ((N.map PV.s).map .v)).map PV.l=_;rw[dw Wa];rfl
 |some q=>
  obtain⟨q0,q1,q2⟩:=hq q rfl;obtain⟨a,a0,a1,ea⟩:=yb (ns:=ns) (k:=51) (m:=(q.length:Int)) (by decide) (by decide) (by omega);obtain⟨j,j0,j1,ej⟩:=yb (ns:=ns) (k:=52) (m:=1+(N.length:Int)) (by decide) (by decide) (by omega);obtain⟨t,t0,t1,et⟩:=yb (ns:=ns) (k:=53) (m:=9) (by decide) (by decide) (by decide);obtain⟨z,hz,ez⟩:=lr (N:=N) (i:=j) j0 j1 (a:=zc 1) (b:=zh zg (zb (zc 0) (zb (mC (.i 52)) (zb (mOp yk (mC (.i 1)) (zh kf (zb (zc 1) zl))) zl)))) (ρ:=[some (.sc ns),some (.l (N.map .s)),none,none,none,none]) rfl (zx (xs:=[.sc ns,.i 52,.i (1+(N.length:Int))]) (zu rfl (zu rfl (zu (zo rfl (zx (xs:=[.l (N.map .s)]) rfl wx) rfl) rfl))) ej) (by omega);have lq:((q.map PV.s).map HV.v).length=q.length:=by rw[D0,D0]
  have fin2:∀{tl:Ea},(∀z∈tl,z∈N++[("none":Str)])->tl.length<=1000->yB [some (.v (.sc ns)),some (.v (.l (N.map .s))),some (.v (wyO (some q))),none,none,none] []=.rt (.g 0) [lC tl]->∃q':Option (List Str),vOf yC [.sc ns,.l (N.map .s),wyO (some q)]=.ok (wyO q')/\∀r,q'=some r->r.length<=1000/\∀z∈r,z∈N++[("none":Str)]:=λ{tl} h1 h2 h3=>⟨some tl,fin h3 A5,λr e=>by cases e;exact⟨h2,h1⟩⟩;have start:∀{P:HMS}{o:HFw},P (owS ns N a z t) [lC q]=o->(ZE (hIf (hPT [false,false,true] (zB (mOp (K5 false) (zc 2) (mC .n)))) (pG (hIx (Au (ZO (hP [] (mC .n)) (ZO (hF [] (ZD zl)) (ZO (hF [false,true] (zh qI (zb (zc 1) zl))) sV)))) (hP [true] (zh zg (zb (zc 0) (zb (mC (.i 50)) (zb (mC (.i 3)) zl))))))) ZP) (ZE (Vw 2 (hF [false,false,true] (zh qI (zb (zc 2) zl)))) (ZE (Vw 3 (hP [true,false,true] (zh zg (zb (zc 0) (zb (mC (.i 51)) (zb (zh kf (zb (zc 2) zl)) zl)))))) (ZE (Vw 4 (hP [true,true] (mOp pIx (mOp yk (zc 1) (ZD (zb (mC (.s "none")) zl))) (zh zg (zb (zc 0) (zb (mC (.i 52)) (zb (mOp yk (mC (.i 1)) (zh kf (zb (zc 1) zl))) zl))))))) (ZE (Vw 5 (hP [true] (zh zg (zb (zc 0) (zb (mC (.i 53)) (zb (mC (.i 9)) zl)))))) P))))) [some (.v (.sc ns)),some (.v (.l (N.map .s))),some (.v (wyO (some q))),none,none,none] []=o:=λ{P o} h=>by refine zw ((nR (c7 rfl (zC rfl))).trans rfl) (zw (wW (Dp (x:=.l (q.map .s)) rfl rfl rfl)) (zw (wW (Bt (x:=.i a) (r:=[some (.sc ns),none,some (.l (q.map .s)),none,none,none]) rfl (lZ rfl (lY (lZ ?_ rfl))) (zx (xs:=[.sc ns,.i 51,.i (q.length:Int)]) (zu rfl (zu rfl (zu (zx (xs:=[.l (q.map .s)]) rfl wx) rfl))) ea) rfl)) (zw (wW (nU (x:=.s z) rfl ez)) (zw (wW (nU (x:=.i t) rfl (zx (xs:=[.sc ns,.i 53,.i 9]) rfl et))) h))));show(Uj (XS [lC q] 7) ((q.map PV.s).map .v)).map PV.l=_;rw[dv];rfl
  by_cases c0:t=0
  .refine fin2 (tl:=q.eraseIdx a.toNat) (λy hy=>q2 y (a1Z hy)) ?_ (start (zw (jq.trans ((if_pos c0).trans (ll (k:=0) rfl rfl rfl a0 (by rw[lq];exact a1) (by rw[lq];omega)))) (zw (jq.trans (if_neg (by omega))) (zw (jq.trans (if_neg (by omega))) (zw (jq.trans (if_neg (by omega))) (zw (jq.trans (if_neg (by omega))) ?_))))))
   .rw[a2B];split<;>omega
   .show HFw.rt (.g 0) [.l (((q.map PV.s).map HV.v).eraseIdx a.toNat)]=_;rw[aB,aB]
  .by_cases c1:t=1
   .refine fin2 (tl:=q.take a.toNat++z::q.drop a.toNat) (λy hy=>?_) ?_ (start (zw (jq.trans (if_neg c0)) (zw (jq.trans ((if_pos c1).trans (uc (k:=0) (y:=.v (.s z)) rfl rfl rfl rfl a0 (by rw[lq];omega) (by rw[lq];omega)))) (zw (jq.trans (if_neg (by omega))) (zw (jq.trans (if_neg (by omega))) (zw (jq.trans (if_neg (by omega))) ?_))))))
    .rcases G8.mp hy with h|h
     .exact q2 y (List.mem_of_mem_take h)
     .rcases G0.mp h with rfl|h
      .exact hz
      .exact q2 y (List.mem_of_mem_drop h)
    .rw[E8,D4,a0L,S4];omega
    .show HFw.rt (.g 0) [.l (((q.map PV.s).map HV.v).take a.toNat++HV.v (.s z)::((q.map PV.s).map HV.v).drop a.toNat)]=HFw.rt (.g 0) [.l (((q.take a.toNat++z::q.drop a.toNat).map PV.s).map HV.v)];rw[M6,M6,E6,E6,a2D,a2E,a2D,a2E]
   .by_cases c2:t=2
    .refine fin2 (tl:=q.set a.toNat z) (λy hy=>?_) (by rw[M3];omega) (start (zw (jq.trans (if_neg c0)) (zw (jq.trans (if_neg c1)) (zw (jq.trans ((if_pos c2).trans (dr (k:=0) (y:=.v (.s z)) rfl rfl rfl rfl a0 (by rw[lq];exact a1)))) (zw (jq.trans (if_neg (by omega))) (zw (jq.trans (if_neg (by omega))) ?_))))))
     .rcases a1K hy with h|rfl
      .exact q2 y h
      .exact hz
     .show HFw.rt (.g 0) [.l (((q.map PV.s).map HV.v).set a.toNat (HV.v (.s z)))]=HFw.rt (.g 0) [.l (((q.set a.toNat z).map PV.s).map HV.v)];rw[a10,a10]
    .by_cases c3:t=3
     .exact⟨none,fin (x:=.v .n) (v:=.n) (start (zw (jq.trans (if_neg c0)) (zw (jq.trans (if_neg c1)) (zw (jq.trans (if_neg c2)) (iR (jq.trans ((if_pos c3).trans (iT (nU (r:=[none,none,none,none,none,none]) rfl rfl)))))))) ) rfl,λr e=>by cases e⟩
     .by_cases c4:t=4
      .obtain⟨P,y,rfl⟩:∃P y,q=P++[y]:=⟨_,_,(a0I (List.ne_nil_of_length_pos q0)).symm⟩;refine fin2 (tl:=P++[y]++[y]) (λx hx=>?_) (by simp at q1 ⊢;omega) (start (zw (jq.trans (if_neg c0)) (zw (jq.trans (if_neg c1)) (zw (jq.trans (if_neg c2)) (zw (jq.trans (if_neg c3)) (zw (jq.trans ((if_pos c4).trans (bX (k:=0) (y:=.v (.s y)) rfl (Bt (r:=[none,none,some (.l ((P++[y]).map .s)),none,none,none]) rfl (lY (lY (lZ ?_ rfl))) (zo rfl rfl Jz) rfl) rfl (by rw[lq];omega)))) ?_))))))
       .rcases G8.mp hx with h|h
        .exact q2 x h
        .rw[F7.mp h];exact q2 y (by simp)
       .show(Uj (XS [lC (P++[y])] 7) (((P++[y]).map PV.s).map .v)).map PV.l=_;rw[dv];rfl
       .show HFw.rt (.g 0) [.l (((P++[y]).map PV.s).map HV.v++[HV.v (.s y)])]=HFw.rt (.g 0) [.l (((P++[y]++[y]).map PV.s).map HV.v)];simp
      .exact fin2 (tl:=q) q2 (by omega) (start (zw (jq.trans (if_neg c0)) (zw (jq.trans (if_neg c1)) (zw (jq.trans (if_neg c2)) (zw (jq.trans (if_neg c3)) (zw (jq.trans (if_neg c4)) rfl))))))
end
section
variable {S N:Ea}{ns:EB}
def hX(E:Hs):PV:=.d (hD (hE E))
structure HK(S:Ea)(m:Nat)(E:Hs):Prop where
 nd:(E.map (·.1)).Nodup
 sub:∀p∈E,p.1∈S
 len:E.length<=m
def A6:dput (hD (hE E)) (sk z) (.i v)=hD (hE (dput E z v)):=by
 rw[pP];congr 1;have b:(hE E).any (λa=>decide (a.1=sk z))=E.any (λa=>decide (a.1=z)):=by
  unfold hE;rw[List.any_map];congr 1
  funext p
  exact P1.mpr ⟨λh=>N7 h,λh=>by show sk p.1=_;rw[h]⟩
 unfold dput;rw[b];split
 .unfold hE;rw[G5,G5];refine R8 λp _=>?_;show(if sk p.1=sk z then(sk p.1,v)else(sk p.1,p.2))=(sk (if p.1=z then(p.1,v)else p).1,(if p.1=z then(p.1,v)else p).2);by_cases c:p.1=z
  .rw[if_pos (by rw[c]),if_pos c]
  .rw[if_neg (λh=>c (N7 h)),if_neg c]
 .unfold hE;rw[M6];rfl
def lx{E:Hs}{z:Str}:E.any (λa=>decide (a.1=z))=true↔z∈E.map (·.1):=by
 rw[List.any_eq_true,G7];constructor
 .rintro ⟨p,hp,e⟩;exact⟨p,hp,a1D e⟩
 .rintro ⟨p,hp,e⟩;exact⟨p,hp,D6 e⟩
def dz{E:Hs}{z:Str}{v:Int}(h:z∈E.map (·.1)):(dput E z v).map (·.1)=E.map (·.1):=by unfold dput;rw[if_pos (lx.mpr h),G5];refine R8 λp _=>?_;show(if p.1=z then(p.1,v)else p).1=p.1;split<;>rfl
def HK.put(h:HK S m E)(hz:z∈S):HK S (m+1) (dput E z v):=by
 by_cases c:z∈E.map (·.1)
 .have k:=dz (v:=v) c;have l:=M4 List.length k;rw[D0,D0]at l;refine⟨by rw[k];exact h.nd,λp hp=>?_,by have:=h.len;omega⟩;have:p.1∈(dput E z v).map (·.1):=a1n hp;rw[k]at this;obtain⟨f,d,e⟩:=G7.mp this;rw[<- e];exact h.sub f d
 .have e:dput E z v=E++[(z,v)]:=by unfold dput;rw[if_neg (λt=>c (lx.mp t))]
  rw[e];refine⟨?_,λp hp=>?_,by have:=h.len;simp;omega⟩
  .rw[M6];refine a03.mpr ⟨h.nd,by simp,λa g b hb=>?_⟩;rw[F7.mp hb];exact λt=>c (by have t:a=z:=t;rw[<- t];exact g)
  .rcases G8.mp hp with h'|h'
   .exact h.sub p h'
   .rw[F7.mp h'];exact hz
def ud:bD (hD (hE E)) (sk z)=hD (hE (E.filter λp=>decide (p.1≠z))):=by unfold bD hD hE;rw[G5,G5,List.filter_map];congr 1;refine List.filter_congr λp _=>?_;exact P1.mpr ⟨λh e=>h (by show sk p.1=_;rw[e]),λh e=>h (N7 e)⟩
def HK.drop(h:HK S m E):HK S m (E.filter f):=
 ⟨h.nd.sublist (List.filter_sublist.map _),λp hp=>h.sub p (a0T.mp hp).1,F2 (a2h _ _) h.len⟩
def HK.mono(h:HK S m E)(l:m<=n):HK S n E:=⟨h.nd,h.sub,F2 h.len l⟩
def ly(h:ρ[i]?=some (some (hX E)))(b:mk ρ=.ok (.s z))(a:mv ρ=.ok (.i v))(c:E.length<=1000):cK i mk mv ρ=.ok (.nx (ρ.set i (some (hX (dput E z v))))):=by
 unfold cK hX at *;rw[a,okb,h];show(mk ρ).bind _=_;rw[b,okb];show(if(hD (hE E)).length<sizeLine then _ else _)=_;have:(hD (hE E)).length=E.length:=by unfold hD hE;rw[D0,D0]
 rw[this,if_pos (P6 c (by decide))];show Out.ok (Fw.nx (ρ.set i (some (.d (dput (hD (hE E)) (sk z) (.i v))))))=_;rw[A6]
def getD_at(h:zc i ρ=.ok (hX E))(a:mk ρ=.ok (.s z)):bI (zc i) mk (mC (.i 0)) ρ=.ok (.i ((zr E z).getD 0)):=by unfold bI hX at *;rw[h,okb];show(mk ρ).bind _=_;rw[a,okb];show Out.ok ((zr (hD (hE E)) (sk z)).getD (.i 0))=_;rw[V5,wy];cases zr E z<;>rfl
abbrev ohS(ns:EB)(N:Ea)(E:Hs)(z:Str)(t:Int)(x:EI):Sto:=[some (.sc ns),some (.l (N.map .s)),some (hX E),some (.s z),some (.i t),x]
def ue{E:Hs}{z:Str}(h:z∈E.map (·.1)):∃v,zr E z=some v:=by
 cases e:zr E z with
 |some v=>exact⟨v,rfl⟩
 |none=>unfold zr at e;rw[Option.map_eq_none_iff,a2V]at e;obtain⟨p,hp,rfl⟩:=G7.mp h;exact absurd (D6 rfl) (e p hp)
def oz(h:HK S m E)(r:m<=900):∃a i,HK S m a/\JJ (yF (zh qI (zb (zc 2) zl))) yH yI (ohS ns N E z t none)=.ok (.nx (ohS ns N a z t i)):=by
 obtain⟨a,q,⟨c,i,rfl⟩,e⟩:=gZ (g:=yH) (b:=yI) (λp:Str×Int=>PV.s p.1) (λ(a:Hs) j=>a.map (·.1)=E.map (·.1)/\∃x,j=ohS ns N a z t x) (λ_ _ _=>True) E E (ohS ns N E z t none) ⟨rfl,_,rfl⟩ (λp hp a j ⟨c,x,d⟩=>by
  subst d;have hz:p.1∈a.map (·.1):=by rw[c];exact a1n hp
  obtain⟨v,ev⟩:=ue hz;have l:a.length=E.length:=by have:=M4 List.length c;rwa [D0,D0]at this
  refine⟨ohS ns N a z t (some (.s p.1)),rfl,dput a p.1 (v+1),_,trivial,⟨(dz hz).trans c,some (.s p.1),rfl⟩,.inl (ly (E:=a) rfl rfl (zo (vv rfl rfl (by rw[wy];exact ev)) rfl rfl) (by have:=h.len;omega))⟩)
 have l:a.length=E.length:=by have:=M4 List.length c;rwa [D0,D0]at this
 refine⟨a,i,⟨by rw[c];exact h.nd,λp hp=>?_,by rw[l];exact h.len⟩,qG (xs:=E.map λp=>PV.s p.1) ?_ e⟩
 .have:p.1∈a.map (·.1):=a1n hp;rw[c]at this;obtain⟨n,f,e⟩:=G7.mp this;rw[<- e];exact h.sub n f
 .refine yh (zx (xs:=[hX E]) rfl ?_);show Out.ok (PV.l ((hD (hE E)).map λo=>kP o.1))=_;unfold hD hE;rw[G5,G5];rfl
def Kj(hn:N.length<=12)(h:HK (N++[("none":Str)]) m E)(hm:m<=800):∃r,HK (N++[("none":Str)]) (m+1) r/\ya [.sc ns,.l (N.map .s),hX E]=.ok (hX r):=by
 have w:E.length<=1000:=by have:=h.len;omega
 obtain⟨j,L,U,X⟩:=yb (ns:=ns) (k:=54) (m:=1+(N.length:Int)) (by decide) (by decide) (by omega);obtain⟨t,t0,t1,W⟩:=yb (ns:=ns) (k:=55) (m:=9) (by decide) (by decide) (by decide);obtain⟨d,d0,d1,P⟩:=yb (ns:=ns) (k:=56) (m:=40) (by decide) (by decide) (by decide);obtain⟨z,hz,J⟩:=lr (N:=N) (i:=j) L U (a:=zc 1) (b:=zh zg (zb (zc 0) (zb (mC (.i 54)) (zb (mOp yk (mC (.i 1)) (zh kf (zb (zc 1) zl))) zl)))) (ρ:=[some (.sc ns),some (.l (N.map .s)),some (hX E),none,none,none]) rfl (zx (xs:=[.sc ns,.i 54,.i (1+(N.length:Int))]) (zu rfl (zu rfl (zu (zo rfl (zx (xs:=[.l (N.map .s)]) rfl wx) rfl) rfl))) X) (by omega);have l:∀{k:Int}{E:Hs}{x:EI},zB (mOp (yP false) (zc 4) (mC (.i k))) (ohS ns N E z t x)=.ok (decide (t=k)):=λ{k E x}=>V3 rfl;have Z:∃E0,HK (N++[("none":Str)]) (m+1) E0/\(t≠0->E0=E)/\sIf (zB (mOp (yP false) (zc 4) (mC (.i 0)))) (cK 2 (zc 3) (mOp yk (bI (zc 2) (zc 3) (mC (.i 0))) (mC (.i 1)))) zP (ohS ns N E z t none)=.ok (.nx (ohS ns N E0 z t none)):=by
  by_cases c:t=0
  .exact⟨_,h.put (v:=(zr E z).getD 0+1) hz,λn=>absurd c n,(zA l).trans (by rw[D6 c,if_pos rfl];exact ly rfl rfl (zo (getD_at rfl rfl) rfl rfl) w)⟩
  .exact⟨E,h.mono (by omega),λ_=>rfl,(zA l).trans (by rw[D7 c];rfl)⟩
 obtain⟨E0,R,M,G⟩:=Z;have s1:∃g,HK (N++[("none":Str)]) (m+1) g/\sIf (zB (mOp (yP false) (zc 4) (mC (.i 1)))) (cK 2 (zc 3) (mOp cD (mOp cD (bI (zc 2) (zc 3) (mC (.i 0))) (mC (.i 1))) (zh zg (zb (zc 0) (zb (mC (.i 56)) (zb (mC (.i 40)) zl)))))) zP (ohS ns N E0 z t none)=.ok (.nx (ohS ns N g z t none)):=by
  by_cases c:t=1
  .have:=M (by omega);subst this;exact⟨_,h.put (v:=(zr E0 z).getD 0-1-d) hz,(zA l).trans (by rw[D6 c,if_pos rfl];exact ly rfl rfl (zo (zo (getD_at rfl rfl) rfl rfl) (zx (xs:=[.sc ns,.i 56,.i 40]) rfl P) rfl) w)⟩
  .exact⟨E0,R,(zA l).trans (by rw[D7 c];rfl)⟩
 obtain⟨g,y,I⟩:=s1;have s2:∃o,HK (N++[("none":Str)]) (m+1) o/\sIf (Je (zB (mOp (yP false) (zc 4) (mC (.i 2)))) (zB (mOp (pIn false) (zc 3) (zc 2)))) (eh 2 (zc 3)) zP (ohS ns N g z t none)=.ok (.nx (ohS ns N o z t none)):=by
  have A:zB (mOp (pIn false) (zc 3) (zc 2)) (ohS ns N g z t none)=.ok (xor false (zr (hE g) (sk z)).isSome):=Zd rfl rfl;by_cases c:t=2/\(zr (hE g) (sk z)).isSome=true
  .refine⟨_,y.drop (f:=λp=>decide (p.1≠z)),(zA (jV l A)).trans ?_⟩;rw[D6 c.1,c.2];show eh 2 (zc 3) (ohS ns N g z t none)=_;unfold eh;show(if(zr (hD (hE g)) (sk z)).isSome=true then Out.ok (Fw.nx ((ohS ns N g z t none).set 2 (some (.d (bD (hD (hE g)) (sk z))))))else .wall)=_;rw[V5,O1,if_pos c.2,ud];rfl
  .refine⟨g,y,(zA (jV l A)).trans ?_⟩;have:(decide (t=2)&&(xor false (zr (hE g) (sk z)).isSome))=false:=by
    rw[M8,a2p];by_cases B:t=2
    .exact .inr (by simpa using λh=>c ⟨B,h⟩)
    .exact .inl (D7 B)
   rw[this];rfl
 obtain⟨o,u,D⟩:=s2;have O:∃q x,HK (N++[("none":Str)]) (m+1) q/\sIf (zB (mOp (yP false) (zc 4) (mC (.i 3)))) (JJ (yF (zh qI (zb (zc 2) zl))) yH yI) zP (ohS ns N o z t none)=.ok (.nx (ohS ns N q z t x)):=by
  by_cases c:t=3
  .obtain⟨r,F,Q,e⟩:=oz (ns:=ns) (N:=N) (z:=z) (t:=t) u (by omega);exact⟨r,F,Q,(zA l).trans (by rw[D6 c,if_pos rfl];exact e)⟩
  .exact⟨o,none,u,(zA l).trans (by rw[D7 c];rfl)⟩
 obtain⟨q,x,Y,H⟩:=O;have K:∃s,HK (N++[("none":Str)]) (m+1) s/\sIf (zB (mOp (yP false) (zc 4) (mC (.i 4)))) (qu 2 ng) zP (ohS ns N q z t x)=.ok (.nx (ohS ns N s z t x)):=by
  by_cases c:t=4
  .exact⟨[],⟨a1o,λp hp=>(by cases hp),M7 _⟩,(zA l).trans (by rw[D6 c,if_pos rfl];rfl)⟩
  .exact⟨q,Y,(zA l).trans (by rw[D7 c];rfl)⟩
 obtain⟨s,C,T⟩:=K;exact⟨s,C,zF (zd ⟨_,z_ (zx (xs:=[hX E]) (x:=hX E) rfl rfl),zd ⟨_,z_ J,zd ⟨_,z_ (zx (xs:=[.sc ns,.i 55,.i 9]) rfl W),zd ⟨_,G,zd ⟨_,I,zd ⟨_,D,zd ⟨_,H,zd ⟨_,T,rfl⟩⟩⟩⟩⟩⟩⟩⟩)⟩
end
section
variable {N:Ea}{ns:EB}
abbrev wC(V:List Wy):Cell:=.l ((V.map wP).map .v)
abbrev oyS(ns:EB)(N:Ea)(t:Int)(gr:EB)(x:Option HV):Jl:=[some (.v (.sc ns)),some (.v (.l (N.map .s))),some (.g 0),some (.v (.i t)),some (.v (.i (N.length:Int))),some (.v (.l (gr.map .i))),x]
def A7{V:List Wy}:aO [wC V] 8 (.g 0)=some (.l (V.map wP)):=by show(Uj (aO [wC V] 7) ((V.map wP).map .v)).map PV.l=_;rw[dw dy];rfl
def bY{V:List Wy}:XS [wC V] 8 (.g 0)=some (.l (V.map wP)):=by show(Uj (XS [wC V] 7) ((V.map wP).map .v)).map PV.l=_;rw[dv];rfl
def ixW{V:List Wy}{i:Int}{w:Wy}(a:0<=i)(e:V[i.toNat]?=some w):pIx (.l (V.map wP)) (.i i)=.ok (wP w):=by show vk (atI (V.map wP) i)=_;rw[US a,F4,e];rfl
def p30:mOp K4 (mC (.i 10)) (mC (.i 30)) ρ=.ok (.i (10 ^ 30)):=zo rfl rfl (by
 show(if um 10 30 then Out.ok (PV.i (10 ^ (30:Int).toNat))else .wall)=_;rw[if_pos (by decide +kernel)];rfl)
def m30:ZI (.i 2) (.i (10 ^ 30))=.ok (.i (2*10 ^ 30)):=by unfold ZI;exact if_pos (.inr ⟨by decide +kernel,by decide +kernel⟩)
def ix0{a:Int}{gr:EB}:pIx (.l ((a::gr).map .i)) (.i 0)=.ok (.i a):=by show vk (atI (PV.i a::gr.map PV.i) 0)=_;rw[Cc];rfl
def eX{k:Int}{a:HMS}{t:Int}{gr:EB}{x:Option HV}{G:AH}:hIf (hPT [false,false,false,true] (zB (mOp (yP false) (zc 3) (mC (.i k))))) a ZP (oyS ns N t gr x) G=if t=k then a (oyS ns N t gr x) G else .nx (oyS ns N t gr x) G:=by
 have h:hPT [false,false,false,true] (zB (mOp (yP false) (zc 3) (mC (.i k)))) (oyS ns N t gr x) G=.ok (decide (t=k)) G:=c7 rfl (V3 rfl);by_cases c:t=k
 .rw[D6 c]at h;rw[nS h,if_pos c]
 .rw[D7 c]at h;rw[nR h,if_neg c];rfl
def dA{k:Int}{a:HMS}{t:Int}{gr:EB}{x:Option HV}{V:List Wy}:hIf (hPT [false,false,true,true] (Je (zB (mOp (yP false) (zc 3) (mC (.i k)))) (zB (mOp (yP true) (zc 2) (ZD zl))))) a ZP (oyS ns N t gr x) [wC V]=if t=k/\V≠[]then a (oyS ns N t gr x) [wC V]else .nx (oyS ns N t gr x) [wC V]:=by
 have d:zB (mOp (yP true) (zc 2) (ZD zl)) [none,none,some (.l (V.map wP)),some (.i t),none,none,none]=.ok (decide (V≠[])):=zC (zo rfl rfl (by cases V<;>rfl));have h:hPT [false,false,true,true] (Je (zB (mOp (yP false) (zc 3) (mC (.i k)))) (zB (mOp (yP true) (zc 2) (ZD zl)))) (oyS ns N t gr x) [wC V]=.ok (decide (t=k)&&decide (V≠[])) [wC V]:=tQ (r:=[none,none,some (.l (V.map wP)),some (.i t),none,none,none]) rfl (lY (lY (lZ bY (lZ rfl rfl)))) (jV (V3 rfl) d);by_cases c:t=k/\V≠[]
 .rw[D6 c.1,D6 c.2]at h;rw[nS h,if_pos c]
 .have:(decide (t=k)&&decide (V≠[]))=false:=by
   rw[a2p];by_cases b:t=k
   .exact .inr (D7 λh=>c ⟨b,h⟩)
   .exact .inl (D7 b)
  rw[this]at h;rw[nR h,if_neg c];rfl
def lA{V:List Wy}{t:Int}{gr:EB}{x:Option HV}(e:V≠[]):∃a w,0<=a/\a<(V.length:Int)/\V[a.toNat]?=some w/\hP [true,false,true] (zh zg (zb (zc 0) (zb (mC (.i 58)) (zb (zh kf (zb (zc 2) zl)) zl)))) (oyS ns N t gr x) [wC V]=.ok (.v (.i a)) [wC V]:=by have hp:=List.length_pos_iff.mpr e;obtain⟨a,b,c,d⟩:=yb (ns:=ns) (k:=58) (m:=(V.length:Int)) (by decide) (by decide) (by omega);exact⟨a,V[a.toNat]'(by omega),b,c,E5 _,Bt (r:=[some (.sc ns),none,some (.l (V.map wP)),none,none,none,none]) rfl (lZ rfl (lY (lZ bY rfl))) (zx (xs:=[.sc ns,.i 58,.i (V.length:Int)]) (zu rfl (zu rfl (zu (zx (xs:=[.l (V.map wP)]) rfl wx) rfl))) d) rfl⟩
def Ud(hN:0<N.length)(hn:N.length<=12)(hl:W.length<=900)(hW:WIn (N++[("none":Str)]) W):∃p:List Wy,vOf yV [.sc ns,.l (N.map .s),.l (W.map wP)]=.ok (.l (p.map wP))/\p.length<=W.length+1/\WIn (N++[("none":Str)]) p:=by
 obtain⟨t,t0,t1,et⟩:=yb (ns:=ns) (k:=57) (m:=9) (by decide) (by decide) (by decide);obtain⟨r,r0,r1,er⟩:=yb (ns:=ns) (k:=59) (m:=(N.length:Int)) (by decide) (by decide) (by omega);obtain⟨s,s0,s1,es⟩:=yb (ns:=ns) (k:=60) (m:=(N.length:Int)) (by decide) (by decide) (by omega);obtain⟨C,E,S⟩:=wX (xs:=N) r0 r1;obtain⟨T,M,K⟩:=wX (xs:=N) s0 s1;obtain⟨b,d,eg⟩:∃(b:Int)(d:EB),mOp yk (mSl pSl (mSl pSl (zc 0) (wM (mOp K3 (zh kf (zb (zc 0) zl)) (mC (.i 2)))) aL) aL (wM (mC (.i 1)))) (ZD (zb (mC (.i 7)) zl)) [some (.sc ns),none,none,none,none,none,none]=.ok (.l ((b::d).map .i)):=by
  have f:mSl pSl (zc 0) (wM (mOp K3 (zh kf (zb (zc 0) zl)) (mC (.i 2)))) aL [some (.sc ns),none,none,none,none,none,none]=.ok (.l ((Wh ns (some ((ns.length:Int) / 2)) none).map .i)):=by unfold mSl;rw[show zc 0 [some (.sc ns),none,none,none,none,none,none]=.ok (.sc ns)from rfl,okb,CB (n:=(ns.length:Int) / 2) (AO (zx (xs:=[.sc ns]) rfl rfl) (by decide) (by decide))];rfl
  have j:mSl pSl (mSl pSl (zc 0) (wM (mOp K3 (zh kf (zb (zc 0) zl)) (mC (.i 2)))) aL) aL (wM (mC (.i 1))) [some (.sc ns),none,none,none,none,none,none]=.ok (.l (Wh ((Wh ns (some ((ns.length:Int) / 2)) none).map PV.i) none (some 1))):=by unfold mSl at f ⊢;rw[f];rfl
  rw[AW (by decide)]at j;cases hc:Wh ns (some ((ns.length:Int) / 2)) none with
  |nil=>rw[hc]at j;exact⟨7,[],zo j (y:=.l [.i 7]) rfl ((ub (by decide)).trans rfl)⟩
  |cons a L=>rw[hc]at j;exact⟨a,[7],zo j (y:=.l [.i 7]) rfl ((ub (by simp)).trans rfl)⟩
 have q:∀{V:List Wy}{x:Option HV},V.length<=W.length+1->WIn (N++[("none":Str)]) V->qC [some (.v (.sc ns)),some (.v (.l (N.map .s))),some (.v (.l (W.map wP))),none,none,none,none] []=.rt (.g 0) [wC V]->∃p:List Wy,vOf yV [.sc ns,.l (N.map .s),.l (W.map wP)]=.ok (.l (p.map wP))/\p.length<=W.length+1/\WIn (N++[("none":Str)]) p:=λ{V x} f j h3=>by
  refine⟨V,?_,f,j⟩;have:yV ([.sc ns,.l (N.map .s),.l (W.map wP)].map .v) []=.ok (.g 0) [wC V]:=by show(match qC [some (.v (.sc ns)),some (.v (.l (N.map .s))),some (.v (.l (W.map wP))),none,none,none,none] []with | .nx _ D=>HX.ok (HV.v .n) D | .rt x D=>.ok x D | .exc c fs D=>.exc c fs D|_=>.wall)=_;rw[h3]
  unfold vOf;rw[this];dsimp only;rw[A7]
 have start:∀{P:HMS}{o:HFw},P (oyS ns N t (b::d) none) [wC W]=o->(ZE (Vw 2 (hF [false,false,true] (zh qI (zb (zc 2) zl)))) (ZE (Vw 3 (hP [true] (zh zg (zb (zc 0) (zb (mC (.i 57)) (zb (mC (.i 9)) zl)))))) (ZE (Vw 4 (hP [false,true] (zh kf (zb (zc 1) zl)))) (ZE (Vw 5 (hP [true] (mOp yk (mSl pSl (mSl pSl (zc 0) (wM (mOp K3 (zh kf (zb (zc 0) zl)) (mC (.i 2)))) aL) aL (wM (mC (.i 1)))) (ZD (zb (mC (.i 7)) zl))))) P)))) [some (.v (.sc ns)),some (.v (.l (N.map .s))),some (.v (.l (W.map wP))),none,none,none,none] []=o:=λ{P o} h=>
  zw (wW (Dp (x:=.l (W.map wP)) rfl rfl rfl)) (zw (wW (nU (x:=.i t) rfl (zx (xs:=[.sc ns,.i 57,.i 9]) rfl et))) (zw (wW (nU (x:=.i (N.length:Int)) rfl (zx (xs:=[.l (N.map .s)]) rfl wx))) (zw (wW (nU rfl eg)) h)))
 have z:∀{V:List Wy},((V.map wP).map HV.v).length=V.length:=λ{V}=>by rw[D0,D0]
 have b1:∃V,V.length<=W.length+1/\WIn (N++[("none":Str)]) V/\(t≠0->V=W)/\hIf (hPT [false,false,true,true] (Je (zB (mOp (yP false) (zc 3) (mC (.i 0)))) (zB (mOp (yP true) (zc 2) (ZD zl))))) (eK (Wn 2) (hP [true,false,true] (zh zg (zb (zc 0) (zb (mC (.i 58)) (zb (zh kf (zb (zc 2) zl)) zl)))))) ZP (oyS ns N t (b::d) none) [wC W]=.nx (oyS ns N t (b::d) none) [wC V]:=by
  by_cases c:t=0/\W≠[]
  .obtain⟨a,w,A,X,_,I⟩:=lA (ns:=ns) (N:=N) (t:=t) (gr:=b::d) (x:=none) c.2;refine⟨W.eraseIdx a.toNat,by rw[a2B];split<;>omega,λw u=>hW w (a1Z u),λh=>absurd c.1 h,dA.trans ((if_pos c).trans ((ll (k:=0) rfl I rfl A (by rw[z];exact X) (by rw[z];omega)).trans ?_))⟩;show HFw.nx (oyS ns N t (b::d) none) [.l (((W.map wP).map HV.v).eraseIdx a.toNat)]=_;rw[aB,aB]
  .exact⟨W,by omega,hW,λ_=>rfl,dA.trans (if_neg c)⟩
 obtain⟨V,Z,R,q1,O⟩:=b1;have b2:∃e x,e.length<=W.length+1/\WIn (N++[("none":Str)]) e/\(t≠0->e.length=W.length)/\hIf (hPT [false,false,true,true] (Je (zB (mOp (yP false) (zc 3) (mC (.i 1)))) (zB (mOp (yP true) (zc 2) (ZD zl))))) (ZE (Vw 6 (hP [true,false,true] (zh zg (zb (zc 0) (zb (mC (.i 58)) (zb (zh kf (zb (zc 2) zl)) zl))))))
  (eI (Wn 2) (Wn 6) (hP [false,false,true,false,false,true,true] (Xv (zb (mOp pIx (mOp pIx (zc 2) (zc 6)) (mC (.i 0))) (zb (mOp pIx (mOp pIx (zc 2) (zc 6)) (mC (.i 1))) (zb (mOp cD (mOp ZK (mOp pIx (zc 5) (mC (.i 0))) (mOp ZI (mC (.i 2)) (mOp K4 (mC (.i 10)) (mC (.i 30))))) (mOp K4 (mC (.i 10)) (mC (.i 30)))) zl))))))) ZP (oyS ns N t (b::d) none) [wC V]=.nx (oyS ns N t (b::d) x) [wC e]:=by
  by_cases c:t=1/\V≠[]
  .obtain⟨a,w,A,X,Q,I⟩:=lA (ns:=ns) (N:=N) (t:=t) (gr:=b::d) (x:=none) c.2;have u:=R w (S8 Q);have ex:Xv (zb (mOp pIx (mOp pIx (zc 2) (zc 6)) (mC (.i 0))) (zb (mOp pIx (mOp pIx (zc 2) (zc 6)) (mC (.i 1))) (zb (mOp cD (mOp ZK (mOp pIx (zc 5) (mC (.i 0))) (mOp ZI (mC (.i 2)) (mOp K4 (mC (.i 10)) (mC (.i 30))))) (mOp K4 (mC (.i 10)) (mC (.i 30)))) zl))) [none,none,some (.l (V.map wP)),none,none,some (.l ((b::d).map .i)),some (.i a)]=.ok (wP (w.1,w.2.1,b % (2*10 ^ 30)-10 ^ 30)):=
    Jw (zu (zo (zo rfl rfl (ixW A Q)) rfl rfl) (zu (zo (zo rfl rfl (ixW A Q)) rfl rfl) (zu (zo (zo (zo rfl rfl ix0) (zo rfl p30 m30) (Vj (by decide +kernel))) p30 rfl) rfl))) (F9 rfl)
   refine⟨V.set a.toNat (w.1,w.2.1,b % (2*10 ^ 30)-10 ^ 30),some (.v (.i a)),by rw[M3];exact Z,λv hv=>?_,λh=>by rw[M3,q1 h],dA.trans ((if_pos c).trans (zw (wW I) ((dr (k:=0) (i:=a) (y:=.v (wP (w.1,w.2.1,b % (2*10 ^ 30)-10 ^ 30))) (Bt (r:=[none,none,some (.l (V.map wP)),none,none,some (.l ((b::d).map .i)),some (.i a)]) rfl (lY (lY (lZ bY (lY (lY (lZ rfl (lZ rfl rfl))))))) ex rfl) rfl rfl rfl A (by rw[z];exact X)).trans ?_)))⟩
   .rcases a1K hv with h|rfl
    .exact R v h
    .exact u
   .show HFw.nx _ [.l (((V.map wP).map HV.v).set a.toNat (.v (wP (w.1,w.2.1,b % (2*10 ^ 30)-10 ^ 30))))]=HFw.nx _ [.l (((V.set a.toNat (w.1,w.2.1,b % (2*10 ^ 30)-10 ^ 30)).map wP).map HV.v)];rw[a10,a10]
  .exact⟨V,none,Z,R,λh=>by rw[q1 h],dA.trans (if_neg c)⟩
 obtain⟨e,x,l2,w2,Y,G⟩:=b2;have app:∀{v:Wy},[Cell.l ((e.map wP).map HV.v++[HV.v (wP v)])]=[wC (e++[v])]:=λ{v}=>by show _=[Cell.l (((e++[v]).map wP).map HV.v)];rw[M6,M6];rfl
 have F:∀{v:Wy},v.1∈N++[("none":Str)]->v.2.1∈N++[("none":Str)]->WIn (N++[("none":Str)]) (e++[v]):=λ{v} f j w u=>by
  rcases G8.mp u with h|h
  .exact w2 w h
  .rw[F7.mp h];exact⟨f,j⟩
 have l:∀{g:Sto},zc 0 g=.ok (.sc ns)->zc 1 g=.ok (.l (N.map .s))->zc 4 g=.ok (.i (N.length:Int))->mOp pIx (zc 1) (zh zg (zb (zc 0) (zb (mC (.i 59)) (zb (zc 4) zl)))) g=.ok (.s C):=λU f J=>zo f (zx (xs:=[.sc ns,.i 59,.i (N.length:Int)]) (zu U (zu rfl (zu J rfl))) er) S;have B:∀{g:Sto},zc 0 g=.ok (.sc ns)->zc 1 g=.ok (.l (N.map .s))->zc 4 g=.ok (.i (N.length:Int))->mOp pIx (zc 1) (zh zg (zb (zc 0) (zb (mC (.i 60)) (zb (zc 4) zl)))) g=.ok (.s T):=λU f J=>zo f (zx (xs:=[.sc ns,.i 60,.i (N.length:Int)]) (zu U (zu rfl (zu J rfl))) es) K;by_cases H:t=2
 .have:=Y (by omega);exact q (x:=none) (V:=e++[(C,T,1)]) (by rw[E8];exact a0M (by omega)) (F (G9 _ E) (G9 _ M)) (start (zw O (zw G (zw (eX.trans ((if_pos H).trans ((bX (k:=0) (y:=.v (wP (C,T,1))) rfl (nU (r:=[some (.sc ns),some (.l (N.map .s)),none,none,some (.i (N.length:Int)),none,none]) rfl (Jw (zu (l rfl rfl rfl) (zu (B rfl rfl rfl) rfl)) (F9 rfl))) rfl (by rw[z];omega)).trans (M4 (HFw.nx _) app)))) (zw (eX.trans (if_neg (by omega))) rfl)))))
 .by_cases c3:t=3
  .have:=Y (by omega);exact q (x:=none) (V:=e++[((C,("none":Str),b % 10 ^ 30):Wy)]) (by rw[E8];exact a0M (by omega)) (F (G9 _ E) (by simp)) (start (zw O (zw G (zw (eX.trans (if_neg H)) (zw (eX.trans ((if_pos c3).trans ((bX (k:=0) (y:=.v (wP (C,("none":Str),b % 10 ^ 30))) rfl (nU (r:=[some (.sc ns),some (.l (N.map .s)),none,none,some (.i (N.length:Int)),some (.l ((b::d).map .i)),none]) rfl (Jw (zu (l rfl rfl rfl) (zu (x:=.s "none") rfl (zu (zo (zo rfl rfl ix0) p30 (Vj (by decide +kernel))) rfl))) (F9 rfl))) rfl (by rw[z];omega)).trans (M4 (HFw.nx _) app)))) rfl)))))
  .exact q (x:=none) l2 w2 (start (zw O (zw G (zw (eX.trans (if_neg H)) (zw (eX.trans (if_neg c3)) rfl)))))
end
section
variable {N:Ea}{W:List Wy}{F:Str->Ht}{o g:Str}
def dB(j:∀w∈W,ko h w)(i:w∈W)(l:zr h (sk w.1)=some x)(p:zr h (sk w.2.1)=some y)(e:x+w.2.2=y):lst W w.1 w.2.1=some (y-x):=by
 have c:w.2.2∈Ki W w.1 w.2.1:=Yt.mpr ⟨w,i,rfl,rfl,rfl⟩;have d:Ki W w.1 w.2.1≠[]:=λz=>by rw[z]at c;cases c
 unfold lst;rw[if_neg d];congr 1;have s:=XU c;obtain⟨f,b,m,n,u⟩:=Yt.mp (QL d);obtain⟨q,a,r⟩:=j f b x (by rw[m];exact l);rw[n,p]at a;cases a;omega
theorem dC{h:Ht}(d:∀w∈W,ko h w):∀{r:Ea}{s:Str}{x:Int},Path h W (s::r)->zr h (sk s)=some x->∃z y,(s::r).getLast?=some z/\zr h (sk z)=some y/\alg W (s::r)=some (y-x)
 |[],s,x,_,e=>⟨s,x,rfl,e,by rw[Int.sub_self];rfl⟩
 |z::r,s,x,p,e=>by obtain⟨⟨w,j,rfl,rfl,v,y,f,i,c⟩,q⟩:=p;rw[e]at f;cases f;obtain⟨u,b,n,l,m⟩:=dC d q i;refine⟨u,b,by rw[a01];exact n,l,?_⟩;show((lst W w.1 w.2.1).bind λa=>(alg W (w.2.1::r)).map (a+·))=_;rw[dB d j e i c,m];show some (y-x+(b-y))=_;rw[show y-x+(b-y)=b-x by omega]
theorem dD{h:Ht}(j:∀w∈W,ko h w):∀{q:Ea},Path h W q->∀(i:Nat) s z,q[i]?=some s->q[i+1]?=some z->∃y,lst W s z=some y
 |[],_,i,s,z,e,_=>by simp at e
 |[_],_,i,s,z,_,e=>by simp at e
 |a::b::r,p,0,s,z,d,f=>by cases d;cases f;obtain⟨⟨w,l,rfl,rfl,x,y,m,n,c⟩,_⟩:=p;exact⟨_,dB j l m n c⟩
 |a::b::r,p,i+1,s,z,d,f=>dD j p.2 i s z d f
def Xd:W.all (okW h)=true↔∀w∈W,ko h w:=by
 rw[a0o];refine⟨λt w a x b=>?_,λt w a=>?_⟩
 .have:=t w a;unfold okW at this;rw[b]at this;cases e:zr h (sk w.2.1)with
  |none=>rw[e]at this;cases this
  |some y=>rw[e]at this;exact⟨y,rfl,a1D this⟩
 .unfold okW;cases b:zr h (sk w.1)with
  |none=>rfl
  |some x=>obtain⟨y,c,l⟩:=t w a x b;dsimp only;rw[c];exact D6 l
def oA(a:Jx o W (F o))(h:(q=none/\zr (F o) (sk g)=none)\/∃r,q=some (o::r)/\Path (F o) W (o::r)/\(o::r).getLast?=some g):hb W o g q (F o)=true:=by
 unfold hb;rw[D6 a.1.own,Xd.mpr a.2,a0b,a0b];rcases h with⟨rfl,e⟩|⟨r,rfl,p,l⟩
 .show(!(zr (F o) (sk g)).isSome)=true;rw[e];rfl
 .obtain⟨z,y,b,c,d⟩:=dC a.2 p a.1.own;rw[l]at b;cases b;show((decide ((o::r).head?=some o)&&decide ((o::r).getLast?=some g))&&((zr (F o) (sk g)).isSome&&decide (alg W (o::r)=zr (F o) (sk g))))=true;rw[l,c,d,Int.sub_zero];simp
def lB(n:∀w∈W,ko h w)(k:WkM N W N a b v):∀x,zr h (sk a)=some x->∃y,y<=x+v/\zr h (sk b)=some y:=by
 induction k with
 |nil _=>intro x e;exact⟨x,by omega,e⟩
 |edge m=>intro x e;obtain⟨y,d,l⟩:=n _ m x e;exact⟨y,l,d⟩
 |via _ _ _ i j=>intro x e;obtain⟨y,l,d⟩:=i x e;obtain⟨f,p,c⟩:=j y d;exact⟨f,by omega,c⟩
theorem p4(h:WS N W):∀{r:Ea}{s z:Str}{v:Int},s∈N->(s::r).getLast?=some z->alg W (s::r)=some v->WkM N W N s z v
 |[],s,z,v,i,f,d=>by cases f;cases d;exact .nil i
 |a::r,s,z,v,i,f,d=>by
  have d:((lst W s a).bind λx=>(alg W (a::r)).map (x+·))=some v:=d;obtain⟨x,b,m⟩:=F5.mp d;obtain⟨y,l,rfl⟩:=u8.mp m;have j:∃w∈W,w.1=s/\w.2.1=a/\w.2.2=x:=by
   unfold lst at b;by_cases c:Ki W s a=[]
   .rw[if_pos c]at b;cases b
   .rw[if_neg c]at b;cases b;exact Yt.mp (QL c)
  obtain⟨w,e,rfl,rfl,rfl⟩:=j;exact .via (h w e).2.1 (.edge e) (p4 h (h w e).2.1 (by rwa [a01]at f) l)
def dE(f:WS N W)(m:o∈N)(i:Jx o W (F o))(h:hb W o g q H=true):(q=none↔zr (F o) (sk g)=none)/\zr H (sk g)=zr (F o) (sk g):=by
 unfold hb at h;rw[N8,N8,a0h]at h;obtain⟨z,x,b⟩:=h;have w:=Xd.mp x;have up:∀{y:Int},zr (F o) (sk g)=some y->∃c,c<=y/\zr H (sk g)=some c:=λ{y} e=>by obtain⟨c,l,a⟩:=lB w (V8 f i m _ (D3 _) e) 0 z;exact⟨c,by omega,a⟩
 cases q with
 |none=>
  have b:(!(zr H (sk g)).isSome)=true:=b;have e:zr H (sk g)=none:=by
   cases e:zr H (sk g)with
   |none=>rfl
   |some y=>rw[e]at b;cases b
  have a:zr (F o) (sk g)=none:=by
   cases a:zr (F o) (sk g)with
   |none=>rfl
   |some y=>obtain⟨c,_,t⟩:=up a;rw[e]at t;cases t
  exact⟨⟨λ_=>a,λ_=>rfl⟩,by rw[e,a]⟩
 |some q=>
  have b:((decide (q.head?=some o)&&decide (q.getLast?=some g))&&((zr H (sk g)).isSome&&decide (alg W q=zr H (sk g))))=true:=b;rw[N8,N8,N8,a0h,a0h,a0h]at b;obtain⟨⟨p,u⟩,n,j⟩:=b;cases q with
  |nil=>cases p
  |cons s r=>
   cases p;cases e:zr H (sk g)with
   |none=>rw[e]at n;cases n
   |some y=>
    rw[e]at j;obtain⟨c,l,a⟩:=ax f i (p4 f m u j) 0 i.1.own;obtain⟨v,A,d⟩:=up a;rw[e]at d;cases d;have:y=c:=by omega
    subst this;exact⟨⟨λt=>(by cases t),λt=>(by rw[a]at t;cases t)⟩,by rw[a]⟩
theorem toE:∀{H:Ht},(∀k∈H.map (·.1),∃z,k=sk z)->∃E,hE E=H
 |[],_=>⟨[],rfl⟩
 | (k,v)::H,h=>by obtain⟨E,e⟩:=toE (H:=H) λk a=>h k (D5 _ a);obtain⟨z,rfl⟩:=h k D8;exact⟨(z,v)::E,by show(sk z,v)::hE E=_;rw[e]⟩
def lD(n:WS N W)(q:W.length<=60)(i:o∈N)(f:Jx o W (F o)):∃E,hE E=F o/\HK (N++[("none":Str)]) 61 E:=by
 have sub:∀k∈(F o).map (·.1),∃z,k=sk z/\z∈N:=λk d=>by
  rcases G0.mp (f.1.sub k d)with rfl|h
  .exact⟨o,rfl,i⟩
  .obtain⟨w,j,rfl⟩:=G7.mp h;exact⟨_,rfl,(n w j).2.1⟩
 obtain⟨E,e⟩:=toE (H:=F o) λk d=>(sub k d).imp λz h=>h.1;refine⟨E,e,⟨?_,λp hp=>?_,?_⟩⟩
 .have c:=f.1.nd;rw[<- e]at c;unfold hE at c;rw[G5]at c;have:E.map ((λx=>x.1)∘λp=>((sk p.1,p.2):Key×Int))=(E.map (·.1)).map sk:=by rw[G5];rfl
  rw[this]at c;exact List.Pairwise.of_map _ (λa b h e=>h (by rw[e])) c
 .obtain⟨z,m,hz⟩:=sub (sk p.1) (by rw[<- e];exact G7.mpr ⟨(sk p.1,p.2),G7.mpr ⟨p,hp,rfl⟩,rfl⟩);rw[N7 m];exact G9 _ hz
 .have l:=f.1.len;have:(F o).length=E.length:=by rw[<- e];unfold hE;rw[D0]
  rw[this,D4,D0]at l;omega
end
def A8(h:m ρ=.ok (.t [x,y])):xS (gTp 2 (yE (gNm i) (yE (gNm j) Vd))) m ρ=.ok (.nx ((ρ.set i (some x)).set j (some y))):=by unfold xS;rw[h,okb];rfl
def CP(a:ms ρ=.ok [.s x,.s y])(b:m ρ=.ok (.dt L)):U1 n ms m ρ=.ok (.b (xor n (zr L [sk x,sk y]).isSome)):=by unfold U1;rw[a];show(m ρ).bind (inT n [sk x,sk y])=_;rw[b];rfl
def lE:K5 n (wyO q) .n=.ok (.b (xor n q.isNone)):=by cases q<;>cases n<;>rfl
def oB(ns:EB)(_:ns.length<=k):iP [.sc ns]=.ok (.b true):=by
 obtain⟨x2,x20,x21,ex2⟩:=yb (ns:=ns) (k:=2) (m:=6) (by decide) (by decide) (by decide);obtain⟨n,hn⟩:=a00 x20;subst hn;obtain⟨a,b,ab,ea⟩:=n8 (ns:=ns) (k:=0) (by decide) (by decide);obtain⟨P,eP⟩:∃P:List Str,(List.range (1+n)).map (nmX a b)=P:=⟨_,rfl⟩;have lP:P.length=1+n:=by rw[<- eP,D0,a0g]
 have ndP:P.Nodup:=by rw[<- eP];exact AY (by omega)
 have nmP:∀z∈P,Nm z:=λz hz=>by rw[<- eP]at hz;obtain⟨k,hk,rfl⟩:=G7.mp hz;exact AX ab (by have:=a0C.mp hk;omega)
 have inj:∀{p0:Str},pX (P++[("none":Str)]) (od p0):=λ{p0}=>by rw[<- eP];exact A0 (by omega) ab
 have hS:∀z∈P++[("none":Str)],z.length<=1000:=λz hz=>by
  rcases G8.mp hz with h|h
  .have:=(nmP z h).1;omega
  .rw[F7.mp h];decide +kernel
 have s2:lcP X4 X5 X6 (cM 0 (1+n)) [none,some (.sc ns)] []=.ok (.l (P.map .s)):=by rw[cR,<- eP,G5];exact Vo (λk:Nat=>PV.i (k:Int)) (λk=>PV.s (nmX a b k)) (λρ=>∃o,ρ=[o,some (.sc ns)]) _ _ ⟨none,rfl⟩ (λk hk ρ ⟨o,ho⟩=>by subst ho;exact⟨_,rfl,⟨_,rfl⟩,zx rfl (ea k (by have:=a0C.mp hk;omega))⟩) (by rw[a0g];omega)
 obtain⟨p0,hp0⟩:∃p0,P.head?=some p0:=by
  cases P with
  |nil=>rw[a0y]at lP;omega
  |cons p r=>exact⟨p,rfl⟩
 obtain⟨W,lW,wsW,eW⟩:=n_ (ns:=ns) (N:=P) (by omega) (by omega);have R:ROk P W:=⟨by omega,ndP,nmP,by omega,wsW.ok⟩;have winW:WIn (P++[("none":Str)]) W:=λw hw=>⟨G9 _ (wsW w hw).1,G9 _ (wsW w hw).2.1⟩;obtain⟨F,kF⟩:=bR R;obtain⟨L,lok,eL⟩:=bT wsW (by omega) (by omega) λz=>(kF z).1;have eR:=tW R λz=>(kF z).2;obtain⟨x6,x60,x61,ex6⟩:=yb (ns:=ns) (k:=6) (m:=(P.length:Int)) (by decide) (by decide) (by omega);obtain⟨o,ho,eo⟩:=wX (xs:=P) x60 x61;obtain⟨x7,x70,x71,ex7⟩:=yb (ns:=ns) (k:=7) (m:=(P.length:Int)) (by decide) (by decide) (by omega);obtain⟨g,hg,eg⟩:=wX (xs:=P) x70 x71;have gd:=(kF o).1;have way:∃q:Option (List Str),yL [roP P W F,.s o,.s g]=.ok (wyO q)/\((q=none/\zr (F o) (sk g)=none)\/∃r,q=some (o::r)/\Path (F o) W (o::r)/\(o::r).getLast?=some g)/\∀r,q=some r->0<r.length/\r.length<=100/\(∀z∈r,z∈P++[("none":Str)])/\∀(i:Nat) s z,r[i]?=some s->r[i+1]?=some z->∃y,lst W s z=some y:=by
  cases e:zr (F o) (sk g)with
  |none=>exact⟨none,og ho hg e,.inl ⟨rfl,rfl⟩,λr e=>by cases e⟩
  |some y=>
   obtain⟨r,l,ps,p,la,er⟩:=oh R gd ho hg e;refine⟨some (o::r),er,.inr ⟨r,rfl,p,la⟩,λr' e'=>?_⟩;cases e';refine⟨by simp,l,λz hz=>?_,dD gd.2 p⟩;have hs:=ps z hz;have hk:sk z∈(F o).map (·.1):=XY.mp hs;rcases G0.mp (gd.1.sub _ hk)with h|h
   .cases h;exact G9 _ ho
   .obtain⟨w,hw,e2⟩:=G7.mp h;cases e2;exact(winW w hw).2
 obtain⟨q,eq,qk,ql⟩:=way;obtain⟨E,eE,kE⟩:=lD wsW (by omega) ho gd;have hb0:true=hb W o g q (hE E):=by rw[eE];exact(oA gd qk).symm
 have eH:zY [roP P W F,.s o]=.ok (hX E):=by unfold hX;rw[eE];exact nZ ho
 have t1:=V_ (W:=W) (H:=hE E) (o:=o) (g:=g) (q:=q) (by omega) (λr e=>by have:=(ql r e).2.1;omega) (bW kE.nd) hb0;have iS:∀{z:Str},z∈P->z∈P++[("none":Str)]:=λh=>G9 _ h;have t2:=lh (S:=P++[("none":Str)]) (W:=W) (E:=E) (o:=o) (g:=g) (q:=q) hp0 inj hS (by omega) winW kE.nd (by have:=kE.len;omega) kE.sub (iS ho) (iS hg) (λr e=>⟨by have:=(ql r e).2.1;omega,(ql r e).2.2.1⟩) hb0;obtain⟨W',q',ef,lf,lq'⟩:=lj (ns:=ns) (N:=P) (W:=W) (q:=q) (by omega) (by omega) (by omega) λr e=>⟨by have:=(ql r e).2.1;omega,(ql r e).2.2.2⟩;have h3:=bV (W:=W') (H:=hE E) (o:=o) (g:=g) (q:=q') (by omega) lq';have t3:=V_ (W:=W') (H:=hE E) (o:=o) (g:=g) (q:=q') (by omega) lq' (bW kE.nd) rfl;obtain⟨q2,eq2,lq2⟩:=aC (ns:=ns) (N:=P) (q:=q) (by omega) (by omega) λr e=>⟨(ql r e).1,by have:=(ql r e).2.1;omega,(ql r e).2.2.1⟩;obtain⟨E2,kE2,eH2⟩:=Kj (ns:=ns) (N:=P) (E:=E) (by omega) kE (by omega);have h4:=bV (W:=W) (H:=hE E2) (o:=o) (g:=g) (q:=q2) (by omega) λr e=>(lq2 r e).1;have t4:=V_ (W:=W) (H:=hE E2) (o:=o) (g:=g) (q:=q2) (by omega) (λr e=>(lq2 r e).1) (bW kE2.nd) rfl;obtain⟨d,hd⟩:∃d,hb W o g q2 (hE E2)=d:=⟨_,rfl⟩;rw[hd]at h4 t4;obtain⟨W3,eW3,lW3,winW3⟩:=Ud (ns:=ns) (N:=P) (W:=W) (by omega) (by omega) (by omega) winW;obtain⟨t,t0,t1',et⟩:=yb (ns:=ns) (k:=8) (m:=6) (by decide) (by decide) (by decide);obtain⟨x61',y60,y61,ey6⟩:=yb (ns:=ns) (k:=61) (m:=(P.length:Int)) (by decide) (by decide) (by omega);obtain⟨g6,hg6,eg6⟩:=wX (xs:=P) y60 y61;obtain⟨x9,x90,x91,ex9⟩:=yb (ns:=ns) (k:=9) (m:=12) (by decide) (by decide) (by decide);have at_:∀{kk x:Int}{z:Str}{ρ:Sto},zg [.sc ns,.i kk,.i (P.length:Int)]=.ok (.i x)->pIx (.l (P.map .s)) (.i x)=.ok (.s z)->zc 0 ρ=.ok (.sc ns)->zc 1 ρ=.ok (.l (P.map .s))->mOp pIx (zc 1) (zh zg (zb (zc 0) (zb (mC (.i kk)) (zb (zh kf (zb (zc 1) zl)) zl)))) ρ=.ok (.s z):=λh1 h2 v0 v1=>zo v1 (zx (xs:=[.sc ns,.i _,.i (P.length:Int)]) (zu v0 (zu rfl (zu (zx (xs:=[.l (P.map .s)]) (zu v1 rfl) wx) rfl))) h1) h2
 let st:PV->Str->Str->Option (List Str)->Hs->Option PV->Option PV->Sto:=λw o g q E x y=>[some (.sc ns),some (.l (P.map .s)),some w,some (.dt L),some (roP P W F),some (.s o),some (.s g),some (wyO q),some (hX E),some (.l (W'.map wP)),some (wyO q'),x,y]
 have hL:=lok o ho g hg;have c1:sIf (Je (zB (zc 11)) (zB (mOp (yP true) (mOp (K5 false) (zc 7) (mC .n)) (U1 true (zb (zc 5) (zb (zc 6) zl)) (zc 3))))) (jc (mC (.b false))) zP (st (.l (W.map wP)) o g q2 E2 (some (.b d)) none)=.ok (.nx (st (.l (W.map wP)) o g q2 E2 (some (.b d)) none)):=by
  cases d with
  |false=>exact(zA (Qq (zC rfl))).trans rfl
  |true=>
   obtain⟨u1,u2⟩:=dE wsW ho gd hd;have e:=zo (a:=mOp (K5 false) (zc 7) (mC .n)) (b:=U1 true (zb (zc 5) (zb (zc 6) zl)) (zc 3)) (ρ:=st (.l (W.map wP)) o g q2 E2 (some (.b true)) none) (zo rfl rfl lE) (CP rfl rfl) (Cd (n:=true));have:(xor true (decide ((xor false q2.isNone)=(xor true (zr L [sk o,sk g]).isSome))))=false:=by
    rw[hL];cases q2 with
    |none=>rw[u1.mp rfl];rfl
    |some r=>
     cases e':zr (F o) (sk g)with
     |none=>cases(u1.mpr e')
     |some y=>rfl
   rw[this]at e;exact(zA (jV (x:=true) (zC rfl) (zC e))).trans rfl
 have c2:sIf (Je (zB (zc 11)) (Je (zB (mOp (K5 true) (zc 7) (mC .n))) (zB (mOp (yP true) (mOp pIx (zc 8) (zc 6)) (eM (zc 3) (zb (zc 5) (zb (zc 6) zl))))))) (jc (mC (.b false))) zP (st (.l (W.map wP)) o g q2 E2 (some (.b d)) none)=.ok (.nx (st (.l (W.map wP)) o g q2 E2 (some (.b d)) none)):=by
  cases d with
  |false=>exact(zA (Qq (zC rfl))).trans rfl
  |true=>
   obtain⟨u1,u2⟩:=dE wsW ho gd hd;have en:=zC (zo (a:=zc 7) (b:=mC .n) (ρ:=st (.l (W.map wP)) o g q2 E2 (some (.b true)) none) rfl rfl (lE (q:=q2) (n:=true)));cases hq2:q2.isNone with
   |true=>rw[hq2]at en;exact(zA (jV (x:=true) (zC rfl) (Qq en))).trans rfl
   |false=>
    rw[hq2]at en;cases e':zr (F o) (sk g)with
    |none=>rw[u1.mpr e']at hq2;cases hq2
    |some y=>have e2:zB (mOp (yP true) (mOp pIx (zc 8) (zc 6)) (eM (zc 3) (zb (zc 5) (zb (zc 6) zl)))) (st (.l (W.map wP)) o g q2 E2 (some (.b true)) none)=.ok (xor true (decide (y=y))):=zC (zo (vv rfl rfl (u2.trans e')) (au rfl rfl (hL.trans e')) d_);rw[D6 rfl]at e2;exact(zA (jV (x:=true) (zC rfl) (jV en e2))).trans rfl
 have g1:∃g',g'∈P++[("none":Str)]/\sIf (zB (mOp pGt (zc 12) (mC (.i 3)))) (qu 6 (mOp pIx (zc 1) (zh zg (zb (zc 0) (zb (mC (.i 61)) (zb (zh kf (zb (zc 1) zl)) zl)))))) zP (st (.l (W3.map wP)) o g q2 E2 (some (.b d)) (some (.i t)))=.ok (.nx (st (.l (W3.map wP)) o g' q2 E2 (some (.b d)) (some (.i t)))):=by
  have te:zB (mOp pGt (zc 12) (mC (.i 3))) (st (.l (W3.map wP)) o g q2 E2 (some (.b d)) (some (.i t)))=.ok (decide (t>3)):=c6 rfl;by_cases c:t>3
  .exact⟨g6,iS hg6,(zA te).trans (by rw[D6 c,if_pos rfl];exact z_ (at_ ey6 eg6 rfl rfl))⟩
  .exact⟨g,iS hg,(zA te).trans (by rw[D7 c];rfl)⟩
 obtain⟨g',hg',e1⟩:=g1;have g2:∃g3,g3∈P++[("none":Str)]/\sIf (zB (mOp (yP false) (zc 12) (mC (.i 1)))) (qu 6 (mC (.s "none"))) zP (st (.l (W3.map wP)) o g' q2 E2 (some (.b d)) (some (.i t)))=.ok (.nx (st (.l (W3.map wP)) o g3 q2 E2 (some (.b d)) (some (.i t)))):=by
  have te:zB (mOp (yP false) (zc 12) (mC (.i 1))) (st (.l (W3.map wP)) o g' q2 E2 (some (.b d)) (some (.i t)))=.ok (decide (t=1)):=V3 rfl;by_cases c:t=1
  .exact⟨"none",by simp,(zA te).trans (by rw[decide_eq_true c,if_pos rfl];rfl)⟩
  .exact⟨g',hg',(zA te).trans (by rw[D7 c];rfl)⟩
 obtain⟨g3,hg3,e2⟩:=g2;have g4:∃o3,o3∈P++[("none":Str)]/\sIf (zB (mOp (yP false) (zh zg (zb (zc 0) (zb (mC (.i 9)) (zb (mC (.i 12)) zl)))) (mC (.i 1)))) (qu 5 (mC (.s "none"))) zP (st (.l (W3.map wP)) o g3 q2 E2 (some (.b d)) (some (.i t)))=.ok (.nx (st (.l (W3.map wP)) o3 g3 q2 E2 (some (.b d)) (some (.i t)))):=by
  have te:zB (mOp (yP false) (zh zg (zb (zc 0) (zb (mC (.i 9)) (zb (mC (.i 12)) zl)))) (mC (.i 1))) (st (.l (W3.map wP)) o g3 q2 E2 (some (.b d)) (some (.i t)))=.ok (decide (x9=1)):=V3 (zx (xs:=[.sc ns,.i 9,.i 12]) rfl ex9);by_cases c:x9=1
  .exact⟨"none",by simp,(zA te).trans (by rw[decide_eq_true c,if_pos rfl];rfl)⟩
  .exact⟨o,iS ho,(zA te).trans (by rw[D7 c];rfl)⟩
 obtain⟨o3,ho3,e3⟩:=g4;have h5:=bV (W:=W3) (H:=hE E2) (o:=o3) (g:=g3) (q:=q2) (by omega) λr e=>(lq2 r e).1;have t5:=V_ (W:=W3) (H:=hE E2) (o:=o3) (g:=g3) (q:=q2) (by omega) (λr e=>(lq2 r e).1) (bW kE2.nd) rfl;have t6:=lh (S:=P++[("none":Str)]) (W:=W3) (E:=E2) (o:=o3) (g:=g3) (q:=q2) hp0 inj hS (by omega) winW3 kE2.nd (by have:=kE2.len;omega) kE2.sub ho3 hg3 lq2 rfl;have s1:mLC (Vi (zb (mOp yk (mC (.i 1)) (zh zg (zb (zc 0) (zb (mC (.i 2)) (zb (mC (.i 6)) zl))))) zl)) [none,some 0] X4 X5 X6 [some (.sc ns),none,none,none,none,none,none,none,none,none,none,none,none]=.ok (.l (P.map .s)):=
  bF (cQ (n:=1+n) (zu (zo rfl (zx (xs:=[.sc ns,.i 2,.i 6]) rfl ex2) (by show Out.ok (PV.i (1+(n:Int)))=Out.ok (PV.i ((1+n:Nat):Int));rw[Int.natCast_add];rfl)) rfl) (by omega)) s2
 refine zF (zd ⟨_,z_ s1,zd ⟨_,z_ (zx (xs:=[.sc ns,.l (P.map .s)]) rfl eW),zd ⟨_,z_ (zx (xs:=[.l (P.map .s),.l (W.map wP)]) rfl eL),zd ⟨_,z_ (zx (xs:=[.l (P.map .s),.l (W.map wP)]) rfl eR),zd ⟨_,z_ (at_ ex6 eo rfl rfl),zd ⟨_,z_ (at_ ex7 eg rfl rfl),zd ⟨_,z_ (KD (xs:=[.s o,.s g]) rfl rfl (by decide +kernel) (by decide +kernel) (by decide +kernel) eq),zd ⟨_,z_ (KD (xs:=[.s o]) rfl rfl (by decide +kernel) (by decide +kernel) (by decide +kernel) eH),?_⟩⟩⟩⟩⟩⟩⟩⟩);refine zd ⟨_,(zA (x:=false) (V4 (zC (zx (xs:=[.l (W.map wP),.s o,.s g,wyO q,hX E,.b true]) rfl t1)))).trans rfl,zd ⟨_,(zA (x:=false) (V4 (zC (zx (xs:=[.l (P.map .s),.l (W.map wP),.s o,.s g,wyO q,hX E,.b true]) rfl t2)))).trans rfl,zd ⟨_,A8 (zx (xs:=[.sc ns,.l (P.map .s),.l (W.map wP),wyO q]) rfl ef),zd ⟨st (.l (W.map wP)) o g q E none none,(zA (x:=false) (V4 (zC (zx (xs:=[.l (W'.map wP),.s o,.s g,wyO q',hX E,.b (hb W' o g q' (hE E))]) (zu rfl (zu rfl (zu rfl (zu rfl (zu rfl (zu (zx (xs:=[.l (W'.map wP),.s o,.s g,wyO q',hX E]) rfl h3) rfl)))))) t3)))).trans rfl,?_⟩⟩⟩⟩;refine zd ⟨st (.l (W.map wP)) o g q2 E none none,z_ (zx (xs:=[.sc ns,.l (P.map .s),wyO q]) rfl eq2),zd ⟨st (.l (W.map wP)) o g q2 E2 none none,z_ (zx (xs:=[.sc ns,.l (P.map .s),hX E]) rfl eH2),zd ⟨st (.l (W.map wP)) o g q2 E2 (some (.b d)) none,z_ (zx (xs:=[.l (W.map wP),.s o,.s g,wyO q2,hX E2]) rfl h4),zd ⟨st (.l (W.map wP)) o g q2 E2 (some (.b d)) none,(zA (x:=false) (V4 (zC (zx (xs:=[.l (W.map wP),.s o,.s g,wyO q2,hX E2,.b d]) rfl t4)))).trans rfl,zd ⟨_,c1,zd ⟨_,c2,?_⟩⟩⟩⟩⟩⟩;exact zd ⟨st (.l (W3.map wP)) o g q2 E2 (some (.b d)) none,z_ (zx (xs:=[.sc ns,.l (P.map .s),.l (W.map wP)]) rfl eW3),zd ⟨st (.l (W3.map wP)) o g q2 E2 (some (.b d)) (some (.i t)),z_ (zx (xs:=[.sc ns,.i 8,.i 6]) rfl et),zd ⟨_,e1,zd ⟨_,e2,zd ⟨_,e3,zd ⟨st (.l (W3.map wP)) o3 g3 q2 E2 (some (.b (hb W3 o3 g3 q2 (hE E2)))) (some (.i t)),z_ (zx (xs:=[.l (W3.map wP),.s o3,.s g3,wyO q2,hX E2]) rfl h5),zd ⟨st (.l (W3.map wP)) o3 g3 q2 E2 (some (.b (hb W3 o3 g3 q2 (hE E2)))) (some (.i t)),(zA (x:=false) (V4 (zC (zx (xs:=[.l (W3.map wP),.s o3,.s g3,wyO q2,hX E2,.b (hb W3 o3 g3 q2 (hE E2))]) rfl t5)))).trans rfl,Z5 (zx (xs:=[.l (P.map .s),.l (W3.map wP),.s o3,.s g3,wyO q2,hX E2,.b (hb W3 o3 g3 q2 (hE E2))]) rfl t6)⟩⟩⟩⟩⟩⟩⟩
end NCS
def lF(K:EO):Sp:=λc H Q _=>∃(a:Addr)(b:EB),c=[.ref a]/\SqL K H a (b.map V.int)/\b.length<=63/\∀d,Q (.bl true) d
def all_mk{l:W.OpenLaw}{w:Es}{K:EO}{h:Heap}{i:Ed}{fa g c d j f b J4 J8 Yg A Y5 I Zv y Z Zy x Ye u vB Y4 Zk m q Yj n o Q9 L wD jW Q4 N wF wB Zn Zt Q_ J2 We Zj J3 r:Addr}{J5 S Yk Zw YW Zx Zh Y3 ki Zp Zl Yh Y vA Y6 Zm YZ Zr Yd Q5 wH R YY O jX P vy wG U Zi Zu Q6 J Wg Zs M C:Eu}{aG Y0 Zq Yf Q3:Tok}(X:K.In h)(G:h.Ns mainGlobals i)(B:i "law"=some (.ref fa))
  (bJ:W.nsIn K mainGlobals "LIMIT"=some (some (.int 1000000000 aG)))
  (ZW:W.nsIn K mainGlobals "NAME_SIGNS"=some (some (.str "abcdefghijklmnopqrstuvwxyz0123456789" Y0)))
  (vS:W.nsIn K mainGlobals "LONGEST_NAME"=some (some (.int 12 Zq)))
  (wU:W.nsIn K mainGlobals "MOST_PLACES"=some (some (.int 12 Yf)))
  (Ql:W.nsIn K mainGlobals "MOST_WAYS"=some (some (.int 60 Q3)))
  (QO:NsR K "BadName" g)
  (Qm:NsR K "BadNumber" c)
  (VH:NsR K "TooMany" d)
  (bK:NsR K "Twice" j)
  (VI:NsR K "NoPlace" f)
  (bL:NsR K "Roads" b)
  (iK:NsN K "bool")
  (VJ:NsN K "dict")
  (nO:NsN K "int")
  (ZX:NsN K "isinstance")
  (vg:NsN K "len")
  (wg:NsN K "list")
  (nP:NsN K "min")
  (Jt:NsN K "range")
  (Ju:NsN K "reversed")
  (tN:NsN K "zip")
  (zp:DfN K "_law_draw" Jn J4 J5)
  (ky:DfN K "_law_ways" Jo J8 S)
  (qy:DfN K "_law_lengths" wO Yg Yk)
  (eZ:XMk K d A)
  (YX:Fun K "__init__" "TooMany.__init__" vH A Zw)
  (jU:DfN K "check_most" ZQ Y5 YW)
  (eY:XMk K g I)
  (Y1:Fun K "__init__" "BadName.__init__" vI I Zx)
  (jN:DfN K "checked_name" vJ Zv Zh)
  (oF:XMk K j y)
  (J7:Fun K "__init__" "Twice.__init__" ZR y Y3)
  (qt:DfN K "checked_new_name" jd Z ki)
  (jO:DfN K "check_places" vL Zy Zp)
  (e9:XMk K f x)
  (YV:Fun K "__init__" "NoPlace.__init__" vM x Zl)
  (yG:DfN K "check_place" wQ Ye Yh)
  (aH:XMk K c u)
  (Zo:Fun K "__init__" "BadNumber.__init__" j3 u Y)
  (qJ:DfN K "checked_number" j4 vB vA)
  (vo:DfN K "check_ways" ZS Y4 Y6)
  (qg:DfN K "heights_from" vN Zk Zm)
  (aF:W.findIn K (.ref b) "__init__"=some (some (.ref m)))
  (J1:Fun K "__init__" "Roads.__init__" ZT m YZ)
  (WL:W.findIn K (.ref b) "length"=some (some (.ref q)))
  (D:Fun K "length" "Roads.length" vO q Zr)
  (km:DfN K "place_ahead" wR Yj Yd)
  (b9:W.findIn K (.ref b) "way"=some (some (.ref n)))
  (F:Fun K "way" "Roads.way" Qd n Q5)
  (Wf:W.findIn K (.ref b) "heights"=some (some (.ref o)))
  (z:Fun K "heights" "Roads.heights" kC o wH)
  (kJ:DfN K "_law_least" Qe Q9 R)
  (vp:DfN K "_law_forged" ZU L YY)
  (yQ:DfN K "_law_other_way" kD wD O)
  (y6:DfN K "_law_other_heights" qQ jW jX)
  (jB:DfN K "_law_holds" Qf Q4 P)
  (yz:DfN K "_law_other_ways" j5 N vy)
  (yR:DfN K "least_minutes" kG wF wG)
  (jg:DfN K "minutes_along" kH wB U)
  (jP:DfN K "heights_hold" vP Zn Zi)
  (jQ:DfN K "goes_between" vQ Zt Zu)
  (wV:DfN K "way_holds" Qg Q_ Q6)
  (qY:DfN K "_law_true" Jp J2 J)
  (zM:DfN K "_law_odd" VB We Wg)
  (yd:DfN K "_law_odd_true" vR Zj Zs)
  (Yr:DfN K "_law_name" Jq J3 M)
  (iL:DfN K "law" tM r C)
  (b5:Ku K g)
  (Km:W.takerIn K g "name"=some none)
  (Uh:Ku K c)
  (Qu:W.takerIn K c "value"=some none)
  (b8:Ku K d)
  (Ko:W.takerIn K d "most"=some none)
  (lI:Ku K j)
  (WN:W.takerIn K j "name"=some none)
  (b7:Ku K f)
  (Kl:W.takerIn K f "name"=some none)
  (lH:Cls K b)
  (lJ:W.makesIn K b=true)
  (lK:W.keepIn K (.ref b)=true)
  (JB:W.findIn K (.ref b) "lengths"=some none)
  (Kk:W.findIn K (.ref b) "places"=some none)
  (WM:W.findIn K (.ref b) "ways"=some none)
  (JC:W.isFn K (.ref o)=true)
  (Kn:W.isFn K (.ref q)=true)
  (Ug:W.isFn K (.ref n)=true)
  (WK:W.isFn K (.ref m)=true)
  (ZY:W.kitOne K (.type "bool") (.type "bool")=some true)
  (Qn:W.kitOne K (.type "int") (.type "bool")=some false)
  : ∃fd:FuncData,(∀(s:Ef)(v:Value),BindsTo s fd ⟨[v],[]⟩ [("_law_script",v)])/\∀a:Heap,K.In a->a.Ns mainGlobals i->qV l.prog w K i a (CXe l.prog w) 8 fa fd ["_law_script"] (lF K):=by
 have e:r=fa:=by have e:=B.symm.trans (a0v X G iL.1);injection e with e;injection e with e;exact e.symm
 subst e;have T:Txt K i ⟨g,c,d,j,f,b,J4,J8,Yg,A,Y5,I,Zv,y,Z,Zy,x,Ye,u,vB,Y4,Zk,m,q,Yj,n,o,Q9,L,wD,jW,Q4,N,wF,wB,Zn,Zt,Q_,J2,We,Zj,J3,r,J5,S,Yk,Zw,YW,Zx,Zh,Y3,ki,Zp,Zl,Yh,Y,vA,Y6,Zm,YZ,Zr,Yd,Q5,wH,R,YY,O,jX,P,vy,wG,U,Zi,Zu,Q6,J,Wg,Zs,M,C,aG,Y0,Zq,Yf,Q3⟩:=⟨⟨a0v X G bJ,a0v X G ZW,a0v X G vS,a0v X G wU,a0v X G Ql,a0v X G QO,a0v X G Qm,a0v X G VH⟩,⟨a0v X G bK,a0v X G VI,a0v X G bL,T1 X G iK,T1 X G VJ,T1 X G nO,T1 X G ZX,T1 X G vg⟩,⟨T1 X G wg,T1 X G nP,T1 X G Jt,T1 X G Ju,T1 X G tN,yN X G zp bn3,yN X G ky bn2,yN X G qy bn2⟩,⟨YX,YX.binds bn2,yN X G jU bn2,Y1,Y1.binds bn2,yN X G jN bn1,J7,J7.binds bn2⟩,⟨yN X G qt bn2,yN X G jO bn1,YV,YV.binds bn2,yN X G yG bn2,Zo,Zo.binds bn2,yN X G qJ bn2⟩,⟨yN X G vo bn2,yN X G qg bn2,J1,J1.binds bn3,D,D.binds bn3,yN X G km bn3,F⟩,⟨F.binds bn3,z,z.binds bn2,yN X G kJ bn3,yN X G vp bn4,yN X G yQ bn3,yN X G y6 bn3,yN X G jB bn5⟩,⟨yN X G yz bn3,yN X G yR bn1,yN X G jg bn2,yN X G jP bn2,yN X G jQ bn3,yN X G wV bn5,yN X G qY bn6,yN X G zM bn2⟩,⟨yN X G yd bn7,yN X G Yr bn3,yN X G iL bn1,b5,eY,Km,Uh,aH⟩,⟨Qu,b8,eZ,Ko,lI,oF,WN,b7⟩,⟨e9,Kl,lH,JB,Kk,WM,⟨Wf,JC,z.kp⟩,⟨WL,Kn,D.kp⟩⟩,⟨⟨b9,Ug,F.kp⟩,⟨lJ,aF,WK,lK⟩,ZY,Qn⟩⟩;have eb:∀(s:Ef)(v:Value),BindsTo s C ⟨[v],[]⟩ [("_law_script",v)]:=by obtain⟨_,_,_,_,_,_,_,_,_,rfl,_,_⟩:=iL.2.ex;exact λs v=>.of_eq rfl
 refine⟨_,eb,λa _ _=>(CA T).imp λvs H Q E ⟨p,ns,e,hS,hl,k⟩=>?_⟩;subst e;exact sx hS (oB ns hl) k
def walk{l:W.OpenLaw}{q:Eo}{c:Ea}{A:(Str->Option Value)->Heap->Prop}{j:World->Heap->Prop}{d:DefRec}{K:Params->W.Frag}(y:l.most=some 63)(g:d.params.defaults=[])
  (v:∀(w:Es)(h:Heap),j w h->(K w.params).In h)
  (F:∀(w:Es)(e:Ed)(fa:Addr)(h:Heap),(K w.params).In h->h.Ns mainGlobals e->e d.name=some (.ref fa)->
   ∃i:FuncData,(∀(s:Ef)(u:Value),BindsTo s i ⟨[u],[]⟩ [("_law_script",u)])/\∀b:Heap,(K w.params).In b->b.Ns mainGlobals e->qV l.prog w (K w.params) e b (CXe l.prog w) 8 fa i ["_law_script"] (lF (K w.params))):
  W.WalkO q c A j l.row.toRowW d [] (λf m=>PySem.call f m):=
 L2.rJ (n:=63) (k:=8) (x:="_law_script") (CX:=λw=>CXe l.prog w) (sp:=λw=>lF (K w.params)) y (by decide) g ⟨rfl,by decide,by decide⟩ v F (λ_ H a o p B r=>⟨a,o,rfl,r,p,λ_=>rfl⟩) λ_ _ _ _ _ z=>gY z
end K81
open PySem PySem.W PyProof.Rows
namespace PySem.W.Fast
def tw7215982271595864678:=()
def tw7040931169511386760:=()
def tw17736624522863181860:=()
def tw11685722903487345830:=()
def tw16399425158312205773:=()
def tw17101252460875362676:=()
def tw2290023527550064747:=()
def tw3079740988246420316:=()
def tw18028666864606459122:=()
def tw7939641834240959701:=()
def tw5374794607738368157:=()
def tw7008419396552085853:=()
def tw905325825750182332:=()
def tw10758626147367402068:=()
def tw11325195101476426309:=()
def tw5067431169629203923:=()
def tw5246136275354828153:=()
def tw14157936857150006505:=()
def tw16162835681242662488:=()
def tw3273312355001556652:=()
def tw4672242034968912884:=()
def tw13974924792212676017:=()
def tw17024919978282461301:=()
end PySem.W.Fast
set_option maxRecDepth 100000 in
set_option maxHeartbeats 0 in
theorem PySem.Challenge.cw_fleetpath_k81_ways_held_holds : PySem.Challenge.rw_fleetpath_k81_ways_held.Holds := by
 w_on;o_law;k_head;(case hw=>w_witness2)
 k_fill
 refine K81.walk (l:=PySem.Challenge.rw_fleetpath_k81_ways_held) rfl rfl (λw h Y=>PySem.W.kIn_of Y) ?F
 case F=>
  intro w mg fa h KX G hmg;refine' K81.all_mk KX G hmg ?_ ?_ ?_ ?_ ?_ ?_ ?_ ?_ ?_ ?_ ?_ ?_ ?_ ?_ ?_ ?_ ?_ ?_ ?_ ?_ ?_ ?_ ?_ ?_ ?_ ?_ ?_ ?_ ?_ ?_ ?_ ?_ ?_ ?_ ?_ ?_ ?_ ?_ ?_ ?_ ?_ ?_ ?_ ?_ ?_ ?_ ?_ ?_ ?_ ?_ ?_ ?_ ?_ ?_ ?_ ?_ ?_ ?_ ?_ ?_ ?_ ?_ ?_ ?_ ?_ ?_ ?_ ?_ ?_ ?_ ?_ ?_ ?_ ?_ ?_ ?_ ?_ ?_ ?_ ?_ ?_ ?_ ?_ ?_ ?_ ?_ ?_ ?_ ?_
  all_goals try(first|((first|refine'⟨?_,L2.oP ?_ ?_ ?_⟩|refine' L2.oP ?_ ?_ ?_|refine' K81.AJ ?_ ?_ ?_ ?_ ?_)<;>try first|k_is|kernel_rfl)|(show _=_;first|k_is|kernel_rfl)|(first|refine⟨?_,?_,?_,?_,?_⟩|refine⟨?_,?_,?_,?_⟩|refine⟨?_,?_,?_⟩)<;>first|k_is|kernel_rfl)
#print axioms PySem.Challenge.cw_fleetpath_k81_ways_held_holds
