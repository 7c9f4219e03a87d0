import PyProof.Rows.All
import Wide.All
import OpenK.AllK
import Wide.FinOn
import Lean
import PyProof.EqAt
import PyProof.EqKinds
import PyProof.TupleCall
import PyProof.NeKinds
import PyProof.Rows.CountFlat
import PyProof.Rows.SumAny
import PyProof.Rows.Range3
import KE.KEqDict
import KE.KRevIter
import PyProof.DictIter
import PyProof.DictWalks
import PyProof.IsiH_list
import KE.KDictOf
import PyProof.Rows.SetFrom
import PyProof.Conv_int_bool
import PyProof.Rows.StrNews
import PyProof.CallStr
import PyProof.Rows.StrMeet
import PyProof.FitsReplace
import PyProof.MeetsStr3
import PyProof.Rows.StrSplitAre
import PyProof.StrLawsIn
import PyProof.ReprLen
import PyProof.StrLawsChain
import KE.IntTextLaws
import PyProof.Rows.StrClose5
import KE.KSortTup
import PyProof.Rows.SortKey
import KE.KLam
import PyProof.DictUpdate
import KE.KDictSum
import PyProof.WalksEnum
import PyProof.EnumMake
import PyProof.ZipIter
import PyProof.Rows.EnumRows
import PyProof.Rows.ZipForRows
import PyProof.Rows.FactsT2
import PyProof.Rows.SortStr
import PyProof.TupleIter
import PyProof.ToksMono
import PyProof.SetRoads
import PyProof.StrReplace2
import PySem.Challenge.RW_fleetpath_k85_care_held
set_option hygiene false in
local macro_rules | `(tactic| ac_rfl)=>`(tactic| first|assumption|exact Inv.tk (by assumption)|exact Nat.le_trans (Inv.tk (by assumption)) (Nat.le_add_right _ _)|exact Nat.le_succ_of_le (Nat.le_trans (Inv.tk (by assumption)) (Nat.le_add_right _ _)))
set_option compiler.extract_closed false
set_option bootstrap.genMatcherCode false
set_option genInjectivity false
set_option genSizeOf false
set_option genSizeOfSpec false
set_option Elab.async false
set_option linter.all false
set_option maxRecDepth 100000
noncomputable section
def f8:=@PySem.wpAny_bind
def u8:=@List.length_map
def v1:=@Option.map_eq_some_iff
def v4:=@PySem.wpAny_pure
def O0:=@PySem.Heap.get?_push_of_some
def O1:=@List.length_cons
def O2:=@Nat.le_refl
def O3:=@List.getElem?_eq_getElem
def O4:=@decide_eq_false
def O5:=@decide_eq_true
def O6:=@List.mem_cons_of_mem
def O7:=@List.mem_cons_self
def O8:=@PySem.Heap.lt_size
def O9:=@List.mem_map
def P0:=@Bool.false_ne_true
def P1:=@Nat.ne_of_lt
def P2:=@List.length_append
def P4:=@List.size_toArray
def P5:=@List.getElem?_eq_some_iff
def P6:=@PySem.AutoSeq1.wpAny_loadPart'
def P7:=@List.mem_cons
def P8:=@Nat.le_trans
def P9:=@PySem.Heap.get?_push_size
def R4:=@List.mem_append_right
def R7:=@List.map_cons
def R8:=@Nat.lt_of_lt_of_le
def R9:=@congrArg
def S4:=@List.map_map
def S5:=@List.getElem?_map
def S6:=@Nat.le_of_ble_eq_true
def S7:=@Option.bind_eq_some_iff
def S8:=@Bool.and_eq_true
def S9:=@List.getElem?_set_ne
def T5:=@List.map_append
def T6:=@List.mem_singleton
def T7:=@decide_eq_true_eq
def T8:=@List.getElem?_set_self
def T9:=@PySem.Heap.get?_update_other
def W1:=@PySem.wpAny_holding
def a0a:=@List.mem_range
def a0b:=@beq_iff_eq
def a0c:=@Nat.zero_le
def a0d:=@List.all_eq_true
def a0e:=@Option.some.inj
def a0f:=@PySem.wpAny_mono
def a0g:=@PySem.wpAny_with_toks
def a0h:=@List.append_nil
def a0i:=@List.length_set
def a0j:=@Classical.choose_spec
def a0k:=@List.getD_eq_getElem?_getD
def a0l:=@List.mem_filter
def a0m:=@List.getElem?_cons_succ
def a0n:=@List.getElem?_append_left
def a0o:=@List.lookup_cons
def a0p:=@List.length_range
def a0q:=@List.mem_append
def a0r:=@List.nodup_cons
def a0s:=@List.getElem_map
def a0t:=@Int.toNat_natCast
def a0u:=@PySem.Around.under_plainId
def a0v:=@Option.isSome_iff_exists
def a0w:=@PySem.Heap.get?_update_self
def a0x:=@PySem.wpAny_richCompare_same_room
def a0y:=@PySem.MeetsSeq3.plain_eq_loop
def a0z:=@List.nodup_iff_pairwise_ne
def a0A:=@List.mem_append_left
def a0B:=@Nat.ne_of_gt
def a0C:=@PySem.codeAny_builtin
def a0D:=@Int.natCast_nonneg
def a0E:=@PySem.sizeLine_eq
def a0F:=@List.length_take
def a0G:=@List.drop_eq_getElem_cons
def a0H:=@List.append_assoc
def a0I:=@PySem.Paired.length
def a0J:=@List.length_filter_le
def a0K:=@Bool.false_xor
def a0L:=@decide_eq_decide
def a0M:=@List.getElem?_append_right
def a0N:=@List.take_of_length_le
def a0O:=@PySem.wpAny_newObj_type
def a0P:=@of_decide_eq_true
def a0Q:=@List.nodup_append
def a0R:=@beq_eq_false_iff_ne
def a0S:=@Array.length_toList
def a0T:=@List.map_congr_left
def a0U:=@PySem.W.mg_none_of
def a0V:=@Nat.lt_irrefl
def a0W:=@List.all_cons
def a0X:=@List.any_cons
def a0Y:=@Nat.le_succ
def a0Z:=@PySem.wpAny_truthy_bool
def a00:=@List.foldl_cons
def a01:=@PySem.mem_of_lookup
def a02:=@List.replicate_succ
def a03:=@PySem.codeAny_mono
def a04:=@PySem.plainId_quiet
def a05:=@List.length_drop
def a06:=@List.filter_cons
def a07:=@PySem.wpAny_isInstance
def a08:=@Bool.and_false
def a09:=@Array.getElem?_eq_getElem
def a1a:=@PySem.codeAny_call_builtin
def a1b:=@List.getElem?_replicate
def a1c:=@List.eraseIdx_cons_succ
def a1d:=@PySem.F.plainAttrs_list
def a1e:=@PySem.wpAny_setEntries_of
def a1f:=@PySem.Heap.size_push
def a1g:=@List.getElem_mem
def a1h:=@Sum.inr.inj
def a1i:=@PySem.wpAny_call
def a1j:=@PySem.Calls.callWith_builtin
def a1k:=@Nat.le_of_lt
def a1l:=@PyProof.Rows.callWith_type1
def a1m:=@PySem.Calls.spliced_cons
def a1n:=@PySem.wpAny_Call_Name_kw
def a1o:=@Nat.lt_of_le_of_lt
def a1p:=@PyProof.Rows.F.plain_set_update_loop
def a1q:=@List.length_replicate
def a1r:=@List.take_append_drop
def a1s:=@Bool.true_and
def a1t:=@Nat.le_succ_of_le
def a1u:=@List.flatten_cons
def a1v:=@Nat.lt_succ_of_lt
def a1w:=@PySem.wpAny_dictEntries
def a1x:=@List.mem_of_getElem?
def a1y:=@PySem.W.mg_of
def a1z:=@PySem.wpAny_typeOf
def a1A:=@PySem.call_meetsIn
def a1B:=@beq_self_eq_true
def a1C:=@List.cons_ne_nil
def a1D:=@PySem.wpAny_forIn_list
def a1E:=@List.mergeSort_perm
def a1F:=@PySem.MeetsSeq3.entry_eq_loop
def a1G:=@PySem.wpAny_standAt
def a1H:=@List.cons.inj
def a1I:=@PySem.wpAny_execs_nil
def a1J:=@List.nil_append
def a1K:=@PySem.tupleKind_room_in1
def a1L:=@PySem.wpAny_field
def a1M:=@List.drop_of_length_le
def a1N:=@List.getLast?_eq_some_getLast
def a1O:=@PySem.Calls.spliced_nil
def a1P:=@Option.isSome_map
def a1Q:=@Array.getElem?_toList
def a1R:=@Nat.lt_trans
def a1S:=@List.nodup_nil
def a1T:=@PySem.wpAny_call_entry
def a1U:=@Option.bind_some
def a1V:=@Nat.lt_succ_self
def a1W:=@List.drop_length
def a1X:=@PySem.wpAny_attempt
def a1Y:=@Array.getElem?_eq_some_iff
def a1Z:=@Bool.true_xor
def a10:=@Bool.and_true
def a11:=@Std.Legacy.Range.forIn_eq_forIn_range'
def a12:=@PySem.wpAny_passesOwn
def a13:=@List.getElem?_eq_none_iff
def a14:=@PySem.wpAny_updateSeq
def a15:=@List.pairwise_iff_getElem
def a16:=@Classical.byContradiction
def a17:=@Nat.min_eq_left
def a18:=@PySem.W.looks_findIn
def a19:=@PySem.Code.quiet_builtin
def a2a:=@List.getElem_range
def a2b:=@List.pairwise_cons
def a2c:=@PyProof.Rows.F.entry_set_update_loop
def a2d:=@Nat.succ_pos
def a2e:=@Bool.false_and
def a2f:=@PySem.call_meets
def a2g:=@PySem.wpAny_loadPart
def a2h:=@PySem.F.plainAttrs_dict
def a2i:=@Int.eq_ofNat_of_zero_le
def a2j:=@PySem.wpAny_pyIter_list
def a2k:=@List.pairwise_map
def a2l:=@List.length_pos_of_mem
def a2m:=@List.map_take
def a2n:=@PySem.wpAny_execs_cons
def a2o:=@List.take_length
def a2p:=@List.countP_cons
def a2q:=@Nat.min_eq_right
def a2r:=@List.length_singleton
def a2s:=@PySem.F.slot_dict_get
def a2t:=@PySem.builtinLookup_eq_fast
def a2u:=@PySem.wpAny_notOrdered_dict
def a2v:=@PySem.codeAny_handlers_test
def a2w:=@List.getElem?_eq_none
def a2x:=@PyProof.Rows.slot_tuple_getitem
def a2y:=@List.eraseIdxIfInBounds_toArray
def a2z:=@PySem.Calls.evalArgs_plain
def a2A:=@List.length_nil
def a2B:=@List.getElem?_append
def a2C:=@Nat.sub_self
def a2D:=@Array.toArray_toList
def a2E:=@Bool.eq_iff_iff
def a2F:=@List.mem_of_mem_take
def a2G:=@Int.ofNat_le
def a2H:=@List.mem_iff_getElem
def a2I:=@List.filterMap_cons
def a2J:=@PySem.Heap.get?_update_ne
def a2K:=@PySem.wpAny_handleBy_cons
def a2L:=@List.dropLast_cons_of_ne_nil
def a2M:=@PySem.W.looks_mroIn
def a2N:=@Int.le_refl
def a2O:=@PySem.wpAny_of_eq
def a2P:=@PySem.W.callWith_K
def a2Q:=@of_decide_eq_false
def a2R:=@Int.emod_lt_of_pos
def a2S:=@PySem.Calls.Name_function_global
def a2T:=@Bool.false_or
def a2U:=@Array.perm_iff_toList_perm
def a2V:=@PyProof.Rows.listUpdate_at
def a2W:=@Bool.not_true
def a2X:=@PySem.codeAny_with_toks
def a2Y:=@List.take_sublist
def a2Z:=@Nat.le_of_succ_le
def a20:=@PySem.wpAny_pyIter_dict
def a21:=@PySem.wpAny_load
def a22:=@PySem.wpAny_rule
def a23:=@PySem.F.plain_extend_loop
def a24:=@List.getLastD_eq_getLast?
def a25:=@List.map_nil
def a26:=@Bool.or_true
def a27:=@PySem.wpAny_mkText
def a28:=@Nat.le_of_eq
def a29:=@PySem.wpAny_comprehension_free
def a3a:=@Nat.succ_lt_succ
def a3b:=@List.any_eq_true
def a3c:=@List.length_erase_of_mem
def a3d:=@PyProof.Rows.KeyOrd.kle_trans
def a3e:=@PyProof.Rows.KeyOrd.klt_asymm
def a3f:=@List.range'_succ
def a3g:=@PySem.AutoSeq1.sub_tuple_tuple
def a3h:=@PySem.F.slot_dict_values
def a3i:=@PySem.F.slot_list_insert
def a3j:=@Array.toList_inj
def a3k:=@List.ext_getElem
def a3l:=@List.eq_of_mem_replicate
def a3m:=@List.Pairwise.imp_of_mem
def a3n:=@PySem.wpAny_Call_method0_late
def a3o:=@PySem.F.args_dict_get_2
def a3p:=@List.getElem?_cons_zero
def a3q:=@PySem.F.plain_list_iadd
def a3r:=@PySem.F.entry_type_call
def a3s:=@PySem.F.slot_list_count
def a3t:=@decide_eq_false_iff_not
def a3u:=@List.mem_singleton_self
def a3v:=@List.of_mem_zip
def a3w:=@PySem.SeqAt.EqAt.same
def a3x:=@PySem.codeAny_of_tree
def a3y:=@PySem.pushCells_keeps
def a3z:=@List.find?_cons
def a3A:=@PySem.typeLookup_type
def a3B:=@PySem.wpAny_dictEpoch
def a3C:=@Nat.le_antisymm
def a3D:=@Int.emod_nonneg
def a3E:=@PySem.W.cellsFrom_some
def a3F:=@PyProof.Rows.subscriptTail_builtinR
def a3G:=@PySem.F.entry_dict_get
def a3H:=@Array.getElem?_eq_none
def a3I:=@PySem.AutoSeq1.sub_list_list
def a3J:=@PyProof.Rows.boot_list
def a3K:=@PySem.codeAny_handlers_suite
def a3L:=@PyProof.Rows.SetOf_congr
def a3M:=@PySem.F.typeCall_set_1
def a3N:=@PySem.F.entry_set_init
def a3O:=@PySem.F.slot_dict_pop
def a3P:=@PySem.wpAny_setField
def a3Q:=@PySem.F.slot_list_pop
def a3R:=@PySem.F.type_list_pop
def a3S:=@PySem.F.sub_dict_dict
def a3T:=@PySem.F.slot_tuple_eq
def a3U:=@PySem.F.slot_tuple_ne
def a3V:=@PySem.wpAny_setAddHashed_of
def a3W:=@PySem.weight_type_call_type
def a3X:=@List.set_getElem_self
def a3Y:=@List.getElem_set_self
def a3Z:=@Array.mem_toList_iff
def a30:=@PySem.Around.frames_deeper
def a31:=@Bool.and_eq_true_iff
def a32:=@Nat.not_lt
def a33:=@PySem.F.slot_list_eq
def a34:=@PySem.F.slot_list_ne
def a35:=@PySem.codeAny_extend_loopS
def a36:=@List.mem_erase_of_ne
def a37:=@PySem.F.slot_dict_eq
def a38:=@PySem.F.slot_dict_ne
def a39:=@PyProof.Rows.size_push'
def a4a:=@List.mem_of_mem_drop
def a4b:=@List.map_drop
def a4c:=@PySem.Moved.eq_with
def a4d:=@PySem.wpAny_newList
def a4e:=@PySem.wpAny_Tuple_spliced
def a4f:=@PySem.evalArgs_none
def a4g:=@Array.toList_append
def a4h:=@List.filter_sublist
def a4i:=@PySem.SeqAt.EqAt.int_str
def a4j:=@PySem.SeqAt.EqAt.str_int
def a4k:=@List.mem_filterMap
def a4l:=@Array.find?_toList
def a4m:=@PySem.seqIndex_neg
def a4n:=@Int.le_trans
def a4o:=@Nat.zero_add
def a4p:=@Nat.sub_zero
def a4q:=@decide_eq_true_iff
def a4r:=@Array.forIn_toList
def a4s:=@PySem.wpAny_evalAll_cons
def a4t:=@PySem.Around.under_plain
def a4u:=@List.filter_append
def a4v:=@List.map_set
def a4w:=@Bool.not_eq_false'
def a4x:=@PySem.seqIndex_of
def a4y:=@PySem.W.looks_clsIn
def a4z:=@PySem.wpAny_throw
def a4A:=@PyProof.Rows.boot_sorted
section
open PySem PySem.Spec PyProof.Rows PySem.W
abbrev Of:=(Value->Shared->Prop)
abbrev Og:=List Nat
abbrev Oh:=(List (Addr×Obj))
abbrev Oi:=(Str->Option Value)
abbrev Oj:=List Str
abbrev Ol:=(Addr->Prop)
abbrev Om:=Shared
abbrev Oo:=List Value
abbrev Oq:=List Expr
abbrev Ot:=Expr
abbrev Ou:=List Bool
abbrev Ox:=Program
abbrev Oy:=(Nat->Addr)
abbrev OA:=PySem.W.Frag
abbrev OC:=List Int
abbrev OE:=World
abbrev OF:=List (Option Nat)
abbrev OG:=Around
abbrev OH:=FuncData
abbrev OI:=Array (Option Value)
abbrev OJ:=Array Value
abbrev OL:=Frag
abbrev ON:=List Stmt
abbrev OO:=(List (Str×Addr))
abbrev OP:=Option Addr
abbrev OR:=(List (Str×Nat))
abbrev OS:=(List (Str×NameKind))
abbrev OT:=Option Int
abbrev OW:=W.Frag
abbrev OX:=List Addr
abbrev OY:=Stmt
abbrev O_:=(List (Str×Value))
abbrev Pa:=Array Nat
abbrev Pb:=(Nat->Nat->Bool)
abbrev Pd:=(Str->Option NameKind)
abbrev Pe:=Option Expr
abbrev Pf:=(Nat->Prop)
abbrev Ph:=(Nat->Shared->Prop)
abbrev Pj:=(Nat->Value->Prop)
abbrev Po:=(Value->Option Bool)
abbrev Pp:=(Bool->Shared->Prop)
abbrev Pq:=(Nat->Value)
abbrev Pr:=(Nat->Bool)
end
abbrev Pw:List Nat:=[0,0,0,0,0,0,0,0]
namespace L2
open PySem PySem.Spec PyProof.Rows
abbrev Key:=Sum Int Str
abbrev OV:=List Key
abbrev OZ:=(List (Key×Value))
def aq:Key->Value->Bool
 |.inl k,v=>Value.isInt k v
 |.inr x,v=>Value.isStrOf x v
def Nw(w:OE):Key->Int
 |.inl k=>hashInt k
 |.inr x=>hashStr w x
def yf:∀{k:Key}{v:Value},aq k v=true->(∃i t,k=Sum.inl i/\v=Value.int i t)\/(∃x t,k=Sum.inr x/\v=Value.str x t)
 |.inl i,v,h=>by obtain⟨t,e⟩:=Value.isInt_shape h;exact .inl ⟨i,t,rfl,e⟩
 |.inr x,v,h=>by obtain⟨t,e⟩:=Value.isStrOf_shape h;exact .inr ⟨x,t,rfl,e⟩
def bZ(i:Int)(t:Tok):aq (.inl i) (.int i t)=true:=by simp[aq,Value.isInt]
def b7(x:Str)(t:Tok):aq (.inr x) (.str x t)=true:=by simp[aq,Value.isStrOf]
def Fh(a b:Int):decide ((Sum.inl a:Key)=Sum.inl b)=(a==b):=by grind
def Fi(a b:Str):decide ((Sum.inr a:Key)=Sum.inr b)=decide (a=b):=by simp
def Fj(a:Int)(b:Str):decide ((Sum.inl a:Key)=Sum.inr b)=false:=O4 (λq=>nomatch q)
def Fm(a:Str)(b:Int):decide ((Sum.inr a:Key)=Sum.inl b)=false:=O4 (λq=>nomatch q)
def z9(prog:Ox)(w:OE):PySem.KeyKind prog w Key where
 is:=aq
 hash:=Nw w
 inj:=λv a b ha hb=>by
  rcases yf ha with⟨i,t,rfl,rfl⟩|⟨x,t,rfl,rfl⟩
  .rcases yf hb with⟨j,u,rfl,e⟩|⟨y,u,rfl,e⟩
   .injection e with e1 _;rw[e1]
   .exact nomatch e
  .rcases yf hb with⟨j,u,rfl,e⟩|⟨y,u,rfl,e⟩
   .exact nomatch e
   .injection e with e1 _;rw[e1]
 byValue:=λk v h=>by rcases yf h with⟨i,t,rfl,rfl⟩|⟨x,t,rfl,rfl⟩<;>rfl
 pyHash:=λhv h=>by
  rcases yf hv with⟨i,t,rfl,rfl⟩|⟨x,t,rfl,rfl⟩
  .exact wpAny_pyHash_int h
  .exact wpAny_pyHash_str h
 eqBool:=λhu hv h=>by
  rcases yf hu with⟨i,t,rfl,rfl⟩|⟨x,t,rfl,rfl⟩
  .rcases yf hv with⟨j,u,rfl,rfl⟩|⟨y,u,rfl,rfl⟩
   .rw[Fh]at h;exact wpAny_eqBool_int h
   .rw[Fj]at h;exact a4i i t y u _ _ _ _ h
  .rcases yf hv with⟨j,u,rfl,rfl⟩|⟨y,u,rfl,rfl⟩
   .rw[Fm]at h;exact a4j x t j u _ _ _ _ h
   .rw[Fi]at h;exact wpAny_eqBool_str h
 «strs»:=λk x t v h=>by
  rcases yf h with⟨i,u,rfl,e⟩|⟨y,u,rfl,e⟩
  .exact nomatch e
  .injection e with e1 _
   subst e1;cases v<;>rfl
def K3(prog:Ox)(w:OE)(k:Key)(v:Value):(z9 prog w).is k v=aq k v:=rfl
def eY(prog:Ox)(w:OE)(i:Int)(t:Tok):(z9 prog w).is (.inl i) (.int i t)=true:=bZ i t
def eZ(prog:Ox)(w:OE)(x:Str)(t:Tok):(z9 prog w).is (.inr x) (.str x t)=true:=b7 x t
inductive V where
 |non|bl (b:Bool)|int (i:Int)|str (x:Str)|byt (b:Array UInt8)|flt (b:UInt64)|ref (a:Addr)|ty (n:String)
 deriving DecidableEq
abbrev Ov:=(List (Key×V))
abbrev Ow:=List V
abbrev OU:=(List (Str×V))
abbrev Pk:=(List (List Key×V))
def RelV:V->Value->Prop
 |.non,u=>u=Value.none
 |.bl b,u=>u=Value.bool b
 |.int i,u=>∃t,u=Value.int i t
 |.str x,u=>∃t,u=Value.str x t
 |.byt b,u=>∃t,u=Value.bytes b t
 |.flt b,u=>∃t,u=Value.float b t
 |.ref a,u=>u=Value.ref a
 |.ty n,u=>u=Value.type n
abbrev Vals:List V->List Value->Prop:=Paired RelV
def Vals.length(r:Vals xs us):xs.length=us.length:=a0I r
def Vals.get:∀{b:Ow}{a:Oo}{i:Nat}{x:V},Vals b a->b[i]?=some x->∃u,a[i]?=some u/\RelV x u
 |_,_,_,_,.nil,e=>by simp at e
 |_,_,0,_,.cons r _,e=>by simp at e;subst e;exact⟨_,rfl,r⟩
 |_,_,i+1,x,.cons _ t,e=>by obtain⟨u,c,d⟩:=Vals.get (i:=i) (x:=x) t (by grind);exact⟨u,by simpa using c,d⟩
def Vals.set{x:V}{u:Value}(r:RelV x u):∀{b:Ow}{a:Oo}(i:Nat),Vals b a->Vals (b.set i x) (a.set i u)
 |_,_,_,.nil=>.nil
 |_,_,0,.cons _ t=>.cons r t
 |_,_,i+1,.cons q t=>.cons q (Vals.set r i t)
def Vals.append:∀{b c:Ow}{a ws:Oo},Vals b a->Vals c ws->Vals (b++c) (a++ws)
 |_,_,_,_,.nil,s=>s
 |_,_,_,_,.cons r t,s=>.cons r (Vals.append t s)
def Vals.take:∀{b:Ow}{a:Oo}(n:Nat),Vals b a->Vals (b.take n) (a.take n)
 |_,_,0,_=>.nil
 |_,_,_+1,.nil=>.nil
 |_,_,n+1,.cons r t=>.cons r (Vals.take n t)
def Vals.drop:∀{b:Ow}{a:Oo}(n:Nat),Vals b a->Vals (b.drop n) (a.drop n)
 |_,_,0,r=>r
 |_,_,_+1,.nil=>.nil
 |_,_,n+1,.cons _ t=>Vals.drop n t
def Uh:Option V->Option Value->Prop
 |some v,some u=>RelV v u
 |none,none=>True
 |_,_=>False
def KV{a:Type}:List (a×V)->List (a×Value)->Prop:=Paired λ(p:a×V) (q:a×Value)=>p.1=q.1/\RelV p.2 q.2
def kV:Key->V
 |.inl i=>.int i
 |.inr x=>.str x
inductive HO where
 |lst (xs:Ow)
 |tup (xs:Ow)
 |dK (kvs:Ov)|dT (kvs:Pk)
 |set (S:Int->Bool) (n:Nat)
 |ins (C dx:Addr) (fs:OU)
 |own (x:Addr)
 |xd (fs:OU)
 |met (f x:Addr)
 |rng (lo hi:Int)
 |frz (o:Obj) (u:HO)
 |tbl (ps:OJ)
 |ext (φ:Heap->Prop)
abbrev Hp:=Addr->Option HO
def upd(H:Hp)(a:Addr)(o:HO):Hp:=λb=>if b=a then some o else H b
def zh:upd H a o a=some o:=by unfold upd;rw[if_pos rfl]
def zj(h:b≠a):upd H a o b=H b:=by unfold upd;rw[if_neg h]
def qD:upd (upd H a o) a u=upd H a u:=by
 funext b;unfold upd;split<;>rfl
def Le{H:Hp}{a b:Addr}{o u:HO}(h:H a=some o)(h':H b=some u)(d:o≠u):a≠b:=by grind
def qb{H:Hp}{a b:Addr}{o:HO}(h:H a=some o)(h':H b=none):a≠b:=by grind
section
variable (P:Ox) (w:OE)
def yR(H:Hp)(h:Heap)(a:Addr):HO->Prop
 |.lst d=>d.length<=sizeLine/\∃(b:Oo)(n:Nat),Vals d b/\h.get? a=some { cls:=.type "list",data:=.seq b.toArray n }
 |.tup d=>d.length<=sizeLine/\∃b:List Value,Vals d b/\IsTup h a b.toArray
 |.dK c=>c.length<=sizeLine/\(a==sysModules)=false/\∃r,KV c r/\h.DictOf (z9 P w) a r
 |.dT c=>c.length<=sizeLine/\(a==sysModules)=false/\∃d:List (List Key×Addr×Value),
   Paired (λ(p:List Key×V) (q:List Key×Addr×Value)=>p.1=q.1/\H q.2.1=some (.tup (p.1.map kV))/\RelV p.2 q.2.2) c d/\
   ∃o j z,h.get? a=some o/\o.ExactDict/\o.data=.dict j z/\j.toList=d.map (entryOfKey (tupleKind (z9 P w)))/\(d.map (·.1)).Nodup
 |.set S n=>h.SetOf (intKind P w) a S n
 |.ins C g fs=>H g=some (.own a)/\fs.length<=1000/\g≠a/\h.get? a=some (PySem.W.instObj C g)/\
   ∃e,h.Ns1 g e/\(∀f,Uh (fs.lookup f) (e f))/\PySem.Within e (fs.map (·.1))
 |.own _=>∃o,h.get? a=some o
 |.xd fs=>∃e,h.Ns1 a e/\∀f,Uh (fs.lookup f) (e f)
 |.rng s y=>∃t u v,h.get? a=some { cls:=.type "range",data:=.fields #[.int s t,.int y u,.int 1 v] }
 |.frz o u=>h.get? a=some o/\yR H h a u
 |.tbl A=>h.get? a=some { cls:=.none,data:=.fields A }
 |.met f x=>h.get? a=some (PySem.W.methodObj (.ref f) (.ref x))
 |.ext i=>i h/\(∃o,h.get? a=some o)/\∀l m:Heap,i l->(∀o,l.get? a=some o->m.get? a=some o)->i m
def HOk(H:Hp)(h:Heap):Prop:=∀a o,H a=some o->yR P w H h a o
end
section
variable {P:Ox}{w:OE}{H H':Hp}{h h':Heap}{a:Addr}{o:HO}
def yR.lt(x:yR P w H h a o):a<h.objs.size:=by
 cases o with
 |lst c=>obtain⟨_,_,_,_,e⟩:=x;exact O8 e
 |tup c=>obtain⟨_,_,_,p⟩:=x;exact p.lt
 |dK b=>obtain⟨_,_,_,_,o,_,_,e,_⟩:=x;exact O8 e
 |dT b=>obtain⟨_,_,_,_,o,_,_,e,_⟩:=x;exact O8 e
 |set S n=>obtain⟨o,_,_,_,e,_⟩:=x;exact O8 e
 |ins C g fs=>obtain⟨_,_,_,e,_⟩:=x;exact O8 e
 |own y=>obtain⟨_,e⟩:=x;exact O8 e
 |xd fs=>obtain⟨_,⟨_,_,_,e,_⟩,_⟩:=x;exact O8 e
 |rng d i=>obtain⟨_,_,_,e⟩:=x;exact O8 e
 |frz ob u=>obtain⟨e,_⟩:=x;exact O8 e
 |tbl l=>exact O8 x
 |met f y=>exact O8 x
 |ext j=>obtain⟨_,⟨_,e⟩,_⟩:=x;exact O8 e
def Paired.Lf{e g:Type}{F G:e->g->Prop}:∀{d:List e}{c:List g},Paired F d c->(∀a b,F a b->G a b)->Paired G d c
 |_,_,.nil,_=>.nil
 |_,_,.cons r t,f=>.cons (f _ _ r) (Paired.Lf t f)
def yR.m6(x:yR P w H h a o)(k:∀b u,(b=a\/H b=some (.own a))->h.get? b=some u->h'.get? b=some u)
  (K:∀b,H b=some (.own a)->H' b=some (.own a)) (I:∀b l,H b=some (.tup l)->H' b=some (.tup l)):yR P w H' h' a o:=by
 induction o with
 |lst l=>obtain⟨z,j,n,r,e⟩:=x;exact⟨z,j,n,r,k _ _ (.inl rfl) e⟩
 |tup l=>obtain⟨z,j,r,ob,e,c⟩:=x;exact⟨z,j,r,ob,k _ _ (.inl rfl) e,c⟩
 |dK A=>obtain⟨z,y,J,r,ob,g,i,e,c⟩:=x;exact⟨z,y,J,r,ob,g,i,k _ _ (.inl rfl) e,c⟩
 |dT A=>obtain⟨z,y,l,r,ob,g,i,e,c⟩:=x;exact⟨z,y,l,Paired.Lf r λp q z=>⟨z.1,I _ _ z.2.1,z.2.2⟩,ob,g,i,k _ _ (.inl rfl) e,c⟩
 |set S n=>obtain⟨ob,g,i,t,e,c⟩:=x;exact⟨ob,g,i,t,k _ _ (.inl rfl) e,c⟩
 |ins C L fs=>obtain⟨d,z,E,e,s,⟨m,g,i,F,c⟩,r⟩:=x;exact⟨K _ d,z,E,k _ _ (.inl rfl) e,s,⟨m,g,i,k _ _ (.inr d) F,c⟩,r⟩
 |own y=>obtain⟨ob,e⟩:=x;exact⟨ob,k _ _ (.inl rfl) e⟩
 |xd fs=>obtain⟨s,⟨m,g,i,e,c⟩,r⟩:=x;exact⟨s,⟨m,g,i,k _ _ (.inl rfl) e,c⟩,r⟩
 |rng M N=>obtain⟨t,u,v,e⟩:=x;exact⟨t,u,v,k _ _ (.inl rfl) e⟩
 |frz ob u G=>obtain⟨e,q⟩:=x;exact⟨k _ _ (.inl rfl) e,G q⟩
 |tbl D=>have e:=x;exact k a _ (.inl rfl) e
 |met f y=>have e:=x;exact k a _ (.inl rfl) e
 |ext O=>obtain⟨p,⟨o,e⟩,B⟩:=x;exact⟨B _ _ p λo q=>k _ _ (.inl rfl) q,⟨o,k _ _ (.inl rfl) e⟩,B⟩
def HOk.lt(x:HOk P w H h)(e:H a=some o):a<h.objs.size:=(x a o e).lt
def HOk.fresh(x:HOk P w H h)(e:h.objs.size<=a):H a=none:=by
 cases q:H a with
 |none=>rfl
 |some u=>exact absurd (R8 (x.lt q) e) (a0V _)
def HOk.kept(x:HOk P w H h)(k:∀b u,h.get? b=some u->h'.get? b=some u):HOk P w H h':=λa o e=>
 (x a o e).m6 (λb u _ q=>k b u q) (λ_ q=>q) λ_ _ q=>q
def HOk.laid(x:HOk P w H h)(k:∀b u,h.get? b=some u->h'.get? b=some u)(hp:h.objs.size<=a)(new:yR P w (upd H a o) h' a o):HOk P w (upd H a o) h':=λb u e=>by
 have f:=x.fresh hp;by_cases d:b=a
 .subst d;rw[zh]at e;cases e;exact new
 .rw[zj d]at e;exact(x b u e).m6 (λc v _ q=>k c v q) (λc q=>by rw[zj (qb q f)];exact q) λc g q=>by rw[zj (qb q f)];exact q
end
def Rd(H:Hp)(a:Addr)(u:HO):Prop:=H a=some u\/∃o,H a=some (.frz o u)
def Rd.ok(r:Rd H a u)(x:HOk P w H h):yR P w H h a u:=by
 rcases r with r|⟨o,r⟩
 .exact x a u r
 .obtain⟨_,q⟩:=x a _ r;exact q
def Mut:Option HO->Prop
 |some (.lst _)=>True
 |some (.dK _)=>True
 |some (.dT _)=>True
 |some (.set _ _)=>True
 |some (.ins _ _ _)=>True
 |some (.ext _)=>True
 |_=>False
def HOk.write(ok:HOk P w H h)(g:Mut (H x))(he:e=x\/H e=some (.own x))(k:∀b u,b≠e->h.get? b=some u->h'.get? b=some u)(m:∃u,h'.get? e=some u)
  (new:yR P w (upd H x o') h' x o'):HOk P w (upd H x o') h':=λb u q=>by
 have d:∀c y,H c=some (.own y)->c≠x:=λc y r z=>by subst z;rw[r]at g;exact g
 have f:∀c l,H c=some (.tup l)->c≠x:=λc l r z=>by subst z;rw[r]at g;exact g
 by_cases j:b=x
 .subst j;rw[zh]at q;cases q;exact new
 .rw[zj j]at q;by_cases a:b=e
  .have n:H b=some (.own x):=by
    rcases he with z|z
    .exact absurd (a.trans z) j
    .rw[a];exact z
   rw[q]at n;cases n;obtain⟨v,o⟩:=m;exact⟨v,by rw[a];exact o⟩
  .refine(ok b u q).m6 (λc v i r=>k c v ?_ r) (λc r=>by rw[zj (d c b r)];exact r) λc l r=>by rw[zj (f c l r)];exact r
   rcases i with rfl|i
   .exact a
   .rintro rfl
    rcases he with z|z
    .exact d c b i z
    .rw[i]at z;cases z;exact j rfl
structure Un(fs ex:OX)(H H':Hp)(h h':Heap):Prop where
 keep:∀b o,h.get? b=some o->H b=none->b∉fs->b∉ex->h'.get? b=some o
 slot:∀b o,h.get? b=some o->H b=none->b∈fs->b∉ex->∃sl,h'.get? b=some { o with slots:=sl }
 free:∀b o,h.get? b=some o->H b=none->b∉ex->H' b=none
 there:∀b o,h.get? b=some o->b∉ex->∃o',h'.get? b=some o'
 uq:∀b xs,H b=some (.tup xs)->H' b=some (.tup xs)
 nA:∀b o u,H b=some (.frz o u)->H' b=some (.frz o u)
 t4:∀b ps,H b=some (.tbl ps)->∃more,H' b=some (.tbl (ps++more))
section
variable {fs ex:OX}{H H1:Hp}{h h1 h':Heap}{a x e:Addr}{o:HO}
def Un.any(u:Un fs ex H H1 h h1)(q:h.get? b=some ob)(n:H b=none)(d:b∉ex):∃f,h1.get? b=some { ob with slots:=f }:=by
 by_cases c:b∈fs
 .exact u.slot b ob q n c d
 .exact⟨ob.slots,u.keep b ob q n c d⟩
def Un.kept(k:∀b u,h.get? b=some u->h'.get? b=some u):Un fs ex H H h h':=
 ⟨λb ob q _ _ _=>k b ob q,λb ob q _ _ _=>⟨ob.slots,k b ob q⟩,λ_ _ _ n _=>n,λb ob q _=>⟨ob,k b ob q⟩,λ_ _ q=>q,λ_ _ _ q=>q,λ_ c q=>⟨#[],by rw[q];simp⟩⟩
def Un.refl:Un fs ex H H h h:=Un.kept λ_ _ q=>q
def Un.laid(k:∀b u,h.get? b=some u->h'.get? b=some u)(hp:h.objs.size<=a)(c:H a=none):Un fs ex H (upd H a o) h h' where
 keep:=λb u q _ _ _=>k b u q
 slot:=λb u q _ _ _=>⟨u.slots,k b u q⟩
 free:=λb u q n _=>by rw[zj (P1 (R8 (O8 q) hp))];exact n
 there:=λb u q _=>⟨u,k b u q⟩
 uq:=λb d q=>by rw[zj (qb q c)];exact q
 nA:=λb u d q=>by rw[zj (qb q c)];exact q
 t4:=λb f q=>⟨#[],by rw[zj (qb q c),q];simp⟩
def Un.write(d:Mut (H x))(he:e=x\/H e=some (.own x))(k:∀b u,b≠e->h.get? b=some u->h'.get? b=some u)(g:∃u,h'.get? e=some u):Un fs ex H (upd H x o) h h':=by
 have j:∀b,H b=none->b≠x:=λb n z=>by subst z;rw[n]at d;exact d
 have i:∀b,H b=none->b≠e:=λb n z=>by
  subst z;rcases he with r|r
  .exact j b n r
  .rw[n]at r;cases r
 have f:∀b u,H b=some u->¬Mut (some u)->b≠x:=λb u q l z=>by subst z;rw[q]at d;exact l d
 refine⟨λb u q n _ _=>k b u (i b n) q,λb u q n _ _=>⟨u.slots,k b u (i b n) q⟩,λb u q n _=>by rw[zj (j b n)];exact n,λb u q _=>?_,
  λb m q=>by rw[zj (f b _ q λz=>z)];exact q,λb u m q=>by rw[zj (f b _ q λz=>z)];exact q,λb p q=>⟨#[],by rw[zj (f b _ q λz=>z),q];simp⟩⟩
 by_cases c:b=e
 .subst c;exact g
 .exact⟨u,k b u c q⟩
end
def trk(h:Heap)(H:Hp):List Addr:=(List.range h.objs.size).filter λa=>(H a).isSome
def t_(h:Heap)(H:Hp):Heap:=PySem.W.hideAll h (trk h H)
def nB(h:Heap)(H:Hp):(t_ h H).objs.size=h.objs.size:=PySem.W.hideAll_size _ _
def ur(e:h.get? b=some o)(n:H b=none):(t_ h H).get? b=some o:=
 PySem.W.hideAll_get _ e λa=>by have q:=(a0l.mp a).2;rw[n]at q;simp at q
def Cj(e:(t_ h H).get? b=some o):h.get? b=some o/\H b=none:=by
 have a:=PySem.W.of_hideAll (trk h H) e;refine⟨a,?_⟩;cases q:H b with
 |none=>rfl
 |some x=>have c:b∈trk h H:=a0l.mpr ⟨a0a.mpr (O8 a),by simp[q]⟩;have z:(t_ h H).get? b=none:=PySem.W.hideAll_none (trk h H) c;rw[z]at e;cases e
structure Mod(K:OA)(mg:Oi)(base:Heap):Prop where
 kin:K.In base
 glob:base.Ns mainGlobals mg
 blt:∃mb,base.Ns builtinsNs mb/\∀x:Str,x≠"__name__"->mb x=bootBuiltins x
 nolimit:base.NoLimit
structure Cx where
 prog:Program
 w:World
 K:PySem.W.Frag
 mg:Str->Option Value
 base:Heap
 A:Around
 N:List Str
 s₀:Shared
 H₀:Hp
 env:Env
 outer:List Env
 stack:List Env
 ex:List Addr
 fn:Str->Bool
 calm:Bool
 pn:List (Addr×Obj)
 xe:Value->Shared->Prop
 m:Nat:=0
abbrev Px(X:Cx):=model X.prog X.w
def frs(l:List Env):List Addr:=l.filterMap (·.frame)
abbrev Cx.fs(X:Cx):List Addr:=frs X.outer
def Vis(a:Scope)(x:Str):Prop:=a.names.lookup x=some .local\/a.names.lookup x=some .cell\/a.names.lookup x=some .free
def Loc(a:Scope)(x:Str):Prop:=a.names.lookup x=some .local\/a.names.lookup x=some .cell
def Look(env:Env)(h:Heap)(m:Oi)(x:Str)(u:Value):Prop:=
 (env.kindOf x=some .local/\m x=some u)\/((env.kindOf x=some .cell\/env.kindOf x=some .free)/\∃c,env.cells.lookup x=some c/\h.IsCell c (some u))
structure Cx.Ok(X:Cx):Prop where
 mod:Mod X.K X.mg X.base
 kind:X.env.scope.kind=.function
 glob:X.env.globals=mainGlobals
 blt:X.env.builtins=builtinsNs
 above:X.s₀.heap.objs.size<=X.env.locals
 inj:∀x y c,X.env.cells.lookup x=some c->X.env.cells.lookup y=some c->x=y
 has:∀x,(X.env.kindOf x=some .cell\/X.env.kindOf x=some .free)->∃c,X.env.cells.lookup x=some c
 cab:∀x c,X.fn x=true->X.env.cells.lookup x=some c->X.s₀.heap.objs.size<=c
 hd:X.calm=true->X.A.handled=none
 frames:X.A.frames=some X.stack
 stk:X.stack=X.outer\/(X.stack=X.env::X.outer/\X.env.frame=some X.env.locals)
 exf:∀b∈X.ex,b≠X.env.locals/\∀x c,X.env.cells.lookup x=some c->c≠b
 bs:∀b o,X.base.get? b=some o->X.s₀.heap.get? b=some o/\X.H₀ b=none
 bsz:X.base.objs.size<=X.s₀.heap.objs.size
 Ff:∀b o,X.base.get? b=some o->b∉X.ex
 Fg:∀b∈X.ex,b∉X.fs
 eT:X.s₀.heap.FunFrames X.base X.outer
 frf:∀b∈X.fs,X.H₀ b=none
structure Inv(X:Cx)(pins:Oh)(σ:List (Option V))(H:Hp)(s:Om):Prop where
 ok:X.Ok
 os:s.os=X.s₀.os
 bare:AllBare s.gens
 base:Un X.fs X.ex X.H₀ H X.s₀.heap s.heap
 loc:∃m,s.heap.Ns X.env.locals m/\∀(i:Nat)(x:Str)(v:V),X.N[i]?=some x->σ[i]?=some (some v)->Vis X.env.scope x->∃u,RelV v u/\Look X.env s.heap m x u
 cell:∀x c,X.env.cells.lookup x=some c->∃v,s.heap.IsCell c v
 free:H X.env.locals=none
 QA:∀x c,X.env.cells.lookup x=some c->H c=none
 pin:∀p∈X.pn++pins,s.heap.get? p.1=some p.2/\H p.1=none/\p.1≠X.env.locals/\p.1∉X.fs/\∀v,p.2.data≠.cell v
 hok:HOk X.prog X.w H s.heap
 len:σ.length=X.N.length
 tk:X.m<=s.toks
section
variable {X:Cx}{pins:Oh}{σ:List (Option V)}{H H':Hp}{s:Om}{h':Heap}
def Cx.Ok.Nx(ok:X.Ok)(e:X.base.get? b=some o):b∉X.fs:=λa=>by have:=(ok.eT.mem a).1;rw[e]at this;cases this
def Inv.bs(I:Inv X pins σ H s):∀b o,X.base.get? b=some o->s.heap.get? b=some o/\H b=none:=λb o e=>
 ⟨I.base.keep b o (I.ok.bs b o e).1 (I.ok.bs b o e).2 (I.ok.Nx e) (I.ok.Ff b o e),I.base.free b o (I.ok.bs b o e).1 (I.ok.bs b o e).2 (I.ok.Ff b o e)⟩
def Inv.bk(I:Inv X pins σ H s):∀b o,X.base.get? b=some o->s.heap.get? b=some o:=λb o e=>(I.bs b o e).1
def Inv.mod(I:Inv X pins σ H s):Mod X.K X.mg X.base:=I.ok.mod
def Inv.kIn(I:Inv X pins σ H s):X.K.In s.heap:=I.ok.mod.kin.keeps I.bk
def Inv.lt(I:Inv X pins σ H s):X.env.locals<s.heap.objs.size:=let⟨_,hn,_⟩:=I.loc;hn.lt
def Inv.sz(I:Inv X pins σ H s):X.s₀.heap.objs.size<=s.heap.objs.size:=P8 I.ok.above (a1k I.lt)
def Inv.Lg(I:Inv X pins σ H s)(h:s.heap.objs.size<=a):a∉X.fs:=λb=>by obtain⟨_,o,c,_⟩:=I.ok.eT.mem b;exact absurd (R8 (O8 c) (P8 I.sz h)) (a0V _)
def Inv.cne(I:Inv X pins σ H s):∀x c,X.env.cells.lookup x=some c->c≠X.env.locals:=λx c e z=>by obtain⟨v,o,f,d⟩:=I.cell x c e;obtain⟨m,⟨i,g,h,a,b,_⟩,_⟩:=I.loc;rw[z,a]at f;cases f;rw[b]at d;cases d
def Inv.eT(I:Inv X pins σ H s):s.heap.FunFrames X.base X.outer:=by
 have all:∀(l:List Env),(∀b∈frs l,b∈X.fs)->X.s₀.heap.FunFrames X.base l->s.heap.FunFrames X.base l:=by
  intro l
  induction l with
  |nil=>intro _ _;trivial
  |cons j r g=>intro d h;obtain⟨m,⟨L,o,hf,f,p,n⟩,i⟩:=h;have a:=d L (by unfold frs;rw[a2I,hf];exact O7);obtain⟨q,e⟩:=I.base.slot L o p (I.ok.frf L a) a λz=>I.ok.Fg L z a;exact⟨m,⟨L,_,hf,f,e,n⟩,g (λb c=>d b (by unfold frs;rw[a2I,hf];exact O6 _ c)) i⟩
 exact all X.outer (λ_ c=>c) I.ok.eT
def Inv.stack(I:Inv X pins σ H s):s.heap.FunFrames X.base X.stack:=by
 rcases I.ok.stk with e|⟨e,hf⟩
 .rw[e];exact I.eT
 .rw[e];obtain⟨m,a,_⟩:=I.loc;exact .cons (by rw[I.ok.kind];decide) hf a (Heap.get?_none_of_le (P8 I.ok.bsz I.ok.above)) I.eT
def Inv.UI(I:Inv X pins σ H s):∀b∈frs X.stack,b∈X.env.locals::X.fs:=λb a=>by
 rcases I.ok.stk with e|⟨e,hf⟩
 .rw[e]at a;exact O6 _ a
 .rw[e]at a;unfold frs at a;rw[a2I,hf]at a;exact a
def Inv.ar(I:Inv X pins σ H s):∀b∈frs X.stack,H b=none:=λb a=>by
 rcases P7.mp (I.UI b a)with e|a
 .rw[e];exact I.free
 .obtain⟨_,o,c,_⟩:=I.ok.eT.mem a;exact I.base.free b o c (I.ok.frf b a) λz=>I.ok.Fg b z a
def Inv.step{g':Array GenState}{t':Nat}{d':Drawn}{ch:OX}(I:Inv X pins σ H s)
  (j:∀b∈ch,(b∈X.ex\/X.s₀.heap.objs.size<=b)/\b≠X.env.locals/\(∀x c,X.env.cells.lookup x=some c->c≠b)/\∀p∈X.pn++pins,p.1≠b)
  (keep:∀b o,b≠X.env.locals->b∉X.fs->b∉ch->s.heap.get? b=some o->H b=none->h'.get? b=some o)
  (A:∀b o,b≠X.env.locals->b∈X.fs->b∉ch->s.heap.get? b=some o->H b=none->∃N,h'.get? b=some { o with slots:=N }) (f:∀b o,b∉ch->s.heap.get? b=some o->H b=none->H' b=none)
  (B:∀b o,b∉ch->s.heap.get? b=some o->∃E,h'.get? b=some E)
  (uq:∀b y,H b=some (.tup y)->H' b=some (.tup y)) (S:∀b o u,H b=some (.frz o u)->H' b=some (.frz o u)) (t4:∀b K,H b=some (.tbl K)->∃J,H' b=some (.tbl (K++J)))
  (ns:∀m,s.heap.Ns X.env.locals m->h'.Ns X.env.locals m) (L:HOk X.prog X.w H' h') (T:AllBare g') (W:X.m<=t':=by ac_rfl):
  Inv X pins σ H' { s with heap:=h',gens:=g',drawn:=d',toks:=t' }:=by
 have G:∀b o,X.s₀.heap.get? b=some o->b≠X.env.locals:=λb o e=>P1 (R8 (O8 e) I.ok.above);have w:∀b o,X.s₀.heap.get? b=some o->b∉X.ex->b∉ch:=λb o e a C=>by
  rcases(j b C).1 with z|z
  .exact a z
  .exact absurd (R8 (O8 e) z) (a0V _)
 have h:∀x c,X.env.cells.lookup x=some c->∀v,s.heap.IsCell c v->h'.IsCell c v:=λx c e v ⟨o,D,M⟩=>by
  have g:=λz=>(j c z).2.2.1 x c e rfl;by_cases Q:c∈X.fs
  .obtain⟨N,q⟩:=A c o (I.cne x c e) Q g D (I.QA x c e);exact⟨_,q,M⟩
  .exact⟨o,keep c o (I.cne x c e) Q g D (I.QA x c e),M⟩
 refine⟨I.ok,I.os,T,⟨λb o e n C a=>?_,λb o e n C a=>?_,λb o e n a=>?_,λb o e a=>?_,λb y e=>uq b y (I.base.uq b y e),λb o y e=>S b o y (I.base.nA b o y e),λb K e=>?_⟩,?_,λx c e=>?_,?_,λx c e=>?_,λp hp=>?_,L,I.len,W⟩
 .exact keep b o (G b o e) C (w b o e a) (I.base.keep b o e n C a) (I.base.free b o e n a)
 .obtain⟨N,t⟩:=I.base.slot b o e n C a;obtain⟨O,F⟩:=A b _ (G b o e) C (w b o e a) t (I.base.free b o e n a);exact⟨O,F⟩
 .obtain⟨E,t⟩:=I.base.there b o e a;exact f b E (w b o e a) t (I.base.free b o e n a)
 .obtain⟨E,t⟩:=I.base.there b o e a;exact B b E (w b o e a) t
 .obtain⟨m1,t⟩:=I.base.t4 b K e;obtain⟨m2,F⟩:=t4 b _ t;exact⟨m1++m2,by rw[F,Array.append_assoc]⟩
 .obtain⟨m,U,Z⟩:=I.loc;refine⟨m,ns m U,λi x v t F Y=>?_⟩;obtain⟨u,r,l⟩:=Z i x v t F Y;refine⟨u,r,?_⟩;rcases l with l|⟨k,c,e,z⟩
  .exact .inl l
  .exact .inr ⟨k,c,e,h x c e _ z⟩
 .obtain⟨v,z⟩:=I.cell x c e;exact⟨v,h x c e v z⟩
 .obtain⟨m,⟨o,_,_,D,_⟩,_⟩:=I.loc;exact f _ o (λz=>(j _ z).2.1 rfl) D I.free
 .obtain⟨v,o,D,M⟩:=I.cell x c e;exact f c o (λz=>(j c z).2.2.1 x c e rfl) D (I.QA x c e)
 .obtain⟨e,n,P,R,d⟩:=I.pin p hp;have g:=λz=>(j p.1 z).2.2.2 p hp rfl;exact⟨keep p.1 p.2 P R g e n,f p.1 p.2 g e n,P,R,d⟩
def Inv.un(I:Inv X pins σ H s)(u:Un X.fs [] H H' s.heap h')(f:HOk X.prog X.w H' h')(t:X.m<=t':=by ac_rfl):Inv X pins σ H' { s with heap:=h',toks:=t' }:=by
 obtain⟨m,⟨o,q,v,h,r⟩,_⟩:=id I.loc;obtain⟨x,j⟩:=u.any h I.free (by simp);exact I.step (ch:=[]) (λ_ z=>nomatch z) (λb o _ d _ e n=>u.keep b o e n d (by simp)) (λb o _ d _ e n=>u.slot b o e n d (by simp)) (λb o _ e n=>u.free b o e n (by simp)) (λb o _ e=>u.there b o e (by simp)) u.uq u.nA u.t4 (λw i=>by
  obtain⟨p,g,c,a,l⟩:=i;rw[h]at a;cases a;exact⟨_,g,c,j,l⟩) f I.bare
def Inv.call(I:Inv X pins σ H s)(u:Un (frs X.stack) ch H H' s.heap h')(i:HOk X.prog X.w H' h')(t:AllBare g')
  (f:∀b∈ch,(b∈X.ex\/X.s₀.heap.objs.size<=b)/\b≠X.env.locals/\(∀x c,X.env.cells.lookup x=some c->c≠b)/\∀p∈X.pn++pins,p.1≠b) (B:X.m<=t':=by ac_rfl):
  Inv X pins σ H' { s with heap:=h',gens:=g',drawn:=d',toks:=t' }:=by
 obtain⟨m,⟨o,A,C,l,r⟩,_⟩:=id I.loc;obtain⟨E,g⟩:=u.any l I.free λz=>(f _ z).2.1 rfl;exact I.step f (λb o g w a e n=>u.keep b o e n (λz=>(P7.mp (I.UI b z)).elim g w) a) (λb o _ _ a e n=>u.any e n a) (λb o a e n=>u.free b o e n a) (λb o a e=>u.there b o e a) u.uq u.nA u.t4 (λD q=>by
  obtain⟨y,j,h,d,v⟩:=q;rw[l]at d;cases d;exact⟨_,j,h,g,v⟩) i t
def Inv.turned(I:Inv X pins σ H s)(k:∀b o,b≠it->s.heap.get? b=some o->h'.get? b=some o)(h:H it=none)(f:it≠X.env.locals)
  (l:it∈X.ex\/X.s₀.heap.objs.size<=it) (w:∀x c,X.env.cells.lookup x=some c->c≠it) (i:∀p∈X.pn++pins,p.1≠it) (B:X.m<=t':=by ac_rfl):Inv X pins σ H { s with heap:=h',toks:=t' }:=by
 have d:∀b u,H b=some u->b≠it:=λb u e z=>by rw[z,h]at e;cases e
 refine I.step (ch:=[it]) (λb y=>?_) (λb o _ _ a e _=>k b o (λz=>a (by simp[z])) e) (λb o _ _ a e _=>⟨o.slots,k b o (λz=>a (by simp[z])) e⟩) (λ_ _ _ _ n=>n)
  (λb o a e=>⟨o,k b o (λz=>a (by simp[z])) e⟩) (λ_ _ e=>e) (λ_ _ _ e=>e) (λb C e=>⟨#[],by rw[e];simp⟩) (λm g=>?_) (λb u e=>?_) I.bare
 .have e:=by simpa using y
  subst e;exact⟨l,f,w,i⟩
 .obtain⟨o,j,t,A,r⟩:=g;exact⟨o,j,t,k _ o (Ne.symm f) A,r⟩
 .refine(I.hok b u e).m6 (λc v a q=>k c v ?_ q) (λ_ q=>q) λ_ _ q=>q;rcases a with z|z
  .rw[z];exact d b u e
  .exact d c _ z
def Inv.tok(I:Inv X pins σ H s)(t:Nat)(a:X.m<=t:=by ac_rfl):Inv X pins σ H { s with toks:=t }:=I.un (h':=s.heap) (t':=t) Un.refl I.hok
def Inv.kept(I:Inv X pins σ H s)(k:∀b u,s.heap.get? b=some u->h'.get? b=some u)(a:X.m<=t':=by ac_rfl):Inv X pins σ H { s with heap:=h',toks:=t' }:=I.un (Un.kept k) (I.hok.kept k)
def Inv.laid(I:Inv X pins σ H s)(k:∀b u,s.heap.get? b=some u->h'.get? b=some u)(hp:s.heap.objs.size<=a)(new:yR X.prog X.w (upd H a o) h' a o)(c:X.m<=t':=by ac_rfl):
  Inv X pins σ (upd H a o) { s with heap:=h',toks:=t' }:=I.un (Un.laid k hp (I.hok.fresh hp)) (I.hok.laid k hp new)
def Inv.write(I:Inv X pins σ H s)(c:Mut (H x))(he:e=x\/H e=some (.own x))(k:∀b u,b≠e->s.heap.get? b=some u->h'.get? b=some u)(a:∃u,h'.get? e=some u)
  (new:yR X.prog X.w (upd H x o) h' x o) (d:X.m<=t':=by ac_rfl):Inv X pins σ (upd H x o) { s with heap:=h',toks:=t' }:=I.un (Un.write c he k a) (I.hok.write c he k a new)
def Inv.K4(I:Inv X pins σ H s)(h:∀p∈pins',s.heap.get? p.1=some p.2/\H p.1=none/\p.1≠X.env.locals/\p.1∉X.fs/\∀v,p.2.data≠.cell v):Inv X pins' σ H s:=
 ⟨I.ok,I.os,I.bare,I.base,I.loc,I.cell,I.free,I.QA,λp hp=>(a0q.mp hp).elim (λz=>I.pin p (a0A _ z)) (h p),I.hok,I.len,I.tk⟩
def gN{N:Oj}(e:N.Nodup){i j:Nat}{x:Str}(a:N[i]?=some x)(b:N[j]?=some x):i=j:=by obtain⟨f,d⟩:=P5.mp a;obtain⟨g,c⟩:=P5.mp b;exact(List.getElem_inj e).mp (d.trans c.symm)
def b8(I:Inv X pins σ H s)(hN:X.N.Nodup)(R:X.N[i]?=some x)(w:Loc X.env.scope x)(r:RelV v u)
  (h:∀Y,Inv X pins (σ.set i (some v)) H Y->(∃a,Heap.SameBut a s.heap Y.heap/\(a=X.env.locals\/X.env.cells.lookup x=some a))->Q () Y) (hf:X.fn x=true\/X.env.scope.names.lookup x=some .local:=by first|exact .inl rfl|exact .inr rfl|assumption):wpAny M A (storeName X.env x u) Q E s:=by
 obtain⟨m,hn,hl⟩:=id I.loc;have P:(X.env.scope.kind == .class||(X.env.scope.kind == .module&&X.env.locals != X.env.globals))=false:=by rw[I.ok.kind];rfl
 have F:i<σ.length:=by rw[I.len];exact(P5.mp R).1
 have cne:=I.cne;have g:∀{a:Addr}{h':Heap},(∃o,s.heap.get? a=some o/\H a=none)->Heap.SameBut a s.heap h'->HOk X.prog X.w H h':=λ{a h'} ha f b ob e=>by
  obtain⟨_,_,B⟩:=ha;refine(I.hok b ob e).m6 (λc T t q=>(f.2 c ?_).trans q) (λ_ q=>q) λ_ _ q=>q
  rintro rfl
  rcases t with rfl|t
  .rw[B]at e;cases e
  .rw[B]at t;cases t
 rcases w with D|D
 .refine wpAny_storeName_local D hn (λh' hn' f=>?_) P;obtain⟨oL,_,_,hoL,_⟩:=id hn;refine h _ ⟨I.ok,I.os,I.bare,⟨λb o e n K w=>?_,λb o e n K w=>?_,I.base.free,λb o e w=>?_,I.base.uq,I.base.nA,I.base.t4⟩,⟨_,hn',λj y Z l C e3=>?_⟩,λy c e=>?_,I.free,I.QA,λp hp=>?_,g ⟨oL,hoL,I.free⟩ f,by simpa using I.len,a1t I.tk⟩ ⟨_,f,.inl rfl⟩
  .exact(f.2 b (P1 (R8 (O8 e) I.ok.above))).trans (I.base.keep b o e n K w)
  .obtain⟨sl,l⟩:=I.base.slot b o e n K w;exact⟨sl,(f.2 b (P1 (R8 (O8 e) I.ok.above))).trans l⟩
  .obtain⟨o',l⟩:=I.base.there b o e w;exact⟨o',(f.2 b (P1 (R8 (O8 e) I.ok.above))).trans l⟩
  .by_cases G:j=i
   .subst G;rw[R]at l;cases l;rw[T8 F]at C;cases C;exact⟨u,r,.inl ⟨D,by simp⟩⟩
   .rw[S9 (Ne.symm G)]at C;obtain⟨u',r',q⟩:=hl j y Z l C e3;refine⟨u',r',?_⟩;rcases q with⟨k,e⟩|⟨k,c,e,z⟩
    .refine .inl ⟨k,?_⟩;have:y≠x:=λe=>G (gN hN l (e▸R));simp[this,e]
    .exact .inr ⟨k,c,e,z.sameBut f (cne y c e)⟩
  .obtain⟨T,z⟩:=I.cell y c e;exact⟨T,z.sameBut f (cne y c e)⟩
  .obtain⟨e,n,U,nf,d⟩:=I.pin p hp;exact⟨(f.2 p.1 U).trans e,n,U,nf,d⟩
 .have J:X.fn x=true:=by
   rcases hf with z|z
   .exact z
   .rw[z]at D;cases D
  obtain⟨c,t⟩:=I.ok.has x (.inl D);obtain⟨T,z⟩:=I.cell x c t;refine wpAny_storeName_cell I.ok.kind D t z (λh' L f=>?_);obtain⟨oc,S,O⟩:=id z;refine h { s with heap:=h' } ⟨I.ok,I.os,I.bare,⟨λb o e n K w=>?_,λb o e n K w=>?_,I.base.free,λb o e w=>?_,I.base.uq,I.base.nA,I.base.t4⟩,⟨m,hn.sameBut f (Ne.symm (cne x c t)),λj y Z l C e3=>?_⟩,λy W e=>?_,I.free,I.QA,λp hp=>?_,g ⟨oc,S,I.QA x c t⟩ f,by simpa using I.len,I.tk⟩ ⟨c,f,.inr t⟩
  .exact(f.2 b (P1 (R8 (O8 e) (I.ok.cab x c J t)))).trans (I.base.keep b o e n K w)
  .obtain⟨sl,l⟩:=I.base.slot b o e n K w;exact⟨sl,(f.2 b (P1 (R8 (O8 e) (I.ok.cab x c J t)))).trans l⟩
  .obtain⟨o',l⟩:=I.base.there b o e w;exact⟨o',(f.2 b (P1 (R8 (O8 e) (I.ok.cab x c J t)))).trans l⟩
  .by_cases G:j=i
   .subst G;rw[R]at l;cases l;rw[T8 F]at C;cases C;exact⟨u,r,.inr ⟨.inl D,c,t,L⟩⟩
   .rw[S9 (Ne.symm G)]at C;obtain⟨u',r',q⟩:=hl j y Z l C e3;refine⟨u',r',?_⟩;rcases q with q|⟨k,W,e,z'⟩
    .exact .inl q
    .refine .inr ⟨k,W,e,z'.sameBut f ?_⟩
     rintro rfl
     exact G (gN hN l (I.ok.inj _ _ _ e t▸R))
  .by_cases N:W=c
   .subst N;exact⟨_,L⟩
   .obtain⟨w2,z2⟩:=I.cell y W e;exact⟨w2,z2.sameBut f N⟩
  .obtain⟨e,n,U,nf,d⟩:=I.pin p hp;refine⟨(f.2 p.1 ?_).trans e,n,U,nf,d⟩;intro q;rw[q,S]at e;have q':=a0e e;exact d T (by grind)
def au(I:Inv X pins σ H s)(b:X.N.Nodup)(c:X.N[i]?=some x)(e:Loc X.env.scope x)(r:RelV v u)
  (h:∀a,Inv X pins (σ.set i (some v)) H a->Q () a) (hf:X.fn x=true\/X.env.scope.names.lookup x=some .local:=by first|exact .inl rfl|exact .inr rfl|assumption):wpAny M A (storeName X.env x u) Q E s:=
 b8 I b c e r (λa d _=>h a d) hf
def Inv.Fn(I:Inv X pins σ H s)(i:s'.os=s.os)(u:Un (frs X.stack) ch H H' s.heap s'.heap)(a:HOk X.prog X.w H' s'.heap)(j:AllBare s'.gens)
  (d:∀b∈ch,(b∈X.ex\/X.s₀.heap.objs.size<=b)/\b≠X.env.locals/\(∀x c,X.env.cells.lookup x=some c->c≠b)/\∀p∈X.pn++pins,p.1≠b) (l:X.m<=s'.toks:=by ac_rfl):Inv X pins σ H' s':=by
 obtain⟨h',g,f,h,m⟩:=s';have e:=i;subst e;exact I.call u a j d l
end
abbrev XK:=Value->Option Addr->Hp->Prop
abbrev St:=List (Option V)
abbrev VK:=V->Hp->Prop
abbrev TE:=St->Hp->VK->Prop
abbrev TT:=St->Hp->(Bool->Hp->Prop)->Prop
abbrev TA:=St->Hp->(List V->Hp->Prop)->Prop
structure Ends where
 nx:St->Hp->Prop
 rt:VK
 bk:St->Hp->Prop:=λ_ _=>False
 ct:St->Hp->Prop:=λ_ _=>False
abbrev TS:=Ends->St->Hp->Prop
def EP(X:Cx)(pins:Oh)(σ:St)(Q:VK)(u:Value)(b:Om):Prop:=∃v a,Inv X pins σ a b/\RelV v u/\Q v a
def TP(X:Cx)(pins:Oh)(σ:St)(Q:Bool->Hp->Prop)(b:Bool)(c:Om):Prop:=∃a,Inv X pins σ a c/\Q b a
def AP(X:Cx)(pins:Oh)(σ:St)(Q:List V->Hp->Prop)(us:Oo)(c:Om):Prop:=∃b a,Inv X pins σ a c/\Vals b us/\Q b a
def SP(X:Cx)(pins:Oh)(D:Ends)(f:Flow)(c:Om):Prop:=
 match f with
 |.next=>∃a b,Inv X pins a b c/\D.nx a b
 |.brk=>∃a b,Inv X pins a b c/\D.bk a b
 |.cont=>∃a b,Inv X pins a b c/\D.ct a b
 |.ret u=>∃v a b,Inv X pins a b c/\RelV v u/\D.rt v b
def PE(X:Cx)(e:Ot)(t:TE):Prop:=
 ∀(a:Oh)(s:Om)(b:St)(H:Hp)(Q:VK),Inv X a b H s->t b H Q->wpAny (Px X) X.A (eval e X.env) (EP X a b Q) X.xe s
def PT(X:Cx)(e:Ot)(t:TT):Prop:=
 ∀(a:Oh)(s:Om)(b:St)(H:Hp)(Q:Bool->Hp->Prop),Inv X a b H s->t b H Q->wpAny (Px X) X.A (isTrue e X.env (eval e X.env)) (TP X a b Q) X.xe s
def PW(X:Cx)(e:Ot)(t:TT):Prop:=
 ∀(b:Sem Value)(a:Oh)(s:Om)(c:St)(H:Hp)(Q:Bool->Hp->Prop),Inv X a c H s->t c H Q->wpAny (Px X) X.A (isTrue e X.env b) (TP X a c Q) X.xe s
def PW.pt(h:PW X e t):PT X e t:=h _
def PA(X:Cx)(es:Oq)(t:TA):Prop:=
 ∀(c:Pos)(a:Oh)(s:Om)(b:St)(H:Hp)(Q:List V->Hp->Prop),Inv X a b H s->t b H Q->wpAny (Px X) X.A (spliced (backTo c (starEach es X.env))) (AP X a b Q) X.xe s
def PS(X:Cx)(st:OY)(t:TS):Prop:=
 ∀(a:Oh)(s:Om)(b:St)(H:Hp)(D:Ends),Inv X a b H s->t D b H->wpAny (Px X) X.A (exec st X.env) (SP X a D) X.xe s
def PSs(X:Cx)(st:ON)(t:TS):Prop:=
 ∀(a:Oh)(s:Om)(b:St)(H:Hp)(D:Ends),Inv X a b H s->t D b H->wpAny (Px X) X.A (execs st X.env) (SP X a D) X.xe s
def thn{c:Type}{t:Sem c}{Q b:c->Shared->Prop}(h:wpAny M A t Q E s)(d:∀a s,Q a s->b a s):wpAny M A t b E s:=a0f h d λ_ _ x=>x
section
variable {X:Cx}
def UJ(i:Nat):TE:=λa H Q=>∃v,a[i]?=some (some v)/\Q v H
def tC(v:V):TE:=λ_ H Q=>Q v H
def Fo(y:X.N[i]?=some x)(t:Vis X.env.scope x)(j:(x==("__debug__":Str))=false:=by decide)(g:(x==("__classdict__":Str))=false:=by decide):PE X (.Name x pos) (UJ i):=by
 intro f s w H Q I h;obtain⟨v,e,h⟩:=h;obtain⟨m,p,q⟩:=I.loc;obtain⟨u,r,l⟩:=q i x v y e t;have b:EP X f w Q u s:=⟨v,H,I,r,h⟩;rcases l with⟨d,o⟩|⟨d,c,n,a⟩
 .exact wpAny_Name (wpAny_loadName_local I.ok.kind d p o b) j
 .rcases d with d|d
  .exact wpAny_Name (wpAny_loadName_cell I.ok.kind d n a b) j
  .exact wpAny_Name (wpAny_loadName_free I.ok.kind d n a b g) j
def Fp{i j pos}:PE X (.Constant (.int i) j pos) (tC (.int i)):=λ_ _ _ H _ I h=>wpAny_Constant_int ⟨.int i,H,I.tok _,⟨_,rfl⟩,h⟩
def jt{b j pos}:PE X (.Constant (.bool b) j pos) (tC (.bl b)):=λ_ _ _ H _ I h=>Constant_bool ⟨.bl b,H,I,rfl,h⟩
def b9{j pos}:PE X (.Constant .none j pos) (tC .non):=λ_ _ _ H _ I h=>Constant_none ⟨.non,H,I,rfl,h⟩
def Zi{x j pos}:PE X (.Constant (.str x) j pos) (tC (.str x)):=λ_ _ _ H _ I h=>Calls.Constant_str ⟨.str x,H,I.tok _,⟨_,rfl⟩,h⟩
def Gl(X:Cx)(x:Str):Prop:=X.env.kindOf x=some .globalImplicit
def Jm(I:Inv X pins σ H s)(a:Gl X x)(c:X.mg x=some u)(h:Q u s)
  (b:(x==("__debug__":Str))=false:=by decide):wpAny (Px X) X.A (eval (.Name x pos) X.env) Q E s:=
 a2S I.ok.kind a (Calls.loadGlobal_global (by rw[I.ok.glob];exact I.mod.glob.keeps I.bk) c h) b
def WS(I:Inv X pins σ H s)(c:Gl X x)(e:X.mg x=none)(a:bootBuiltins x=some u)(h:Q u s)
  (f:x≠"__name__":=by decide) (b:(x==("__debug__":Str))=false:=by decide):wpAny (Px X) X.A (eval (.Name x pos) X.env) Q E s:=by
 obtain⟨i,d,g⟩:=I.mod.blt;exact a2S I.ok.kind c (Calls.loadGlobal_builtin (by rw[I.ok.glob];exact I.mod.glob.keeps I.bk) e (by rw[I.ok.blt];exact d.keeps I.bk) ((g x f).trans a) h) b
def wB(c:Gl X x)(b:X.mg x=some u)(r:RelV v u)(a:(x==("__debug__":Str))=false:=by decide):PE X (.Name x pos) (tC v):=
 λ_ _ _ H _ I h=>Jm I c b ⟨v,H,I,r,h⟩ a
def nC(d:Gl X x)(c:X.mg x=none)(a:bootBuiltins x=some u)(r:RelV v u)(e:x≠"__name__":=by decide)(b:(x==("__debug__":Str))=false:=by decide):PE X (.Name x pos) (tC v):=
 λ_ _ _ H _ I h=>WS I d c a ⟨v,H,I,r,h⟩ e b
variable {a b:Ot}{ta tb:TE}{pos:Pos}
def Ww(b:Ot)(h:op≠.In)(e:op≠.NotIn):behindInMarks op b=false:=by
 have c:(op==CmpOp.In)=false:=by cases op<;>first|rfl|exact absurd rfl h
 have d:(op==CmpOp.NotIn)=false:=by cases op<;>first|rfl|exact absurd rfl e
 cases b<;>simp[behindInMarks,c,d]
def tB(t:TE):TT:=λe H Q=>t e H λx d=>∃c,x=.bl c/\Q c d
def Fq(h:PE X e t)(he:∀c,isTrue e X.env c=(do let v<-c;standAt e.pos;holding [v] (truthy v)):=by intro _;rfl):PT X e (tB t):=by intro f s i H Q I l;refine isTrue_plain (thn (h f s i H _ I l) λv o ⟨x,g,m,j,n⟩=>?_) (he _);obtain⟨d,rfl,q⟩:=n;cases j;exact a0Z ⟨g,m,q⟩
variable {tA tB':TT}{rest:Oq}
def Ny(t u:TT):TT:=λe H Q=>t e H λc d=>if c=true then u e d Q else Q false d
def tOr(t u:TT):TT:=λe H Q=>t e H λc d=>if c=true then Q true d else u e d Q
def Nz(t:TT):TT:=λe H Q=>t e H λc d=>Q (!c) d
def pw_and1(f:PT X a tA):PW X (.BoolOp .And [a] pos) tA:=by
 intro i d s g H Q I h;refine isTrue_and (thn (f d s g H Q I h) λc j e=>?_);cases c with
 |true=>exact isTrue_and_nil e
 |false=>exact e
def pw_or1(f:PT X a tA):PW X (.BoolOp .Or [a] pos) tA:=by
 intro i d s g H Q I h;refine isTrue_or (thn (f d s g H Q I h) λc j e=>?_);cases c with
 |false=>exact isTrue_or_nil e
 |true=>exact e
def pw_and(j:PT X a tA)(l:PW X (.BoolOp .And (b::rest) pos) tB'):PW X (.BoolOp .And (a::b::rest) pos) (Ny tA tB'):=by
 intro m d s f H Q I h;refine isTrue_and (thn (j d s f H _ I h) λc n ⟨e,g,i⟩=>?_);cases c with
 |true=>exact l m d n f e Q g i
 |false=>exact⟨e,g,i⟩
def pw_or(j:PT X a tA)(l:PW X (.BoolOp .Or (b::rest) pos) tB'):PW X (.BoolOp .Or (a::b::rest) pos) (tOr tA tB'):=by
 intro m d s f H Q I h;refine isTrue_or (thn (j d s f H _ I h) λc n ⟨e,g,i⟩=>?_);cases c with
 |true=>exact⟨e,g,i⟩
 |false=>exact l m d n f e Q g i
def Fs(e:PT X a tA):PT X (.UnaryOp .Not a pos) (Nz tA):=by intro d s g H Q I h;exact isTrue_not (e d s g H (λc f=>Q (!c) f) I h)
def Lh(ta tb:TE):TE:=λe H Q=>ta e H λx d=>∃c,x=.bl c/\if c=true then tb e d Q else Q (.bl false) d
def Ft{op}(h:PE X a t):PE X (.BoolOp op [a] pos) t:=λc s d H Q I e=>BoolOp_one (h c s d H Q I e)
def Fu(j:PE X a ta)(l:PE X (.BoolOp .And (b::rest) pos) tb):PE X (.BoolOp .And (a::b::rest) pos) (Lh ta tb):=by
 intro d s g H Q I h;refine BoolOp_and (thn (j d s g H _ I h) λv n ⟨x,f,i,m,e⟩=>?_);obtain⟨c,rfl,e⟩:=e;cases m;refine a0Z ?_;cases c with
 |true=>exact l d n g f Q i e
 |false=>exact⟨.bl false,f,i,rfl,e⟩
end
def SqL(K:OA)(H:Hp)(a:Addr)(xs:Ow):Prop:=
 Rd H a (.lst xs)\/
  ∃(o:Obj)(b:OJ)(n:Nat),K.lookup a=some o/\o.cls=.type "list"/\o.dict=none/\o.data=.seq b n/\b.size<=sizeLine/\Vals xs b.toList
def SqT(K:OA)(H:Hp)(a:Addr)(xs:Ow):Prop:=
 Rd H a (.tup xs)\/
  ∃(o:Obj)(b:OJ)(n:Nat),K.lookup a=some o/\o.cls=.type "tuple"/\o.data=.seq b n/\b.size<=sizeLine/\Vals xs b.toList
def NB:Value->Option V
 |.none=>some .non
 |.bool b=>some (.bl b)
 |.int i _=>some (.int i)
 |.str x _=>some (.str x)
 |.bytes b _=>some (.byt b)
 |.float b _=>some (.flt b)
 |.ref a=>some (.ref a)
 |.type n=>some (.ty n)
 |_=>none
def RelV.abs(r:RelV x u):NB u=some x:=by
 cases x with
 |non=>cases r;rfl
 |bl _=>cases r;rfl
 |int _=>obtain⟨t,rfl⟩:=r;rfl
 |str _=>obtain⟨t,rfl⟩:=r;rfl
 |byt _=>obtain⟨t,rfl⟩:=r;rfl
 |flt _=>obtain⟨t,rfl⟩:=r;rfl
 |ref _=>cases r;rfl
 |ty _=>cases r;rfl
def RelV.inj(r:RelV x u)(q:RelV y u):x=y:=a0e (r.abs.symm.trans q.abs)
def Vals.inj:∀{b c:Ow}{a:Oo},Vals b a->Vals c a->b=c
 |_,_,_,.nil,.nil=>rfl
 |_,_,_,.cons r t,.cons d e=>by rw[r.inj d,Vals.inj t e]
def SqL.of{K:OA}(h:H a=some (.lst xs)):SqL K H a xs:=.inl (.inl h)
def SqT.of{K:OA}(h:H a=some (.tup xs)):SqT K H a xs:=.inl (.inl h)
def Inv.list(I:Inv X pins σ H s)(h:SqL X.K H a xs):∃b:List Value,Vals xs b/\PlainL s.heap a b.toArray/\xs.length<=sizeLine:=by
 rcases h with h|⟨o,b,n,c,f,g,d,hz,r⟩
 .obtain⟨z,b,n,r,e⟩:=h.ok I.hok;exact⟨b,r,⟨_,n,e,rfl,rfl,rfl⟩,z⟩
 .refine⟨b.toList,r,⟨o,n,I.kIn a o c,f,g,by simpa using d⟩,?_⟩;have e:=r.length;simp only[Array.length_toList]at e;omega
def Inv.tuple(I:Inv X pins σ H s)(h:SqT X.K H a xs):∃b:List Value,Vals xs b/\IsTup s.heap a b.toArray/\xs.length<=sizeLine:=by
 rcases h with h|⟨o,b,n,c,f,d,hz,r⟩
 .obtain⟨z,b,r,p⟩:=h.ok I.hok;exact⟨b,r,p,z⟩
 .refine⟨b.toList,r,⟨o,I.kIn a o c,f,n,by simpa using d⟩,?_⟩;have e:=r.length;simp only[Array.length_toList]at e;omega
def Inv.uu(I:Inv X pins σ H s)(h:SqL X.K H a xs)(h':SqL X.K H a ys):xs=ys:=by
 obtain⟨c,r,⟨o,n,e,_,_,d⟩,_⟩:=I.list h;obtain⟨b,i,⟨l,j,g,_,_,f⟩,_⟩:=I.list h';rw[e]at g;cases g;rw[d]at f;injection f with d1 _
 have:c=b:=by simpa using R9 Array.toList d1
 subst this;exact r.inj i
def Inv.b_(I:Inv X pins σ H s)(h:SqT X.K H a xs)(h':SqT X.K H a ys):xs=ys:=by
 obtain⟨c,r,⟨o,e,_,n,d⟩,_⟩:=I.tuple h;obtain⟨b,i,⟨l,g,_,j,f⟩,_⟩:=I.tuple h';rw[e]at g;cases g;rw[d]at f;injection f with d1 _
 have:c=b:=by simpa using R9 Array.toList d1
 subst this;exact r.inj i
abbrev Cx.V7(X:Cx)(E:Of):Cx:={ X with xe:=E }
abbrev Cx.nox(X:Cx):Cx:=X.V7 λ_ _=>False
def Cx.Ok.V7{X:Cx}(ok:X.Ok)(E:Of):(X.V7 E).Ok:=
 ⟨ok.mod,ok.kind,ok.glob,ok.blt,ok.above,ok.inj,ok.has,ok.cab,ok.hd,ok.frames,ok.stk,ok.exf,ok.bs,ok.bsz,ok.Ff,ok.Fg,ok.eT,ok.frf⟩
def Cx.Ok.qX{X:Cx}{E:Of}(ok:(X.V7 E).Ok):X.Ok:=
 ⟨ok.mod,ok.kind,ok.glob,ok.blt,ok.above,ok.inj,ok.has,ok.cab,ok.hd,ok.frames,ok.stk,ok.exf,ok.bs,ok.bsz,ok.Ff,ok.Fg,ok.eT,ok.frf⟩
def Inv.V7(I:Inv X pins σ H s)(E:Of):Inv (X.V7 E) pins σ H s:=⟨I.ok.V7 E,I.os,I.bare,I.base,I.loc,I.cell,I.free,I.QA,I.pin,I.hok,I.len,I.tk⟩
def Inv.qX(I:Inv (X.V7 E) pins σ H s):Inv X pins σ H s:=⟨I.ok.qX,I.os,I.bare,I.base,I.loc,I.cell,I.free,I.QA,I.pin,I.hok,I.len,I.tk⟩
def SP.qX(h:SP (X.V7 E) pins D f s'):SP X pins D f s':=by
 cases f with
 |next=>obtain⟨a,b,I,q⟩:=h;exact⟨a,b,I.qX,q⟩
 |brk=>obtain⟨a,b,I,q⟩:=h;exact⟨a,b,I.qX,q⟩
 |cont=>obtain⟨a,b,I,q⟩:=h;exact⟨a,b,I.qX,q⟩
 |ret u=>obtain⟨v,a,b,I,r,q⟩:=h;exact⟨v,a,b,I.qX,r,q⟩
section
variable {X:Cx}{st:OY}{rest:ON}{t u:TS}{e:Ot}{te:TE}{pos:Pos}
def Li:TS:=λD a H=>D.nx a H
def Lj(t u:TS):TS:=λD a H=>t { D with nx:=u D } a H
def nD:PSs X [] Li:=λ_ _ a H _ I h=>a1I ⟨a,H,I,h⟩
def Wx(g:PS X st t)(l:PSs X rest u):PSs X (st::rest) (Lj t u):=by
 intro a s c H D I h;refine a2n (thn (g a s c H { D with nx:=u D } I h) λf i q=>?_);cases f with
 |next=>obtain⟨b,d,j,q⟩:=q;exact l a i b d D j q
 |ret v=>exact q
 |brk=>exact q
 |cont=>exact q
def Yp(c:PS X st t):PSs X [st] t:=by
 intro a s b H D I h;refine a2n (thn (c a s b H D I h) λf d q=>?_);cases f with
 |next=>exact a1I q
 |ret v=>exact q
 |brk=>exact q
 |cont=>exact q
def Inv.quiet(I:Inv X pins σ H s):interactive X.env=false:=by simp[interactive,I.ok.kind]
def Lk(te:TE):TS:=λD a H=>te a H λ_ b=>D.nx a b
def K5(he:PE X e te)(c:swapsWith e none pos.line X.env=pure false:=by rfl):PS X (.Expr e pos) (Lk te):=by intro a s b H D I h;exact wpAny_Expr_any (thn (he a s b H _ I h) λv j ⟨x,d,f,i,g⟩=>⟨b,d,f,g⟩) I.quiet c
def NC(te:TE):TS:=λD a H=>te a H D.rt
def gO(he:PE X e te):PS X (.Return (some e) pos) (NC te):=by intro a s b H D I h;exact wpAny_Return_some (thn (he a s b H _ I h) λv i ⟨x,c,f,d,g⟩=>⟨x,b,c,f,d,g⟩)
def ND(c:TT)(t u:TS):TS:=λD a H=>c a H λb d=>if b=true then t D a d else u D a d
def Fv(o:PT X c tc)(n:PSs X a t)(p:PSs X b u):PS X (.If c a b pos) (ND tc t u):=by
 intro f s g H D I h;refine wpAny_If (thn (o f s g H _ I h) λd m ⟨i,j,l⟩=>?_);cases d with
 |true=>exact n f m g i D j l
 |false=>exact p f m g i D j l
end
abbrev TG:=V->St->Hp->(St->Hp->Prop)->Prop
abbrev TGs:=List V->St->Hp->(St->Hp->Prop)->Prop
def PG(X:Cx)(a:Ot)(t:TG):Prop:=
 ∀(b:Oh)(s:Om)(d:St)(H:Hp)(v:V)(u:Value)(Q:St->Hp->Prop),Inv X b d H s->RelV v u->t v d H Q->
  wpAny (Px X) X.A (assign a X.env u) (λ_ f=>∃c e,Inv X b c e f/\Q c e) X.xe s
def PGs(X:Cx)(ts:Oq)(t:TGs):Prop:=
 ∀(a:Oh)(s:Om)(c:St)(H:Hp)(f:Ow)(e:Oo)(Q:St->Hp->Prop),Inv X a c H s->Vals f e->t f c H Q->
  wpAny (Px X) X.A (assignInOrder ((assignEach ts X.env).map (·.2)) e) (λ_ g=>∃b d,Inv X a b d g/\Q b d) X.xe s
abbrev MR:=V->V->V->Hp->(Hp->Prop)->Prop
def MU(X:Cx)(t:MR):Prop:=
 ∀(a:Oh)(s:Om)(b:St)(H:Hp)(o i v:V)(d e u:Value)(Q:Hp->Prop),Inv X a b H s->RelV o d->RelV i e->RelV v u->t o i v H Q->
  wpAny (Px X) X.A (setItem d e u) (λ_ f=>∃c,Inv X a b c f/\Q c) X.xe s
section
variable {X:Cx}{pos:Pos}
def aw(i:Nat):TG:=λv a H Q=>Q (a.set i (some v)) H
def nE(d:X.N.Nodup)(c:X.N[i]?=some x)(e:Loc X.env.scope x)(hf:X.fn x=true\/X.env.scope.names.lookup x=some .local:=by first|exact .inl rfl|exact .inr rfl|assumption):PG X (.Name x pos) (aw i):=by intro a s f H v u Q I r h;exact wpAny_assign_Name (au I d c e r (λg b=>⟨_,H,b,h⟩) hf)
def NF:TGs:=λa b H Q=>a=[]/\Q b H
def Lm(t:TG)(u:TGs):TGs:=λd b H Q=>∃v r,d=v::r/\t v b H λa c=>u r a c Q
def Ck:PGs X [] NF:=by intro a s b H d c Q I r h;obtain⟨e,h⟩:=h;subst e;cases r;exact assignInOrder_nil ⟨b,H,I,h⟩
def uv(i:PG X e t)(n:PGs X es u)
  (o:(assignEach (e::es) X.env).map (·.2)=assign e X.env::(assignEach es X.env).map (·.2):=by rfl):PGs X (e::es) (Lm t u):=by
 intro a s l H w q Q I r h;obtain⟨v,p,m,h⟩:=h;subst m;cases r with
 |cons r c=>rw[o];exact assignInOrder_cons (thn (i a s l H _ _ _ I r h) λ_ d ⟨b,f,g,j⟩=>(n a d b f _ _ Q g c j))
def NG(K:OA)(n:Nat)(t:TGs):TG:=λv c H Q=>∃a b,v=.ref a/\SqT K H a b/\b.length=n/\t b c H Q
def Fx(l:X.calm=true)(h:PGs X es t)
  (j:(assignEach es X.env).length=n:=by rfl) (f:(assignEach es X.env).findIdx? (·.1)=none:=by rfl):PG X (.Tuple es k pos) (NG X.K n t):=by
 intro c s g H v u Q I r d;obtain⟨a,p,A,B,x,d⟩:=d;subst A;cases r;obtain⟨z,i,q,hz⟩:=I.tuple B;refine assign_Tuple_tuple (I.ok.hd l) q (by simp[j,<- x,i.length]) f λy w=>?_;have m:=I.kept λb o e=>w b o (P1 (O8 e)) e;exact h c _ g H p _ Q m (by omega) d
def NH(e f:TE)(t:MR):TG:=λv a H Q=>e a H λo b=>f a b λi d=>t o i v d λc=>Q a c
def Fy(D:PE X o to)(q:PE X i ti)(A:MU X t)
  (e:∀v,assign (.Subscript o i pos) X.env v=(do
   let b<-holding [v] (eval o X.env)
   let c<-holding [v,b] (eval i X.env)
   standAt pos
   holding [v,b,c] (setItem b c v)
   release [v,b,c] []):=by intro _;rfl):PG X (.Subscript o i pos) (NH to ti t):=by
 intro a s d H v u Q I r h;refine f8 (W1 (thn (D a s d H _ I h) λb j ⟨x,l,n,m,p⟩=>?_));refine f8 (W1 (thn (q a j d l _ n p) λc s2 ⟨y,g,w,z,C⟩=>?_));exact f8 (a1G (f8 (W1 (thn (A a s2 d g x y v b c u _ w m z r C) λ_ F ⟨B,f,E⟩=>(wpAny_release ⟨d,B,f,E⟩)))))
def AY(b:TE)(g:TG):TS:=λD a H=>b a H λx c=>g x a c D.nx
def AZ(he:PE X e te)(f:PG X tg g)(o:swapsWithSole [tg] e pos.line X.env=pure false:=by rfl)(c:swappedStores [tg] e X.env=pure none:=by rfl)
  (m:(assignEach [tg] X.env).map (·.2)=[assign tg X.env]:=by rfl):PS X (.Assign [tg] e pos) (AY te g):=by
 intro a s b H D I h;refine wpAny_Assign_stores (thn (he a s b H _ I h) λv d ⟨x,i,l,j,n⟩=>?_) o c;rw[m];exact thn (f a d b i x v _ l j n) λ_ s2 q=>q
def gQ(o:X.N.Nodup)(l:X.N[i]?=some x)(g:Loc X.env.scope x)(he:PE X e te)(n:swapsWith e (some (.Name x pos')) pos.line X.env=pure false:=by rfl)(hf:X.fn x=true\/X.env.scope.names.lookup x=some .local:=by first|exact .inl rfl|exact .inr rfl|assumption):
  PS X (.Assign [.Name x pos'] e pos) (AY te (aw i)):=by
 intro a s j H D I h;exact wpAny_Assign_Name (thn (he a s j H _ I h) λv p ⟨y,b,d,c,f⟩=>(au d o l g c (λs2 m=>⟨_,b,m,f⟩) hf)) n
end
structure It where
 go:Nat->Hp->Prop
 yld:Nat->Hp->V->Hp->Prop
 stop:Nat->Hp->Prop
def ua(X:Cx)(pins:Oh)(H:Hp)(b:Addr):Prop:=
 H b=none/\b≠X.env.locals/\b∉X.fs/\(b∈X.ex\/X.s₀.heap.objs.size<=b)/\(∀x c,X.env.cells.lookup x=some c->c≠b)/\∀p∈X.pn++pins,p.1≠b
def Inv.E5(I:Inv X pins σ H s)(a:s.heap.objs.size<=b)(d:H' b=none):ua X pins H' b:=by
 refine⟨d,a0B (R8 I.lt a),I.Lg a,.inr (P8 I.sz a),λx c e z=>?_,λp hp z=>?_⟩
 .obtain⟨v,q⟩:=I.cell x c e;exact absurd (R8 q.lt (by grind)) (a0V _)
 .exact absurd (R8 (O8 (I.pin p hp).1) (by grind)) (a0V _)
structure Turn(P:Ox)(w:OE)(K:OA)(tg:Ot)(J:It)(fp:OX)(it:Addr)(tn:Nat->Heap->Prop):Prop where
 mem:it∈fp
 obj:∀i h,tn i h->∀b∈fp,∃o,h.get? b=some o/\∀v,o.data≠.cell v
 keep:∀i h h',tn i h->(∀b∈fp,∀o,h.get? b=some o->h'.get? b=some o)->tn i h'
 item:∀(X:Cx),X.prog=P->X.w=w->X.K=K->X.calm=true->∀(i:Nat)(pins:Oh)(s:Om)(σ:St)(H:Hp)(E:Of),Inv X pins σ H s->(∀b∈fp,ua X pins H b)->tn i s.heap->J.go i H->
  wpAny (model P w) X.A (pyNext (.ref it)) (λr s1=>∃u,r=some u/\
   wpAny (model P w) X.A (letOwnedTupleGo tg (.ref it) u) (λ_ s2=>∃x H',Inv X pins σ H' s2/\RelV x u/\J.yld i H x H'/\tn (i+1) s2.heap/\∀b∈fp,H' b=none) E s1) E s
 done:∀(X:Cx),X.prog=P->X.w=w->X.K=K->X.calm=true->∀(i:Nat)(pins:Oh)(s:Om)(σ:St)(H:Hp)(E:Of),Inv X pins σ H s->(∀b∈fp,ua X pins H b)->tn i s.heap->J.stop i H->
  wpAny (model P w) X.A (pyNext (.ref it)) (λr s1=>r=none/\Inv X pins σ H s1) E s
 self:∀(A:OG)(i:Nat)(s:Om)(Q:Of)(E:Of),tn i s.heap->Q (.ref it) s->wpAny (model P w) A (pyIter (.ref it)) Q E s
abbrev TI:=St->Hp->(It->Hp->Prop)->Prop
def PIE(X:Cx)(pins:Oh)(σ:St)(tg:Ot)(R:It->Hp->Prop)(a:Value)(s2:Om):Prop:=
 ∃(f:Addr)(d:OX)(e:Nat->Heap->Prop)(J:It)(c:Hp),a=.ref f/\Inv X pins σ c s2/\Turn X.prog X.w X.K tg J d f e/\e 0 s2.heap/\(∀b∈d,ua X pins c b)/\R J c
def PI(X:Cx)(tg c:Ot)(e:TI):Prop:=
 ∀(a:Oh)(s:Om)(b:St)(H:Hp)(R:It->Hp->Prop),Inv X a b H s->e b H R->
  wpAny (Px X) X.A (eval c X.env) (λv d=>wpAny (Px X) X.A (pyIter v) (PIE X a b tg R) X.xe d) X.xe s
def ux(d:s.heap.get? it=some o)(b:o.cls=.type n)(c:o.data=.fields vs)
    (e:["enumerate","zip","dict_itemiterator","dict_reverseitemiterator","odict_iterator","itertools.zip_longest","itertools.pairwise"].contains n=false) (a:Q () s):wpAny M A (letOwnedTupleGo tg (.ref it) u) Q E s:=by
  cases tg<;>first
    |exact v4 a
    | (cases u<;>first
        |exact v4 a
        | (refine f8 (a21 d ?_)
           rw[b,c];show wpAny M A (if(["enumerate","zip","dict_itemiterator","dict_reverseitemiterator","odict_iterator","itertools.zip_longest","itertools.pairwise"].contains n&&vs[0]?==some (rawInt _))=true then _ else _) Q E s;rw[if_neg (by grind)];exact v4 a))
def Itl(K:OA)(a:Addr):It:=
 ⟨λi H=>∃b x,SqL K H a b/\b[i]?=some x,λi H x c=>c=H/\∀b,SqL K H a b->b[i]?=some x,λi H=>∃b,SqL K H a b/\b.length<=i⟩
def Itt(K:OA)(a:Addr):It:=
 ⟨λi H=>∃b x,SqT K H a b/\b[i]?=some x,λi H x c=>c=H/\∀b,SqT K H a b->b[i]?=some x,λi H=>∃b,SqT K H a b/\b.length<=i⟩
def Itr(a:Int)(n:Nat):It:=⟨λi _=>i<n,λi H x b=>b=H/\x=.int (a+i),λi _=>n<=i⟩
def nF{P:Ox}{w:OE}{K:OA}{tg:Ot}(a j:Addr):Turn P w K tg (Itl K a) [j] j (λi h=>h.IsListIter j a i)where
 mem:=by simp
 obj:=λi h f b l=>by
  have e:b=j:=by simpa using l
  subst e;obtain⟨o,e,c,d⟩:=f;exact⟨o,e,λv z=>by rw[d]at z;cases z⟩
 keep:=λi h n f k=>f.at λo e=>k j (by simp) o e
 item:=by intro X hP r L M i g s N H E I hf f t;subst hP r L;obtain⟨T,x,q,C⟩:=t;obtain⟨D,F,p,hz⟩:=I.list q;obtain⟨u,R,O⟩:=F.get C;obtain⟨G,B,Q,A,y,J⟩:=hf j (by simp);refine wpAny_pyNext_list_item f p.isList (x:=u) (by grind) λn m U=>?_;have S:=I.turned (λb o l e=>(U.2 b l).trans e) G B A y J;obtain⟨o,e,c,d⟩:=id m;exact⟨u,rfl,ux e c d (by decide) ⟨x,H,S,O,⟨rfl,λZ W=>by rw[I.uu W q];exact C⟩,m,λb l=>(hf b l).1⟩⟩
 done:=by intro X hP r L M i g s N H E I hf f t;subst hP r L;obtain⟨T,q,C⟩:=t;obtain⟨D,F,p,hz⟩:=I.list q;obtain⟨G,B,Q,A,y,J⟩:=hf j (by simp);have hl:=F.length;exact wpAny_pyNext_list_end (I.ok.hd M) f p.isList (by simp;omega) λn Y=>⟨rfl,I.turned (λb o l e=>Y b o l e) G B A y J⟩
 self:=λ_ _ _ _ _ f h=>wpAny_pyIter_listiter f h
def lM{P:Ox}{w:OE}{K:OA}{tg:Ot}(a l:Addr):Turn P w K tg (Itt K a) [l] l (λi h=>h.IsTupleIter l a i)where
 mem:=by simp
 obj:=λi h f b m=>by
  have e:b=l:=by simpa using m
  subst e;obtain⟨o,e,c,d⟩:=f;exact⟨o,e,λv z=>by rw[d]at z;cases z⟩
 keep:=λi h q f k=>f.at λo e=>k l (by simp) o e
 item:=by intro X hP t L M i g s N H E I hf f y;subst hP t L;obtain⟨T,x,r,D⟩:=y;obtain⟨j,F,p,hz⟩:=I.tuple r;obtain⟨u,R,O⟩:=F.get D;obtain⟨G,C,Q,B,A,J⟩:=hf l (by simp);refine wpAny_pyNext_tuple_item f p (x:=u) (by grind) λq n U=>?_;have S:=I.turned (λb o m e=>(U.2 b m).trans e) G C B A J;obtain⟨o,e,c,d⟩:=id n;exact⟨u,rfl,ux e c d (by decide) ⟨x,H,S,O,⟨rfl,λZ W=>by rw[I.b_ W r];exact D⟩,n,λb m=>(hf b m).1⟩⟩
 done:=by intro X hP t L M i g s N H E I hf f y;subst hP t L;obtain⟨T,r,D⟩:=y;obtain⟨j,F,p,hz⟩:=I.tuple r;obtain⟨G,C,Q,B,A,J⟩:=hf l (by simp);have hl:=F.length;exact wpAny_pyNext_tuple_end (I.ok.hd M) f p (by simp;omega) λq Y=>⟨rfl,I.turned (λb o m e=>Y b o m e) G C B A J⟩
 self:=λ_ _ _ _ _ f h=>wpAny_pyIter_tupleiter f h
def lN{P:Ox}{w:OE}{K:OA}{tg:Ot}(c:Addr)(j:Int)(n:Nat):Turn P w K tg (Itr j n) [c] c (λi h=>IsRangeIter h c (j+(i:Nat)*1) ((n:Int)-(i:Nat)) 1)where
 mem:=by simp
 obj:=λi h a b f=>by
  have e:b=c:=by simpa using f
  subst e;exact⟨_,a,λv z=>by
   have J:=z;cases J⟩
 keep:=λi h l a k=>k c (by simp) _ a
 item:=by
  intro X hP m B u i d s C H E I hf a p;subst hP m B;obtain⟨y,x,D,r,q,A⟩:=hf c (by simp);have W:=Walks.range (prog:=X.prog) (w:=X.w) (I.ok.hd u) c j 1 n;refine a0g I.tk<|W.item i s _ _ p a λv l tk G g kk M=>?_
  obtain⟨t,rfl⟩:=G;have F:=I.turned (λb o f e=>kk b o (by grind) e) y x r q A;refine⟨_,rfl,ux g rfl rfl (by decide) ⟨.int (j+i),H,F,⟨t,?_⟩,⟨rfl,rfl⟩,g,λb f=>(hf b f).1⟩⟩;rw[Int.mul_one]
 done:=by intro X hP m B u i d s C H E I hf a p;obtain⟨y,x,D,r,q,A⟩:=hf c (by simp);exact wpAny_pyNext_range_end (I.ok.hd u) a (by have:n<=i:=p;omega) λl L=>⟨rfl,I.turned (λb o f e=>L b o f e) y x r q A⟩
 self:=λ_ _ _ _ _ a h=>wpAny_pyIter_rangeiter a h
section
variable {X:Cx}{tg:Ot}
def gR{pins:Oh}{σ:St}{H:Hp}{s:Om}{R:It->Hp->Prop}{E:Of}{a c:Int}{t u v:Tok}{tk:Nat}(I:Inv X pins σ H s)(j:-(2 ^ 62)<=a)(m:a<2 ^ 62)(g:-(2 ^ 62)<=c)(l:c<2 ^ 62)
  (q:R (Itr a (c-a).toNat) H) (n:X.m<=tk:=by ac_rfl):wpAny (Px X) X.A (pyIter (.ref s.heap.objs.size)) (PIE X pins σ tg R) E { s with heap:=s.heap.push { cls:=.type "range",data:=.fields #[.int a t,.int c u,.int 1 v] },toks:=tk }:=by
 refine wpAny_pyIter_range (IsRange.new ..) (small_one j m g l) ?_;have d:Inv X pins σ H { s with heap:=s.heap.push { cls:=.type "range",data:=.fields #[.int a t,.int c u,.int 1 v] },toks:=tk }:=I.kept λb o e=>O0 _ e;refine⟨(s.heap.push { cls:=.type "range",data:=.fields #[.int a t,.int c u,.int 1 v] }).objs.size,[(s.heap.push { cls:=.type "range",data:=.fields #[.int a t,.int c u,.int 1 v] }).objs.size],_,_,H,rfl,
  d.kept λb o e=>O0 _ e,lN _ a (c-a).toNat,?_,λb h=>?_,q⟩
 .have i:a+((0:Nat):Int)*1=a:=by simp
  have f:(((c-a).toNat:Nat):Int)-((0:Nat):Int)=Builtin.Range.rangeSize a c 1:=by rw[rangeSize_one];split<;>omega
  rw[i,f];exact P9 _ rfl
 .have e:b=(s.heap.push { cls:=.type "range",data:=.fields #[.int a t,.int c u,.int 1 v] }).objs.size:=by simpa using h
  subst e;exact d.E5 (O2 _) (d.hok.fresh (O2 _))
def Ln(a:TA):TI:=λc H R=>a c H λd b=>∃j:Int,d=[.int j]/\-(2 ^ 62)<=j/\j<2 ^ 62/\R (Itr 0 j.toNat) b
def Lo(a:TA):TI:=λc H R=>a c H λd b=>∃i j:Int,d=[.int i,.int j]/\(-(2 ^ 62)<=i/\i<2 ^ 62/\-(2 ^ 62)<=j/\j<2 ^ 62)/\R (Itr i (j-i).toNat) b
def nG(i:Gl X "range")(g:X.mg "range"=none)(f:PA X [a] ta)(o:starEach [a] X.env=[(false,eval a X.env)]:=by rfl):PI X tg (.Call (.Name "range" p) [a] [] pos) (Ln ta):=by
 intro b s n H R I h;refine Call_ (WS I i g boot_range (a1l (thn (f pos b s n H _ I h) λv w ⟨y,x,m,l,c⟩=>?_) o rfl));obtain⟨j,e,c,u,q⟩:=c;subst e;cases l with
 |cons r d=>cases d;obtain⟨t,rfl⟩:=r;exact call_range_1 (gR m (by omega) (by omega) c u (by grind))
def nH(o:Gl X "range")(n:X.mg "range"=none)(l:PA X [a,b] ta)(y:starEach [a,b] X.env=[(false,eval a X.env),(false,eval b X.env)]:=by rfl)(c:starEach [b] X.env=[(false,eval b X.env)]:=by rfl):
  PI X tg (.Call (.Name "range" p) [a,b] [] pos) (Lo ta):=by
 intro d s w H R I h;refine Call_ (WS I o n boot_range (a1l (thn (l pos d s w H _ I h) λB C ⟨F,D,v,u,g⟩=>?_) (by rw[y,c]) (by rw[c];rfl)));obtain⟨i,j,e,⟨g,z,A,m⟩,q⟩:=g;subst e;cases u with
 |cons r f=>
  cases f with
  |cons x f=>cases f;obtain⟨t,rfl⟩:=r;obtain⟨E,rfl⟩:=x;exact call_range_2 (gR v g z A m q)
def Fz(l:TI)(g:TG)(h:TS):TS:=λD a H=>l a H λJ f=>∃W:Nat->Nat->St->Hp->Prop,(∃m,W 0 m a f)/\∀i m a H,W i m a H->
 (J.stop i H/\D.nx a H)\/(J.go i H/\∃N:St->Hp->Prop,(∀b c,N b c->∃e,e<m/\W (i+1) e b c)/\∀x c,J.yld i H x c->g x a c λd j=>h { D with nx:=N,ct:=N,bk:=D.nx } d j)
def cb(a:OX)(h:Heap):List (Addr×Obj):=a.filterMap λb=>(h.get? b).map λo=>(b,o)
def Qq(a:b∈fp)(e:h.get? b=some o):(b,o)∈cb fp h:=a4k.mpr ⟨b,a,by rw[e];rfl⟩
def nJ(hp:p∈cb fp h):p.1∈fp/\h.get? p.1=some p.2:=by
 obtain⟨b,a,e⟩:=a4k.mp hp;cases q:h.get? b with
 |none=>rw[q]at e;cases e
 |some o=>rw[q]at e;have c:=a0e e;subst c;exact⟨a,q⟩
def Inv.pinned(I:Inv X pins σ H s)(hf:∀b∈fp,ua X pins H b)(g:∀b∈fp,∃o,s.heap.get? b=some o/\∀v,o.data≠.cell v):Inv X (pins++cb fp s.heap) σ H s:=
 I.K4 λp hp=>(a0q.mp hp).elim (λz=>I.pin p (R4 _ z)) λz=>by obtain⟨a,e⟩:=nJ z;obtain⟨i,f,h,_⟩:=hf p.1 a;obtain⟨o,c,d⟩:=g p.1 a;rw[e]at c;cases c;exact⟨e,i,f,h,d⟩
def Inv.jL(I:Inv X (pins++pl) σ H s):Inv X pins σ H s:=I.K4 λp hp=>I.pin p (R4 _ (a0A _ hp))
def gS(hp:PassesOwn (Px X) X.A X.env X.xe)(hc:X.calm=true)(hi:PI X tg qd wi)(hg:PG X tg g)(l:PSs X body tb)
  (hs:∀x,foldedSetIterable qd X.env x=pure x:=by intro _;rfl):PS X (.For tg qd body [] pos) (Fz wi g tb):=by
 intro c s Z H D I h;refine wpAny_For (thn (hi c s Z H _ I h) λv s1 h1=>thn h1 λitv s2 h2=>?_) hs;obtain⟨it,E,tn,J,H2,e,I2,T,Q,f2,W,⟨m0,w0⟩,C⟩:=h2;subst e
 -- what stays true of the iterator's objects through the loop
 have p:∀{z:Hp},(∀b∈E,z b=none)->∀b∈E,ua X c z b:=λhn b l=>⟨hn b l,(f2 b l).2⟩;refine codeAny_forLoop_any (λn s'=>∃i q z,Inv X c q z s'/\tn i s'.heap/\(∀b∈E,z b=none)/\W i n q z) ?_ m0 ⟨0,Z,H2,I2,Q,λb l=>(f2 b l).1,w0⟩
 rintro n Y ⟨i,t,M,I3,L,F,w3⟩
 rcases C i n t M w3 with⟨K,qn⟩|⟨go,N,hN,step⟩
 .refine a12 hp (thn (T.done X rfl rfl rfl hc i c Y t M X.xe I3 (p F) L K) λr s4 ⟨S,I4⟩=>?_);subst S;exact a1I ⟨t,M,I4,qn⟩
 .refine a12 hp (thn (T.item X rfl rfl rfl hc i c Y t M X.xe I3 (p F) L go) λr s4 ⟨u,S,h4⟩=>?_);subst S;refine a12 hp (thn h4 λ_ s5 ⟨x,H5,I5,r5,y5,B,R⟩=>?_);have P:=I5.pinned (p R) (T.obj _ _ B);refine a12 hp (thn (hg _ s5 t H5 x u _ P r5 (step x H5 y5)) λ_ s6 ⟨O,H6,I6,q6⟩=>?_);refine a12 hp (thn (l _ s6 O H6 _ I6 q6) λf U A=>?_);have y:∀{a:St}{j:Hp},Inv X (c++cb E s5.heap) a j U->N a j->∃m,m<n/\∃i q z,Inv X c q z U/\tn i U.heap/\(∀b∈E,z b=none)/\W i m q z:=λ{a j} w G=>by obtain⟨m',hm,w7⟩:=hN a j G;refine⟨m',hm,i+1,a,j,w.jL,T.keep _ _ _ B λb l o e=>(w.pin (b,o) (R4 _ (R4 _ (Qq l e)))).1,λb l=>?_,w7⟩;obtain⟨o,e,d⟩:=T.obj _ _ B b l;exact(w.pin (b,o) (R4 _ (R4 _ (Qq l e)))).2.1
  cases f with
  |next=>obtain⟨a,j,w,G⟩:=A;exact y w G
  |cont=>obtain⟨a,j,w,G⟩:=A;exact y w G
  |brk=>obtain⟨a,j,w,A⟩:=A;exact⟨a,j,w.jL,A⟩
  |ret v=>obtain⟨x7,a,j,w,r7,A⟩:=A;exact⟨x7,a,j,w.jL,r7,A⟩
end
abbrev R2:=V->V->Hp->VK->Prop
def OpR(X:Cx)(f:Value->Value->Sem Value)(r:R2):Prop:=
 ∀(a:Oh)(s:Om)(b:St)(H:Hp)(x y:V)(v u:Value)(Q:VK),Inv X a b H s->RelV x v->RelV y u->r x y H Q->
  wpAny (Px X) X.A (f v u) (EP X a b Q) X.xe s
def UnR(X:Cx)(f:Value->Sem Value)(r:V->Hp->VK->Prop):Prop:=
 ∀(a:Oh)(s:Om)(b:St)(H:Hp)(x:V)(v:Value)(Q:VK),Inv X a b H s->RelV x v->r x H Q->
  wpAny (Px X) X.A (f v) (EP X a b Q) X.xe s
def jR(X:Cx)(f:Value)(r:List V->Hp->VK->Prop):Prop:=
 ∀(a:Oh)(s:Om)(b:St)(H:Hp)(d:Ow)(c:Oo)(Q:VK),Inv X a b H s->Vals d c->r d H Q->
  wpAny (Px X) X.A (call f c) (EP X a b Q) X.xe s
def tOp(r:R2)(b d:TE):TE:=λa H Q=>b a H λx c=>d a c λy e=>r x y e Q
def tUn(r:V->Hp->VK->Prop)(a:TE):TE:=λc H Q=>a c H λx b=>r x b Q
def rI(C:Int->Int->Prop)(g:Int->Int->V):R2:=λx y H Q=>∃i j,x=.int i/\y=.int j/\C i j/\Q (g i j) H
def rI0(g:Int->Int->V):R2:=λx y H Q=>∃i j,x=.int i/\y=.int j/\Q (g i j) H
def rU(g:Int->V):V->Hp->VK->Prop:=λx H Q=>∃i,x=.int i/\Q (g i) H
section
variable {X:Cx}{a b:Ot}{ta tb:TE}{pos:Pos}
def Lp(l:PE X a ta)(o:PE X b tb){pins:Oh}{s:Om}{σ:St}{H:Hp}{R:V->V->Hp->Prop}(I:Inv X pins σ H s)
  (h:ta σ H λx i=>tb σ i λy d=>R x y d) {Q:Of}{f:Value->Value->Sem Value}
  (hf:∀v u s2 x y d,Inv X pins σ d s2->RelV x v->RelV y u->R x y d->wpAny (Px X) X.A (f v u) Q X.xe s2):
  wpAny (Px X) X.A (eval a X.env) (λv g=>wpAny (Px X) X.A (eval b X.env) (λu e=>wpAny (Px X) X.A (f v u) Q X.xe e) X.xe g) X.xe s:=by
 refine thn (l pins s σ H _ I h) λv t ⟨x,i,q,p,r⟩=>?_;exact thn (o pins t σ i _ q r) λu s2 ⟨y,d,j,m,n⟩=>(hf v u s2 x y d j p m n)
def Lr(n:OpR X (binaryOp op) r)(e:PE X a ta)(m:PE X b tb):PE X (.BinOp a op b pos) (tOp r ta tb):=by intro d s j H Q I h;exact wpAny_BinOp (Lp e m I h λv u s2 x y f l i g q=>n d s2 j f x y v u Q l i g q)
def Ls(l:UnR X (unaryOp op) r)(f:PE X a ta):PE X (.UnaryOp op a pos) (tUn r ta):=by intro d s e H Q I h;exact UnaryOp_ (thn (f d s e H _ I h) λv n ⟨x,g,j,i,m⟩=>l d n e g x v Q j i m)
def opI{f:Value->Value->Sem Value}{C:Int->Int->Prop}{g:Int->Int->Int}
  (d:∀(i j:Int)(t u:Tok)(s:Om)(Q:Of)(E:Of),C i j->Q (.int (g i j) s.toks) { s with toks:=s.toks+1 }->wpAny (Px X) X.A (f (.int i t) (.int j u)) Q E s):
  OpR X f (rI C λi j=>.int (g i j)):=by
 intro e s p H x y v u Q I n m h;obtain⟨i,j,rfl,rfl,l,q⟩:=h;obtain⟨t,rfl⟩:=n;obtain⟨o,rfl⟩:=m;exact d i j t o s _ _ l ⟨.int (g i j),H,I.tok _,⟨_,rfl⟩,q⟩
def MV{f:Value->Value->Sem Value}{g:Int->Int->Int}
  (d:∀(i j:Int)(t u:Tok)(s:Om)(Q:Of)(E:Of),Q (.int (g i j) s.toks) { s with toks:=s.toks+1 }->wpAny (Px X) X.A (f (.int i t) (.int j u)) Q E s):
  OpR X f (rI0 λi j=>.int (g i j)):=by
 intro e s o H x y v u Q I m l h;obtain⟨i,j,rfl,rfl,q⟩:=h;obtain⟨t,rfl⟩:=m;obtain⟨n,rfl⟩:=l;exact d i j t n s _ _ ⟨.int (g i j),H,I.tok _,⟨_,rfl⟩,q⟩
def Lu{f:Value->Value->Sem Value}{g:Int->Int->Bool}
  (d:∀(i j:Int)(t u:Tok)(s:Om)(Q:Of)(E:Of),Q (.bool (g i j)) s->wpAny (Px X) X.A (f (.int i t) (.int j u)) Q E s):
  OpR X f (rI0 λi j=>.bl (g i j)):=by
 intro e s o H x y v u Q I m l h;obtain⟨i,j,rfl,rfl,q⟩:=h;obtain⟨t,rfl⟩:=m;obtain⟨n,rfl⟩:=l;exact d i j t n s _ _ ⟨.bl (g i j),H,I,rfl,q⟩
def E6(i j:Int):Prop:=0<j/\j<1073741824
def E7(i j:Int):Prop:=0<=j/\j<=1000000/\i.natAbs<2 ^ 64
def uy(i j:Int):Prop:=(-(2 ^ 64)<i/\i<2 ^ 64)\/(-(2 ^ 64)<j/\j<2 ^ 64)
def uy.ok(h:uy i j):IntMulOk i j:=by
 rcases h with⟨d,e⟩|⟨d,e⟩
 .exact .of_left (intBits_le_64 d e)
 .exact .of_right (intBits_le_64 d e)
def FA:OpR X (binaryOp .Add) (rI0 λi j=>.int (i+j)):=MV λ_ _ _ _ _ _ _ q=>add_int q
def JL:OpR X (binaryOp .Sub) (rI0 λi j=>.int (i-j)):=MV λ_ _ _ _ _ _ _ q=>sub_int q
def FC:OpR X (binaryOp .Mult) (rI uy λi j=>.int (i*j)):=opI λ_ _ _ _ _ _ _ d q=>mul_int q d.ok
def Cm:OpR X (binaryOp .FloorDiv) (rI E6 λi j=>.int (i / j)):=opI λi j _ _ _ _ _ d q=>by have e:=d.1;have f:=d.2;exact floordiv_int (by omega) (by grind) (.inl (PyProof.noPylong_small (by omega)))
def FD:OpR X (binaryOp .Mod) (rI (λ_ j=>0<j) λi j=>.int (i % j)):=opI λi j _ _ _ _ _ d q=>by have e:=d;exact mod_int' (by omega) (by grind)
def Cn:OpR X (binaryOp .Mod) (rI (λ_ j=>j≠0) λi j=>.int (i.fmod j)):=opI λ_ _ _ _ _ _ _ d q=>mod_int' d q
def WT:OpR X (binaryOp .Pow) (rI E7 λi j=>.int (i ^ j.toNat)):=opI λ_ _ _ _ _ _ _ d q=>pow_int_small d.1 d.2.1 d.2.2 q
def unI{f:Value->Sem Value}{g:Int->Int}
  (d:∀(i:Int)(t:Tok)(s:Om)(Q:Of)(E:Of),Q (.int (g i) s.toks) { s with toks:=s.toks+1 }->wpAny (Px X) X.A (f (.int i t)) Q E s):
  UnR X f (rU λi=>.int (g i)):=by
 intro e s l H x v Q I j h;obtain⟨i,rfl,q⟩:=h;obtain⟨t,rfl⟩:=j;exact d i t s _ _ ⟨.int (g i),H,I.tok _,⟨_,rfl⟩,q⟩
def UK:UnR X (unaryOp .USub) (rU λi=>.int (-i)):=unI λ_ _ _ _ _ q=>neg_int q
end
section
variable {X:Cx}{a b c:Ot}{ta tb tc:TE}{pos:Pos}
def nK(I:Inv X pins σ H s)(q:Q (.bl k) H)(e:k=k'):EP X pins σ Q (.bool k') s:=by subst e;exact⟨.bl k,H,I,rfl,q⟩
def cf:OpR X (compareOp .Lt) (rI0 λi j=>.bl (decide (i<j))):=Lu λ_ _ _ _ _ _ _ q=>lt_int q
def JM:OpR X (compareOp .LtE) (rI0 λi j=>.bl (decide (i<=j))):=Lu λ_ _ _ _ _ _ _ q=>le_int q
def Jn:OpR X (compareOp .Gt) (rI0 λi j=>.bl (decide (j<i))):=Lu λ_ _ _ _ _ _ _ q=>gt_int q
def nM:OpR X (compareOp .In) (λx y H Q=>∃i j,x=.str i/\y=.str j/\Q (.bl (!(Builtin.Str.occurrences j i 0 j.length 1).isEmpty)) H):=by intro d s g H x y v u Q I f e h;obtain⟨i,j,rfl,rfl,q⟩:=h;obtain⟨t,rfl⟩:=f;obtain⟨l,rfl⟩:=e;exact in_str (nK I q rfl)
def FE:OpR X (compareOp .Is) (λx y H Q=>y=.non/\Q (.bl (decide (x=.non))) H):=by
 intro d s g H x y v u Q I e f h;obtain⟨rfl,q⟩:=h;cases f;refine is_none_gen (nK I q ?_);cases x<;>first
  | (cases e;rfl)
  | (obtain⟨t,rfl⟩:=e;rfl)
def Co:OpR X (compareOp .IsNot) (λx y H Q=>y=.non/\Q (.bl (!decide (x=.non))) H):=by
 intro d s g H x y v u Q I e f h;obtain⟨rfl,q⟩:=h;cases f;refine isnot_none_gen (nK I q ?_);cases x<;>first
  | (cases e;rfl)
  | (obtain⟨t,rfl⟩:=e;rfl)
def OpR.or(h:OpR X f r)(h':OpR X f r'):OpR X f (λx y H Q=>r x y H Q\/r' x y H Q):=by
 intro d s e H x y v u Q I i g q;rcases q with q|q
 .exact h d s e H x y v u Q I i g q
 .exact h' d s e H x y v u Q I i g q
def yr(b:Ot)(h:op≠.In:=by decide)(f:op≠.NotIn:=by decide):behindInMarks op b=false:=by
 have d:(op==CmpOp.In)=false:=by cases op<;>first|rfl|exact absurd rfl h
 have e:(op==CmpOp.NotIn)=false:=by cases op<;>first|rfl|exact absurd rfl f
 cases b<;>simp[behindInMarks,d,e]
def e_(o:OpR X (compareOp op) r)(e:PE X a ta)(n:PE X b tb)(g:behindInMarks op b=false):PE X (.Compare a [op] [b] pos) (tOp r ta tb):=by intro d s l H Q I h;exact wpAny_Compare1 (Lp e n I h λv u s2 x y f m j i q=>o d s2 l f x y v u Q m j i q) g
def Cp(t:TE):TT:=λd H Q=>t d H λx e=>∃k,x=.bl k/\Q k e
def Cq(E:OpR X (compareOp op) r)(g:PE X a ta)(D:PE X b tb)(m:behindInMarks op b=false):PT X (.Compare a [op] [b] pos) (Cp (tOp r ta tb)):=by
 intro d s f H Q I h;refine wpAny_isTrue_Compare1 (thn (g d s f H _ I h) λv n ⟨x,o,q,p,t⟩=>thn (D d n f o _ q t) λu s2 ⟨y,j,w,A,C⟩=>
  thn (E d s2 f j x y v u _ w p A C) λc G ⟨z,B,i,l,k,e,F⟩=>?_) m
 subst e;cases l;exact a0Z ⟨B,i,F⟩
def A4(r h:R2)(ta tb tc:TE):TE:=λd H Q=>ta d H λx f=>tb d f λy g=>r x y g λz e=>∃k,z=.bl k/\
 (if k=true then tc d e λj i=>h y j i Q else Q (.bl false) e)
def uz(T:OpR X (compareOp op) r)(i:OpR X (compareOp op') r')(o:PE X a ta)(S:PE X b tb)(F:PE X c tc)
  (A:lastMarks [op,op'] [b,c]=false:=by with_unfolding_all rfl):PE X (.Compare a [op,op'] [b,c] pos) (A4 r r' ta tb tc):=by
 intro f s g H Q I h;refine Compare_chain (thn (o f s g H _ I h) λv B ⟨x,E,J,G,L⟩=>chain_link (thn (S f B g E _ J L) λu s2 ⟨y,q,O,l,R⟩=>
  thn (T f s2 g q x y v u _ O G l R) λd p ⟨z,m,j,w,k,e,n⟩=>?_)) A
 subst e;cases w;refine a0Z ?_;cases k with
 |false=>exact ite_ff ⟨.bl false,m,j,rfl,n⟩
 |true=>exact ite_tt (chain_last (thn (F f p g m _ j n) λD C ⟨P,N,K,M,t⟩=>i f C g N y P u D Q K l M t))
def cg:(sizeLine:Nat)<2 ^ 63:=by decide
def lO:OpR X (binaryOp .Add) (λx y H Q=>∃i j,x=.str i/\y=.str j/\i.length+j.length<=sizeLine/\Q (.str (i++j)) H):=by intro pins s σ H x y v u Q I rx ry h;obtain⟨i,j,rfl,rfl,hz,q⟩:=h;obtain⟨t,rfl⟩:=rx;obtain⟨t',rfl⟩:=ry;exact a0g I.tk<|add_str (λt' tk hn=>⟨.str (i++j),H,I.tok _ hn,⟨_,rfl⟩,q⟩) hz
def vals1(r:Vals [x] us):∃u,us=[u]/\RelV x u:=by
 cases r with
 |cons d e=>cases e;exact⟨_,rfl,d⟩
def vals2(r:Vals [x,y] us):∃u d,us=[u,d]/\RelV x u/\RelV y d:=by
 cases r with
 |cons f e=>
  cases e with
  |cons g h=>cases h;exact⟨_,_,rfl,f,g⟩
def nN(hc:X.calm=true):jR X (.builtin "max") (λxs H Q=>∃i j,xs=[.int i,.int j]/\Q (.int (if j>i then j else i)) H):=by
 intro pins s σ H xs us Q I r h;obtain⟨i,j,rfl,q⟩:=h;obtain⟨u,w',rfl,⟨t,rfl⟩,⟨t',rfl⟩⟩:=vals2 r;refine a0g I.tk<|max_two_ints (I.ok.hd hc) λh' tk k hn=>⟨_,H,I.kept k hn,?_,q⟩
 by_cases hj:j>i
 .rw[if_pos hj,if_pos hj];exact⟨_,rfl⟩
 .rw[if_neg hj,if_neg hj];exact⟨_,rfl⟩
def MW(K:OA)(x:V)(H:Hp)(n:Nat):Prop:=
 match x with
 |.str y=>y.length<=sizeLine/\n=y.length
 |.byt y=>y.size<=sizeLine/\n=y.size
 |.ref p=>(∃d,SqL K H p d/\n=d.length)\/∃d,SqT K H p d/\n=d.length
 |_=>False
def uA:jR X (.builtin "len") (λd H Q=>∃x n,d=[x]/\MW X.K x H n/\Q (.int n) H):=by
 intro v s B H d z Q I r h;obtain⟨x,n,rfl,e,q⟩:=h;obtain⟨u,rfl,j⟩:=vals1 r;have C:=a0E;cases x with
 |str y=>obtain⟨t,rfl⟩:=j;obtain⟨w,g⟩:y.length<=sizeLine/\n=y.length:=e;subst g;exact len_str (by omega) ⟨.int _,H,I.tok _,⟨_,rfl⟩,q⟩
 |byt y=>obtain⟨t,rfl⟩:=j;obtain⟨w,g⟩:y.size<=sizeLine/\n=y.size:=e;subst g;exact PySem.W.len_bytes (by omega) ⟨.int _,H,I.tok _,⟨_,rfl⟩,q⟩
 |ref p=>
  cases j;have g:=e;rcases g with⟨d,l,g⟩|⟨d,l,g⟩
  .subst g;obtain⟨o,m,i,hz⟩:=I.list l;have f:=m.length;exact Calls.call_len_list i.isList (by grind) ⟨.int d.length,H,I.tok _,⟨_,by simp only[List.size_toArray];rw[f]⟩,q⟩
  .subst g;obtain⟨o,m,i,hz⟩:=I.tuple l;have f:=m.length;exact len_tuple i (by grind) ⟨.int d.length,H,I.tok _,⟨_,by simp only[List.size_toArray];rw[f]⟩,q⟩
 |_=>exact e.elim
end
structure Lv(h:Heap)(x dx C:Addr)(mA:Oi):Prop where
 obj:h.get? x=some (PySem.W.instObj C dx)
 ns:h.Ns1 dx mA
 ne:dx≠x
def JN{h:Heap}{d:Addr}{i:Oi}(n:h.Ns1 d i):∃f,h.get? d=some f/\∀b,PySem.W.lookIn b f=some (i b):=by
 obtain⟨o,g,u,s,r,p,_,j⟩:=n;refine⟨o,s,λb=>?_⟩;have e:=j b;unfold nsFind findBy at e;rw[<- a4l]at e;unfold PySem.W.lookIn;rw[r];dsimp only;split
 .rename_i y q;rw[q]at e;exact R9 some e
 .rename_i q;rw[q]at e;have a:g.toList.any (·.refKey)=false:=by rw[List.any_eq_false];intro y m;obtain⟨z,t,c⟩:=p y (a3Z.mp m);simp[DictEntry.refKey,c]
  have l:¬g.toList.any (·.refKey)=true:=by rw[a];exact P0
  rw[if_neg l];exact R9 some e
def Lv.look(I:Lv h x dx C mA):∃b,PySem.W.InstAt h x (PySem.W.instObj C dx) C (some b)/\∀a,PySem.W.lookIn a b=some (mA a):=
 let⟨b,ho,hl⟩:=JN I.ns
 ⟨b,⟨I.obj,rfl,rfl,ho⟩,hl⟩
def eU(f:Str)(v:V):List (Str×V)->List (Str×V)
 |[]=>[(f,v)]
 | (g,x)::r=>if g=f then(g,v)::r else(g,x)::eU f v r
theorem WU(f g:Str)(v:V):∀fs:List (Str×V),(eU f v fs).lookup g=if g=f then some v else fs.lookup g
 |[]=>by
  show List.lookup g [(f,v)]=_;by_cases h:g=f
  .have a:=a0b.mpr h;simp only[List.lookup,a,if_pos h]
  .have a:=a0R.mpr h;simp only[List.lookup,a,if_neg h]
 | (k,x)::r=>by
  have c:=WU f g v r;rw[show eU f v ((k,x)::r)=(if k=f then(k,v)::r else(k,x)::eU f v r)from rfl];by_cases b:k=f
  .rw[if_pos b];by_cases h:g=k
   .have a:=a0b.mpr h;simp only[List.lookup,a,if_pos (h.trans b)]
   .have a:=a0R.mpr h;simp only[List.lookup,a,if_neg (λe:g=f=>h (e.trans b.symm))]
  .rw[if_neg b];by_cases h:g=k
   .have a:=a0b.mpr h;simp only[List.lookup,a,if_neg (λe:g=f=>b (h.symm.trans e))]
   .have a:=a0R.mpr h;simp only[List.lookup,a];exact c
theorem WV(f:Str)(v:V):∀fs:List (Str×V),f∈(eU f v fs).map (·.1)/\∀g,g∈fs.map (·.1)->g∈(eU f v fs).map (·.1)
 |[]=>⟨by simp[eU],λg h=>by simp at h⟩
 | (k,x)::r=>by
  obtain⟨b,c⟩:=WV f v r;rw[show eU f v ((k,x)::r)=(if k=f then(k,v)::r else(k,x)::eU f v r)from rfl];by_cases a:k=f
  .subst a;exact⟨by simp,λg h=>by simpa using h⟩
  .rw[if_neg a];refine⟨?_,λg h=>?_⟩
   .exact O6 _ b
   .rcases P7.mp h with e|e
    .exact P7.mpr (.inl e)
    .exact O6 _ (c g e)
theorem WX(f:Str)(v:V):∀fs:List (Str×V),(eU f v fs).length<=fs.length+1
 |[]=>by simp[eU]
 | (k,x)::r=>by
  have b:=WX f v r;rw[show eU f v ((k,x)::r)=(if k=f then(k,v)::r else(k,x)::eU f v r)from rfl];by_cases a:k=f
  .rw[if_pos a,O1,O1];omega
  .rw[if_neg a,O1,O1];omega
def Uh.some_of(r:Uh (some v) o):∃u,o=some u/\RelV v u:=by
 cases o with
 |none=>exact r.elim
 |some u=>exact⟨u,rfl,r⟩
def nQ(r:RelV v u):PySem.W.handedIn u=true:=by
 cases v with
 |non=>cases r;rfl
 |bl b=>cases r;rfl
 |int i=>obtain⟨t,e⟩:= r;cases e;rfl
 |str x=>obtain⟨t,e⟩:= r;cases e;rfl
 |byt b=>obtain⟨t,e⟩:= r;cases e;rfl
 |flt b=>obtain⟨t,e⟩:= r;cases e;rfl
 |ref a=>cases r;rfl
 |ty n=>cases r;rfl
def Cr(c:HOk P w H h)(e:H a=some (.ins C dx fs)):∃b,Lv h a dx C b/\(∀f,Uh (fs.lookup f) (b f))/\PySem.Within b (fs.map (·.1))/\fs.length<=1000/\H dx=some (.own a):=by obtain⟨d,z,g,ob,b,n,r,q⟩:= (c a _ e);exact⟨b,⟨ob,n,g⟩,r,q,z,d⟩
structure Cls(K:OA)(C:Addr):Prop where
 pg:PySem.W.plainGet K C Str.empty=true
 hd:PySem.W.hasDictIn K C=true
 po:PySem.W.plainOver K C=true
 sa:PySem.W.findIn K (.ref C) "__setattr__"=some (some (.builtin "object.__setattr__"))
def Cls.get{K:OA}{C:Addr}(c:Cls K C)(f:Str):PySem.W.plainGet K C f=true:=c.pg
def Cs(b:attributeBase e f env (eval e env)=eval e env)
  (h:wpAny (model prog w) A (eval e env) (λo a=>wpAny (model prog w) A (getAttr o f true) Q E a) E s):wpAny (model prog w) A (eval (.Attribute e f pos) env) Q E s:=
 Attribute_any_ h (by rw[arm_eval_Attribute,b])
section
variable {H:Hp}
inductive m7(K:OA)(H:Hp):V->Value->Prop where
 |non:m7 K H .non (.type "NoneType")
 |bl (x:Bool):m7 K H (.bl x) (.type "bool")
 |int (i:Int):m7 K H (.int i) (.type "int")
 |str (x:Str):m7 K H (.str x) (.type "str")
 |flt (x:UInt64):m7 K H (.flt x) (.type "float")
 |lst {a:Addr}{xs:Ow}(e:H a=some (.lst xs)):m7 K H (.ref a) (.type "list")
 |frz {a:Addr}{o:Obj}{xs:Ow}(e:H a=some (.frz o (.lst xs))):m7 K H (.ref a) (.type "list")
 |tup {a:Addr}{xs:Ow}(e:H a=some (.tup xs)):m7 K H (.ref a) (.type "tuple")
 |dK {a:Addr}{kvs:Ov}(e:H a=some (.dK kvs)):m7 K H (.ref a) (.type "dict")
 |dT {a:Addr}{kvs:Pk}(e:H a=some (.dT kvs)):m7 K H (.ref a) (.type "dict")
 |ins {a C dx:Addr}{fs:OU}(e:H a=some (.ins C dx fs)) (cl:Cls K C) (ha:PySem.W.findIn K (.ref C) "__class__"=some (some (.builtin "object.__class__")))
   (hn:PySem.W.specialIn K (.builtin "object.__class__") "__get__"=some (some (.builtin "getset_descriptor.__get__"))) (htk:PySem.W.takesIn K (.builtin "object.__class__")=some true)
   (hm:PySem.W.mroIn K C (.type "object")=some true):m7 K H (.ref a) (.ref C)
end
structure j7(k:Nat)(A:OG):Prop where
 hd:A.handled=none
 dp:A.depth+3*k+5<recursionLimit
 un:A.units+16*k+200<cLine
def j7.mono(r:j7 k A)(h:j<=k):j7 j A:=⟨r.hd,by have:=r.dp;omega,by have:=r.un;omega⟩
def j7.deeper(r:j7 (k+1) A)(env:Env):j7 k (A.deeper env):=
 ⟨r.hd,by have:=r.dp;show A.depth+1+3*k+5<_;omega,by have:=r.un;show A.units+3+16*k+200<_;omega⟩
def j7.in1(r:j7 (k+1) A):j7 k A.in1:=
 ⟨r.hd,by have:=r.dp;show A.depth+3*k+5<_;omega,by have:=r.un;show A.units+1+16*k+200<_;omega⟩
def lQ{A:OG}{C:Addr}{us:Oo}{a:O_}:(A.under (.builtin "type.__call__" ⟨.ref C::us,a⟩)).depth=A.depth+1:=rfl
def lR{A:OG}{C:Addr}{us:Oo}{a:O_}:(A.under (.builtin "type.__call__" ⟨.ref C::us,a⟩)).units=A.units+1:=rfl
def j7.make(r:j7 (k+1) A)(C:Addr)(us:Oo)(a:O_):j7 k (A.under (.builtin "type.__call__" ⟨.ref C::us,a⟩)):=
 ⟨r.hd,by have:=r.dp;rw[lQ];omega,by have:=r.un;rw[lR];omega⟩
def j7.depth(r:j7 k A):A.depth<recursionLimit:=by have:=r.dp;omega
def j7.units(r:j7 k A):A.units+64<cLine:=by have:=r.un;omega
def NI:TA:=λ_ H Q=>Q [] H
def Lw(b:TE)(f:TA):TA:=λa H Q=>b a H λx c=>f a c λe d=>Q (x::e) d
section
variable {X:Cx}{e:Ot}{es:Oq}{te:TE}{t:TA}{pos:Pos}
def JO:PA X [] NI:=λ_ _ _ _ H Q I h=>a1O ⟨[],H,I,.nil,h⟩
def vi(c:PE X e te)(n:PA X es t)(q:starEach (e::es) X.env=(false,eval e X.env)::starEach es X.env:=by rfl):PA X (e::es) (Lw te t):=by intro pos a s b H Q I h;rw[q];exact a1m (thn (c a s b H _ I h) λu f ⟨x,g,j,i,l⟩=>(thn (n pos a f b g _ j l) λv s2 ⟨m,d,o,p,r⟩=>⟨x::m,d,o,.cons i p,r⟩))
def NJ(t:TA):TE:=λc H Q=>t c H λb a=>b.length<=sizeLine/\∀p,a p=none->Q (.ref p) (upd a p (.tup b))
def NK(t:TA):TE:=λc H Q=>t c H λb a=>b.length<=sizeLine/\∀p,a p=none->Q (.ref p) (upd a p (.lst b))
def FF{x1}(h:PA X es t):PE X (.Tuple es x1 pos) (NJ t):=by intro a s g H Q I i;refine a4e (thn (h pos a s g H _ I i) λj c ⟨l,d,f,r,z,q⟩=>⟨by rw[<- r.length];exact z,?_⟩);have hf:=f.hok.fresh (O2 _);refine⟨.ref c.heap.objs.size,upd d c.heap.objs.size (.tup l),f.laid (λb u e=>O0 _ e) (O2 _) ?_,rfl,q _ hf⟩;exact⟨z,j,r,⟨_,P9 _ rfl,rfl,_,rfl⟩⟩
def A5(h:PA X es t):PE X (.List es pos) (NK t):=by intro a s g H Q I i;refine wpAny_List_spliced (thn (h pos a s g H _ I i) λj c ⟨l,d,f,r,z,q⟩=>⟨by rw[<- r.length];exact z,?_⟩);have hf:=f.hok.fresh (O2 _);refine⟨.ref c.heap.objs.size,upd d c.heap.objs.size (.lst l),f.laid (λb u e=>O0 _ e) (O2 _) ?_,rfl,q _ hf⟩;exact⟨z,j,0,r,P9 _ rfl⟩
end
abbrev Sp:=List V->Hp->VK->XK->Prop
abbrev CXT:=List Env->Hp->Shared->XK->Value->Shared->Prop
structure ub(P:Ox)(w:OE)(K:OA)(mg:Oi)(base:Heap)(A:OG)(outer:List Env)(s:Om)(H:Hp):Prop where
 frames:A.frames=some outer
 mod:Mod K mg base
 bs:∀b o,base.get? b=some o->s.heap.get? b=some o/\H b=none
 bsz:base.objs.size<=s.heap.objs.size
 eT:s.heap.FunFrames base outer
 frf:∀b∈frs outer,H b=none
 hok:HOk P w H s.heap
 bare:AllBare s.gens
def CE(outer:List Env)(P:Ox)(w:OE)(H:Hp)(s:Om)(Q:VK)(u:Value)(a:Om):Prop:=
 ∃v b,a.os=s.os/\AllBare a.gens/\Un (frs outer) [] H b s.heap a.heap/\HOk P w b a.heap/\RelV v u/\Q v b
def CR(CX:CXT)(outer:List Env)(P:Ox)(w:OE)(H:Hp)(s:Om)(Q:VK)(E:XK)(r:Result)(a:Om):Prop:=
 match r with
 |.ok (.ret u)=>CE outer P w H s Q u a
 |.ok _=>False
 |.error e=>CX outer H s E e a
structure qz(P:Ox)(w:OE)(K:OA)(mg:Oi)(base:Heap)(CX:CXT)(k:Nat)(f:Addr)(fd:OH)(ps:Oj)(sp:Sp):Prop where
 len:∀vs H Q E,sp vs H Q E->vs.length=ps.length
 run:∀(A:OG)(outer:List Env)(s:Om)(H:Hp)(args:Args)(us:Oo)(vs:Ow) (Q:VK) (E:XK),j7 k A->ub P w K mg base A outer s H->BindsTo s fd args (ps.zip us)->Vals vs us->sp vs H Q E->
  codeAny (model P w) A (.call (.ref f) args) (CR CX outer P w H s Q E) s
def qz.imp{P:Ox}{w:OE}{K:OA}{mg:Oi}{a:Heap}{CX:CXT}{k:Nat}{f:Addr}{e:OH}{g:Oj}{sp d:Sp}(F:qz P w K mg a CX k f e g sp)
  (h:∀c H Q E,d c H Q E->sp c H Q E):qz P w K mg a CX k f e g d:=
 ⟨λc H Q E q=>F.len c H Q E (h _ _ _ _ q),λA b s H args i c Q E l m o j n=>F.run A b s H args i c Q E l m o j (h _ _ _ _ n)⟩
def ub.make{P:Ox}{w:OE}{K:OA}{mg:Oi}{a:Heap}{A:OG}{outer:List Env}{s:Om}{H:Hp}(e:ub P w K mg a A outer s H)(C:Addr)(us:Oo)(b:O_):
  ub P w K mg a (A.under (.builtin "type.__call__" ⟨.ref C::us,b⟩)) outer s H:=⟨by first|exact e.frames|(simpa[Around.under,Code.envs,Code.isFrame,pushEnvs]using e.frames),e.mod,e.bs,e.bsz,e.eT,e.frf,e.hok,e.bare⟩
def Inv.nR(I:Inv X pins σ H s):ub X.prog X.w X.K X.mg X.base X.A X.stack s H:=
 ⟨I.ok.frames,I.ok.mod,I.bs,P8 I.ok.bsz I.sz,I.stack,I.ar,I.hok,I.bare⟩
def Inv.after(I:Inv X pins σ H s)(h:CE X.stack X.prog X.w H s Q u s')(l:X.m<=s'.toks:=by ac_rfl):EP X pins σ Q u s':=by obtain⟨v,i,j,a,un,c,r,q⟩:=h;obtain⟨f,g,d,t,e⟩:=s';obtain rfl:e=s.os:=j;exact⟨v,i,I.call un c a (λb z=>absurd z (by simp)),r,q⟩
def Lx(sp:Sp)(a:Ow)(E:XK)(t:TA):TE:=λc H Q=>t c H λd b=>sp (d++a) b Q E
def Binds(K:OA)(d:OH)(c:Oj)(b:Oo):Prop:=
 ∀(s:Om)(a:Oo),K.In s.heap->(a++b).length=c.length->BindsTo s d ⟨a,[]⟩ (c.zip (a++b))
def Binds.all{K:OA}{d:OH}{b:Oj}(h:∀a:List Value,a.length=b.length->bindArgs d ⟨a,[]⟩=pure (b.zip a)):Binds K d b []:=λs a _ c=>by rw[a0h]at c ⊢;exact .of_eq (h a c)
def Passes(CX:CXT)(X:Cx)(E:XK):Prop:=∀(a:Oh)(c:St)(H:Hp)(s:Om)(e:Value)(b:Om),Inv X a c H s->CX X.stack H s E e b->X.m<=b.toks->X.xe e b
def FG(F:qz X.prog X.w X.K X.mg X.base CX k f fd ps sp)(p:j7 k X.A)(q:Binds X.K fd ps d)(t:Vals a d)(m:Passes CX X E)
  (I:Inv X pins σ H s) (r:Vals g b) (h:sp (g++a) H Q E):wpAny (Px X) X.A (call (.ref f) b) (EP X pins σ Q) X.xe s:=by
 have i:=r.append t;have o:(b++d).length=ps.length:=by rw[<- i.length];exact F.len _ _ _ _ h
 refine a1i (a2X I.tk<|a03 (F.run X.A X.stack s H ⟨b,[]⟩ (b++d) (g++a) Q E p I.nR (q s b I.kIn o) i h) λr j c l=>?_);cases r with
 |error e=>exact m pins σ H s e j I c l
 |ok fl=>
  cases fl with
  |ret u=>exact I.after c
  |next=>exact False.elim c
  |brk=>exact False.elim c
  |cont=>exact False.elim c
def fb(F:qz X.prog X.w X.K X.mg X.base CX k f fd ps sp)(l:j7 k X.A)(i:Gl X x)(g:X.mg x=some (.ref f))(n:PySem.W.keepIn X.K (.ref f)=true)(o:Binds X.K fd ps ds)(u:Vals dvs ds)(j:Passes CX X E)
  (d:PA X (e::es) t) (b:(x==("__debug__":Str))=false:=by decide) (he:starEach (e::es) X.env=(false,eval e X.env)::starEach es X.env:=by rfl) (hpl:(backTo pos (starEach es X.env)).any (·.1)=false:=by rfl):
  PE X (.Call (.Name x p) (e::es) [] pos) (Lx sp dvs E t):=by
 intro a s m H Q I h;refine a1n (Jm I i g ?_ b);refine a2P I.ok.mod.kin n (thn (d pos a s m H _ I h) λv w ⟨z,y,c,r,q⟩=>⟨c.kIn,?_⟩) he hpl;exact FG F l o u j c r q
structure zy(N P:Oj)(sc:Scope):Prop where
 kind:sc.kind=.function
 co:sc.isCoroutine=false
 gen:sc.isGenerator=false
 nd:N.Nodup
 pre:N.take P.length=P
 par:∀x∈P,sc.names.lookup x=some .local\/sc.names.lookup x=some .cell
 IH:∀y∈sc.names,y.2≠.free
theorem cj{a:Pd}{x:Str}:∀{binds:O_}{m:Oi},(∀v,(x,v)∉binds)->bindL a binds m x=m x
 |[],_,_=>rfl
 | (n,v)::r,m,h=>by
  unfold bindL;rw[cj λw b=>h w (O6 _ b)];split
  .have:x≠n:=by rintro rfl;exact h v O7
   simp[this]
  .rfl
theorem ck{a:Pd}{x:Str}:∀{binds:O_}{m:Oi},(∀v,(x,v)∉binds)->bindC a binds m x=m x
 |[],_,_=>rfl
 | (n,v)::r,m,h=>by
  unfold bindC;rw[ck λw b=>h w (O6 _ b)];split
  .rfl
  .have:x≠n:=by rintro rfl;exact h v O7
   simp[this]
theorem cq{a:Pd}{x:Str}{v:Value}:∀{P:Oj}{b:Oo}{i:Nat}{m:Oi},P.Nodup->P[i]?=some x->b[i]?=some v->a x=some .local->
  bindL a (P.zip b) m x=some v
 |[],_,_,_,_,h,_,_=>by simp at h
 |_::_,[],_,_,_,_,h,_=>by simp at h
 |p::P,w::b,0,m,f,c,d,e=>by simp at c d;subst c;subst d;show bindL a ((p,w)::P.zip b) m p=_;unfold bindL;rw[cj λv g=>(a0r.mp f).1 (a3v g).1,if_pos e];simp
 |p::P,w::b,i+1,m,f,c,d,e=>by unfold bindL;exact cq (i:=i) (a0r.mp f).2 (by simpa using c) (by simpa using d) e
theorem cu{a:Pd}{x:Str}{v:Value}:∀{P:Oj}{b:Oo}{i:Nat}{m:Oi},P.Nodup->P[i]?=some x->b[i]?=some v->a x≠some .local->
  bindC a (P.zip b) m x=some v
 |[],_,_,_,_,h,_,_=>by simp at h
 |_::_,[],_,_,_,_,h,_=>by simp at h
 |p::P,w::b,0,m,f,c,d,e=>by simp at c d;subst c;subst d;show bindC a ((p,w)::P.zip b) m p=_;unfold bindC;rw[ck λv g=>(a0r.mp f).1 (a3v g).1,if_neg e];simp
 |p::P,w::b,i+1,m,f,c,d,e=>by unfold bindC;exact cu (i:=i) (a0r.mp f).2 (by simpa using c) (by simpa using d) e
def start(N:Oj)(vs:Ow):St:=vs.map some++List.replicate (N.length-vs.length) none
def lS(CX:CXT)(P:Ox)(w:OE)(K:OA)(mg:Oi)(c:Heap)(N:Oj)(b:Str)(a:Scope)(f:Addr)(cd:Value)(A:OG)(outer:List Env)(s:Om)(H:Hp)(E:XK):Cx where
 prog:=P
 w:=w
 K:=K
 mg:=mg
 base:=c
 A:=A.deeper (envOfC b a s.heap.objs.size f cd)
 N:=N
 s₀:=s
 H₀:=H
 env:=envOfC b a s.heap.objs.size f cd
 outer:=outer
 stack:=envOfC b a s.heap.objs.size f cd::outer
 ex:=[]
 calm:=true
 fn:=λ_=>true
 pn:=[]
 xe:=λe g=>wpAny (model P w) (A.deeper (envOfC b a s.heap.objs.size f cd)) (leaving (envOfC b a s.heap.objs.size f cd) e) (λ_ d=>CX outer H s E e d) (λh d=>CX outer H s E h d) g
def gT{a:Scope}{n:Nat}{x:Str}(h:a.names.lookup x=some .cell):∃c,(cellsFrom n a.names []).lookup x=some c:=by have q:=a3E a.names n [] (.inl h);exact a0v.mp q
def nS{CX:CXT}{P:Ox}{w:OE}{K:OA}{mg:Oi}{l:Heap}{N B:Oj}{g:Str}{d:Scope}{f:Addr}{cd:Value}{A:OG}{outer:List Env}{s I:Om}{H:Hp}{E:XK}{us:Oo}{vs:Ow}
  (S:zy N B d) (Q:A.handled=none) (m:ub P w K mg l A outer s H) (T:vs.length=B.length) (r:Vals vs us)
  (x:InCallC s s.heap.objs.size (bindL (envOfC g d s.heap.objs.size f cd).kindOf (B.zip us) λ_=>none) (cellsFrom (s.heap.objs.size+1) d.names []) (bindC (envOfC g d s.heap.objs.size f cd).kindOf (B.zip us) λ_=>none) I):
  Inv (lS CX P w K mg l N g d f cd A outer s H E) [] (start N vs) H I:=by
 have M:=by have:=R9 List.length S.pre;rw[a0F]at this;omega
 obtain⟨D,tk,rfl,J⟩:=x.done;have t:∀b:Addr,b∉(lS CX P w K mg l N g d f cd A outer s H E).ex:=λb z=>absurd (show b∈([]:List Addr)from z) (by simp);refine⟨⟨m.mod,S.kind,rfl,rfl,O2 _,λy z c D j=>?_,λy o=>?_,λy c _ h=>?_,λ_=>Q,a30 m.frames,.inr ⟨rfl,rfl⟩,λb z=>absurd z (t b),m.bs,m.bsz,λb _ _=>t b,λb z=>absurd z (t b),m.eT,m.frf⟩,
  rfl,m.bare,Un.kept J,⟨_,x.toInCall.ns,λi y v D j R=>?_⟩,λy c h=>⟨_,x.cell y c h⟩,m.hok.fresh (O2 _),λy c h=>?_,λp hp=>absurd (show p∈([]:List (Addr×Obj))from hp) (by simp),m.hok.kept J,?_,a0c _⟩
 .exact name_of_addr x.apart (a01 D) (a01 j)
 .have o:=o;rcases o with o|o
  .exact gT o
  .exact absurd rfl (S.IH _ (a01 o))
 .exact a1k (x.above y c (a01 h))
 .have F:i<vs.length:=by
   unfold start at j;by_cases F:i<vs.length
   .exact F
   .rw[a0M (by grind)]at j;rw[a1b]at j;split at j<;>cases j
  have L:vs[i]?=some v:=by
   unfold start at j;rw[a0n (by grind),S5]at j;cases e:vs[i]? with
   |none=>rw[e]at j;cases j
   |some a=>rw[e]at j;cases j;rfl
  obtain⟨u,G,O⟩:=r.get L;have hp:B[i]?=some y:=by rw[<- S.pre,List.getElem?_take_of_lt (by omega)];exact D
  have C:B.Nodup:=by rw[<- S.pre];exact S.nd.sublist (a2Y _ _)
  refine⟨u,O,?_⟩;rcases S.par y (a1x hp)with k|k
  .exact .inl ⟨k,cq C hp G k⟩
  .obtain⟨c,e⟩:=gT k;refine .inr ⟨.inl k,c,e,?_⟩;have q:=x.cell y c e;rw[cu C hp G (by show d.names.lookup y≠_;rw[k];decide)]at q;exact q
 .exact m.hok.fresh (a1k (x.above y c (a01 h)))
 .unfold start;show _=N.length;rw[P2,u8,a1q];omega
def FH{CX:CXT}{P:Ox}{w:OE}{K:OA}{mg:Oi}{i:Heap}{k:Nat}{f:Addr}{name d:Str}{h:Arguments}{j:ON}{a:Scope}{dV kV F X g ct oc:Value}{Z od:OP}
  {O:OI}{N G:Oj}{sp:Sp}(lk:K.lookup f=some ⟨oc,od,.func (PySem.W.fnOf name d h j a dV kV F X Z g ct),O⟩) (M:PySem.W.codeIn K g d=true) (S:zy N G a)
  (len:∀m H Q E,sp m H Q E->m.length=G.length)
  (JK:∀(A:OG)(c:List Env)(s:Om)(H:Hp)(m:Ow)(Q:VK)(E:XK),j7 k (A.deeper (envOfC d a s.heap.objs.size f g))->sp m H Q E->
   ∃t,PSs (lS CX P w K mg i N d a f g A c s H E) j t/\t { nx:=λ_ p=>Q .non p,rt:=Q } (start N m) H):
  qz P w K mg i CX (k+1) f (PySem.W.fnOf name d h j a dV kV F X Z g ct) G sp:=by
 refine⟨len,λA c s H args us m Q E T D hb r hsp=>?_⟩;have hl:=len _ _ _ _ hsp;have Y:=D.mod.kin.keeps λb o e=>(D.bs b o e).1;have R:=D.mod.nolimit.keeps λb o e=>(D.bs b o e).1;have z:∀y∈G.zip us,a.names.lookup y.1=some .local\/(a.names.lookup y.1=some .cell/\((cellsFrom (s.heap.objs.size+1) a.names []).lookup y.1).isSome=true):=λ⟨n,v⟩ hy=>by
  rcases S.par n (a3v hy).1 with q|q
  .exact .inl q
  .exact .inr ⟨q,a3E _ _ _ (.inl q)⟩
 refine codeAny_call_function T.depth (Y _ _ lk) rfl S.co S.gen rfl (PySem.W.codeRec_of Y M) (hb _ _ _ _ ?_);refine wpAny_newFunctionEnv_cells S.kind z λenv he W x=>?_;subst he;refine⟨R.keeps x.toInCall.keep,codeAny_func ?_⟩;obtain⟨t,ht,hq⟩:=JK A c s H m Q E (T.deeper _) hsp;have I:Inv (lS CX P w K mg i N d a f g A c s H E) [] (start N m) H W:=nS S T.hd D hl r x;refine a0f (ht [] W (start N m) H _ I hq) (λfl L B=>?_) λe L B=>B;have C:∀{l:St}{p:Hp}{v:V}{u:Value},Inv (lS CX P w K mg i N d a f g A c s H E) [] l p L->RelV v u->Q v p->CE c P w H s Q u L:=
  λ{l p v u} J U q=>⟨v,p,J.os,J.bare,J.base,J.hok,U,q⟩
 cases fl with
 |ret u=>obtain⟨v,l,p,J,U,q⟩:=B;exact C J U q
 |next=>obtain⟨l,p,J,q⟩:=B;exact C (v:=V.non) J rfl q
 |brk=>obtain⟨_,_,_,q⟩:=B;exact False.elim q
 |cont=>obtain⟨_,_,_,q⟩:=B;exact False.elim q
section
variable {X:Cx}{x:Str}{p pos:Pos}{e:Ot}{es:Oq}{t:TA}{id T:String}{r:List V->Hp->VK->Prop}
def tCB(r:List V->Hp->VK->Prop)(t:TA):TE:=λb H Q=>t b H λc a=>r c a Q
def Wy(n:jR X (.builtin id) r)(j:Gl X x)(g:X.mg x=none)(v:bootBuiltins x=some (.builtin id))(d:PA X (e::es) t)(l:x≠"__name__":=by decide)(b:(x==("__debug__":Str))=false:=by decide)
  (he:starEach (e::es) X.env=(false,eval e X.env)::starEach es X.env:=by rfl) (hpl:(backTo pos (starEach es X.env)).any (·.1)=false:=by rfl):PE X (.Call (.Name x p) (e::es) [] pos) (tCB r t):=by
 intro a s c H Q I h;exact a1n (WS I j g v (PyProof.Rows.callWith_builtin1 (thn (d pos a s c H _ I h) λf i ⟨w,m,q,o,u⟩=>n a i c m w f Q q o u) he hpl) l b)
def Yq(n:jR X (.type T) r)(j:Gl X x)(g:X.mg x=none)(v:bootBuiltins x=some (.type T))(d:PA X (e::es) t)(l:x≠"__name__":=by decide)(b:(x==("__debug__":Str))=false:=by decide)
  (he:starEach (e::es) X.env=(false,eval e X.env)::starEach es X.env:=by rfl) (hpl:(backTo pos (starEach es X.env)).any (·.1)=false:=by rfl):PE X (.Call (.Name x p) (e::es) [] pos) (tCB r t):=by
 intro a s c H Q I h;exact a1n (WS I j g v (a1l (thn (d pos a s c H _ I h) λf i ⟨w,m,q,o,u⟩=>n a i c m w f Q q o u) he hpl) l b)
end
end L2
namespace HT
open PySem PyProof.Rows
section
variable {prog:Ox}{w:OE}{A:OG}{E:Of}{s:Om}
def sIx(n d:Nat):Option Int->Nat
 |none=>d
 |some v=>if v<0 then(v+(n:Int)).toNat else min v.toNat n
def Wz(n d:Nat):sIx n d none=d:=rfl
def Ct(n d k:Nat):sIx n d (some (k:Int))=min k n:=rfl
def FI(n d:Nat)(b:d<=n)(o:OT):sIx n d o<=n:=by
 cases o with
 |none=>exact b
 |some v=>
  show(if v<0 then(v+n).toNat else min v.toNat n)<=n;by_cases a:v<0
  .rw[if_pos a];omega
  .rw[if_neg a];exact Nat.min_le_right _ _
def nT(v:Int)(n d:Nat):(if v<0 then max (v+(n:Int)) 0 else min v (n:Int))=((sIx n d (some v):Nat):Int):=by
 show(if v<0 then max (v+n) 0 else min v n)=(((if v<0 then(v+n).toNat else min v.toNat n):Nat):Int);by_cases a:v<0
 .simp only[if_pos a];omega
 .simp only[if_neg a];omega
def lT(b a:OT)(n:Nat):Builtin.Slice.sliceAdjust b a 1 (n:Int)=(((sIx n 0 b:Nat):Int),((sIx n n a:Nat):Int)):=by
 have c:¬(1<0):=by omega
 unfold Builtin.Slice.sliceAdjust;simp only[c];refine Prod.ext ?_ ?_
 .cases b with
  |none=>rfl
  |some v=>exact nT v n 0
 .cases a with
  |none=>rfl
  |some v=>exact nT v n n
def lU(i j:Nat):Builtin.Slice.slicePlaces (i:Int) (j:Int) 1=j-i:=by
 unfold Builtin.Slice.slicePlaces;have a:(1:Int)>0:=by omega
 simp only[a,if_true];split<;>omega
def UL(p:IsPart v o)(h:Q o s):wpAny (model prog w) A (Builtin.Slice.slicePartIndex v) Q E s:=by
 cases p with
 |none=>exact slicePart_none h
 |int i t=>exact slicePart_int h
def V8{sl:Addr}{f e:Value}{a c:OT}{n:Nat}{Q:Int×Int×Nat->Shared->Prop}(j:s.heap.IsSliceOf sl f e .none)(i:IsPart f a)(g:IsPart e c)
  (h:Q (((sIx n 0 a:Nat):Int),1,sIx n n c-sIx n 0 a) s):wpAny (model prog w) A (Builtin.Slice.sliceApplied (.ref sl) (pure (n:Int))) Q E s:=by
 obtain⟨m,d,l,b⟩:=id j;refine f8 (f8 (a1L d b rfl (f8 (a1L d b rfl (f8 (a1L d b rfl (v4 ?_)))))));refine f8 (slicePart_none ?_);refine f8 (UL i (f8 (UL g (f8 (v4 ?_)))));show wpAny _ _ (match Builtin.Slice.sliceAdjust a c 1 (n:Int)with|(a,c)=>pure (a,(1:Int),Builtin.Slice.slicePlaces a c 1)) _ _ s;rw[lT a c n];show wpAny _ _ (pure (((sIx n 0 a:Nat):Int),1,Builtin.Slice.slicePlaces ((sIx n 0 a:Nat):Int) ((sIx n n c:Nat):Int) 1)) _ _ s;rw[lU];exact v4 h
def uB(xs:OJ)(i k:Nat):((List.range k).filterMap λ(m:Nat)=>xs[((i:Int)+(m:Int)*1).toNat]?).toArray=((xs.toList.drop i).take k).toArray:=by
 have e:(λ(m:Nat)=>xs[(i+(m:Int)*1).toNat]?)=λm=>xs[i+m]?:=by
  funext m
  have:((i:Int)+(m:Int)*1).toNat=i+m:=by omega
  rw[this]
 rw[e];have:=pick_run xs i k;rw[List.filterMap_map]at this;have a:((λx=>xs[x]?)∘λx=>i+x)=λm=>xs[i+m]?:=rfl;rw[a]at this;rw[this]
def K6{t sl:Addr}{items:OJ}{l j:Value}{b c:OT}{Q:Of}(d:IsTup s.heap t items)(n:s.heap.IsSliceOf sl l j .none)(r:IsPart l b)(u:IsPart j c)
  (o:¬(sIx items.size 0 b=0/\sIx items.size items.size c=items.size))
  (h:Q (.ref s.heap.objs.size) { s with heap:=s.heap.push { cls:=.type "tuple",data:=.seq ((items.toList.drop (sIx items.size 0 b)).take (sIx items.size items.size c-sIx items.size 0 b)).toArray } })
  (hsz:items.size<=sizeLine):wpAny (model prog w) A (getItem (.ref t) (.ref sl)) Q E s:=by
 have a:=by show((items.toList.drop (sIx items.size 0 b)).take (sIx items.size items.size c-sIx items.size 0 b)).toArray.size<=sizeLine;rw[P4,a0F,a05,a0S];omega
 have y:sIx items.size items.size c<=items.size:=FI _ _ (O2 _) c;obtain⟨v,i,g,p⟩:=id n;have e:s.TypeIs (.ref sl) "slice":=⟨v,i,g⟩;unfold getItem
 try with_reducible refine W1 ?_
 first|refine f8 (v4 ?_)|skip
 refine f8 (wpAny_sequenceKey d.typeIs (by decide) ?_);refine f8 (wpAny_callSpecial?_slot d.typeIs a2x
  (a1T a2x d.typeIs entry_tuple_getitem ?_ (args_tuple_getitem _ _)))
 show wpAny _ _ (Builtin.Tuple.tupleItemsOf (.ref t) >>= _) _ _ s;refine f8 (tupleItemsOf_ d ?_);refine f8 (a1z e ?_);refine f8 (V8 n r u ?_);have f:¬((((sIx items.size 0 b:Nat):Int)==0&&(1:Int)==1&&(sIx items.size items.size c-sIx items.size 0 b)==items.size)=true):=by intro q;rw[S8,S8]at q;have x:=eq_of_beq q.1.1;have z:=eq_of_beq q.2;exact o ⟨by omega,by omega⟩
 show wpAny _ _ (if(((sIx items.size 0 b:Nat):Int)==0&&1==1&&(sIx items.size items.size c-sIx items.size 0 b)==items.size)=true then _ else _) _ _ s;rw[if_neg f,uB]
 first
  |exact f8 (a0O (v4 ⟨_,rfl,v4 h⟩) a)
  |exact f8 (a0O (f8 (v4 (v4 ⟨_,rfl,v4 h⟩))) a)
  |exact f8 (f8 (a0O (v4 (v4 ⟨_,rfl,v4 h⟩)) a))
  |exact f8 (f8 (a0O (v4 ⟨_,rfl,v4 h⟩) a))
end
end HT
namespace L2
open PySem PySem.Spec PyProof.Rows
abbrev TO:=St->Hp->(Option Int->Hp->Prop)->Prop
def PO(X:Cx)(e:Pe)(t:TO):Prop:=
 ∀(a:Oh)(s:Om)(b:St)(H:Hp)(Q:Option Int->Hp->Prop),Inv X a b H s->t b H Q->
  wpAny (Px X) X.A (evalPart e X.env) (λu d=>∃o c,Inv X a b c d/\IsPart u o/\Q o c) X.xe s
def Cu:TO:=λ_ H Q=>Q none H
def Ly(t:TE):TO:=λb H Q=>t b H λx a=>∃i,x=.int i/\Q (some i) a
section
variable {X:Cx}{e:Ot}{te:TE}{lo hi:Pe}{tl th:TO}{pos p2:Pos}
def nU:PO X none Cu:=by intro a s b H Q I h;exact v4 ⟨none,H,I,.none,h⟩
def nV(h:PE X e te):PO X (some e) (Ly te):=by intro a s c H Q I f;refine thn (h a s c H _ I f) λu l ⟨x,b,g,d,j⟩=>?_;obtain⟨i,rfl,q⟩:=j;obtain⟨t,rfl⟩:=d;exact⟨some i,b,g,.int i t,q⟩
def SlR(X:Cx)(r:V->Option Int->Option Int->Hp->VK->Prop):Prop:=
 ∀(a:Oh)(s:Om)(b:St)(H:Hp)(x:V)(v d c:Value)(lo hi:OT) (f:Addr) (Q:VK),Inv X a b H s->RelV x v->s.heap.IsSliceOf f d c .none->IsPart d lo->IsPart c hi->r x lo hi H Q->
  ∃T id,typeLookup (.type T) "__getitem__"=pure (some (.builtin id))/\s.TypeIs v T/\wpAny (Px X) X.A (getItem v (.ref f)) (EP X a b Q) X.xe s
def SlR.or(h:SlR X r)(h':SlR X r'):SlR X (λx lo hi H Q=>r x lo hi H Q\/r' x lo hi H Q):=by
 intro a s f H x v i g lo hi j Q I l d c b q;rcases q with q|q
 .exact h a s f H x v i g lo hi j Q I l d c b q
 .exact h' a s f H x v i g lo hi j Q I l d c b q
def tSl(r:V->Option Int->Option Int->Hp->VK->Prop)(te:TE)(tl th:TO):TE:=λa H Q=>te a H λx b=>tl a b λl d=>th a d λu c=>r x l u c Q
def ax(F:SlR X r)(he:PE X e te)(E:PO X lo tl)(n:PO X hi th):PE X (.Subscript e (.Slice lo hi none p2) pos) (tSl r te tl th):=by intro a s d H Q I h;refine Subscript_ (thn (he a s d H _ I h) λv o ⟨x,w,z,y,B⟩=>?_);refine wpAny_Slice (thn (E a o d w _ z B) λg s2 ⟨l,m,G,t,J⟩=>thn (n a s2 d m _ G J) λf c ⟨u,i,j,D,L⟩=>?_);refine v4 ?_;have A:Inv X a d i { c with heap:=c.heap.push { cls:=.type "slice",data:=.fields #[g,f,.none] } }:=j.kept λb ob q=>O0 _ q;obtain⟨T,id,K,C,p⟩:=F a { c with heap:=c.heap.push { cls:=.type "slice",data:=.fields #[g,f,.none] } } d i x v g f l u c.heap.objs.size Q A y (Heap.IsSliceOf.new ..) t D L;exact tail_any C K p rfl
def nW(xs:Ow)(lo hi:OT):List V:=(xs.drop (HT.sIx xs.length 0 lo)).take (HT.sIx xs.length xs.length hi-HT.sIx xs.length 0 lo)
def WY(xs:Ow)(lo hi:OT):(nW xs lo hi).length<=xs.length:=by unfold nW;rw[a0F,a05];omega
def NL(K:OA):V->Option Int->Option Int->Hp->VK->Prop:=λx lo hi H Q=>∃a b,x=.ref a/\SqT K H a b/\
 ¬(HT.sIx b.length 0 lo=0/\HT.sIx b.length b.length hi=b.length)/\∀p,H p=none->Q (.ref p) (upd H p (.tup (nW b lo hi)))
def FJ:SlR X (NL X.K):=by
 intro i s w H x v y u lo hi z Q I m t l p h;obtain⟨a,d,rfl,n,j,q⟩:=h;cases m;obtain⟨f,r,g,hz⟩:=I.tuple n;have c:f.toArray.size=d.length:=by exact r.length.symm
 refine⟨"tuple",_,PyProof.Rows.slot_tuple_getitem.lookup,g.typeIs,?_⟩;refine HT.K6 g t l p (by grind) ?_ (by omega);rw[c];refine⟨.ref s.heap.objs.size,_,I.laid (λb ob q=>O0 _ q) (O2 _) ?_,rfl,q _ (I.hok.fresh (O2 _))⟩;exact⟨P8 (WY d lo hi) hz,_,(r.drop (HT.sIx d.length 0 lo)).take (HT.sIx d.length d.length hi-HT.sIx d.length 0 lo),IsTup.new _ _⟩
end
def ixN(n:Nat)(i:Int):Option Nat:=if 0<=i then(if i<n then some i.toNat else none)else if -(n:Int)<=i then some (i+n).toNat else none
def atI{a:Type}(xs:List a)(i:Int):Option a:=(ixN xs.length i).bind λj=>xs[j]?
def nX(h:ixN n i=some j):seqIndex? i n=some j/\j<n/\-(n:Int)<=i/\i<n:=by
 unfold ixN at h;by_cases b:0<=i
 .rw[if_pos b]at h;by_cases a:i<n
  .rw[if_pos a]at h;have e:=a0e h;exact⟨by rw[a4x b a,e],by omega,by omega,a⟩
  .rw[if_neg a]at h;cases h
 .rw[if_neg b]at h;by_cases a:-n<=i
  .rw[if_pos a]at h;have e:=a0e h;exact⟨by rw[a4m (by omega) a,e],by omega,a,by omega⟩
  .rw[if_neg a]at h;cases h
def fc{a:Type}{xs:List a}{v:a}(h:atI xs i=some v):∃j,seqIndex? i xs.length=some j/\xs[j]?=some v/\j<xs.length/\-(xs.length:Int)<=i/\i<xs.length:=by
 unfold atI at h;cases e:ixN xs.length i with
 |none=>rw[e]at h;cases h
 |some j=>rw[e]at h;obtain⟨c,f,b,d⟩:=nX e;exact⟨j,c,h,f,b,d⟩
def fe(b:Ot):Prop:=∀o i,subscripted b false o i=operate [o,i] (getItem o i)
def IxR(X:Cx)(r:R2):Prop:=
 ∀(c a:Ot)(b:Oh)(s:Om)(d:St)(H:Hp)(x y:V)(v u:Value) (Q:VK),Inv X b d H s->RelV x v->RelV y u->r x y H Q->
  subscripted a false v u=operate [v,u] (getItem v u)->wpAny (Px X) X.A (subscriptTail c a v u) (EP X b d Q) X.xe s
def MtR(X:Cx)(id:String)(r:V->List V->Hp->VK->Prop):Prop:=
 ∀(a:Oh)(s:Om)(b:St)(H:Hp)(x:V)(d:Ow)(v:Value) (c:Oo) (Q:VK),Inv X a b H s->RelV x v->Vals d c->r x d H Q->
  wpAny (Px X) X.A (call (.builtin id) (v::c)) (EP X a b Q) X.xe s
section
variable {X:Cx}{a b:Ot}{ta tb:TE}{pos:Pos}
def IxR.or(h:IxR X r)(h':IxR X r'):IxR X (λx y H Q=>r x y H Q\/r' x y H Q):=by
 intro c d e s g H x y v u Q I j i q f;rcases q with q|q
 .exact h c d e s g H x y v u Q I j i q f
 .exact h' c d e s g H x y v u Q I j i q f
def Lz(i:IxR X r)(d:PE X a ta)(n:PE X b tb)(m:fe b):PE X (.Subscript a b pos) (tOp r ta tb):=by intro c s j H Q I h;exact Subscript_ (Lp d n I h λv u s2 x y e l g f q=>i a b c s2 j e x y v u Q l g f q (m _ _))
def MX(K:OA):R2:=λx y H Q=>∃p c i v,x=.ref p/\y=.int i/\SqL K H p c/\atI c i=some v/\Q v H
def MY(K:OA):R2:=λx y H Q=>∃p c i v,x=.ref p/\y=.int i/\SqT K H p c/\atI c i=some v/\Q v H
def MZ:R2:=λx y H Q=>∃z i c,x=.str z/\y=.int i/\z.length<=sizeLine/\atI z.cps.toList i=some c/\Q (.str ⟨#[c]⟩) H
def Cv:IxR X (MX X.K):=by
 intro f o c s B H x y v u Q I J G h C;obtain⟨p,S,i,z,rfl,rfl,O,L,q⟩:=h;cases J;obtain⟨t,rfl⟩:=G;obtain⟨n,r,g,hz⟩:=I.list O;obtain⟨j,e,N,R,M,E⟩:=fc L;obtain⟨w,D,l⟩:=r.get N;have K:=r.length;have P:=cg;have d:EP X c B Q w s:=⟨z,H,I,l,q⟩;by_cases A:0<=i
 .have m:=by rw[a4x A E]at e;exact a0e e
  exact item_listR g.isList A (by omega) (by grind) d C
 .have m:(i+n.toArray.size).toNat=j:=by rw[a4m (by omega) M]at e;rw[P4,<- K];exact a0e e
  exact a3F g.isList.typeIs slot_list_getitem.lookup
   (wpAny_getItem_list_neg g.isList (by omega) (by grind) (by omega) (by grind) ⟨rfl,d⟩) C
def FK:IxR X (MY X.K):=by
 intro e g c s m H x y v u Q I B o h G;obtain⟨p,O,i,z,rfl,rfl,J,E,q⟩:=h;cases B;obtain⟨t,rfl⟩:=o;obtain⟨D,r,l,hz⟩:=I.tuple J;obtain⟨j,A,F,N,P,L⟩:=fc E;obtain⟨w,K,f⟩:=r.get F;have C:=r.length;have M:=cg;have d:EP X c m Q w s:=⟨z,H,I,f,q⟩;exact a3F l.typeIs slot_tuple_getitem.lookup
  (getItem_tuple (j:=j) l (by omega) (by omega) (by grind) (by grind) ⟨rfl,d⟩) G
def nY:IxR X MZ:=by
 intro d e g s F H x y v u Q I o n h C;obtain⟨z,i,c,rfl,rfl,hz,w,q⟩:=h;obtain⟨t,rfl⟩:=o;obtain⟨G,rfl⟩:=n;obtain⟨j,f,B,E,A,l⟩:=fc w;have p:z.cps.toList.length=z.length:=by simp[Str.length]
 rw[p]at f A l;have D:=cg;exact tail_any (typeIs_str s z t) slot_str_getitem.lookup (getItem_str (by
  have r:decide (i < -(2 ^ 63:Int))=false:=O4 (by omega);have m:decide (i ≥ 2 ^ 63)=false:=O4 (by omega);rw[r,m,Bool.or_false]) (by grind) ⟨.str ⟨#[c]⟩,H,I.tok _,⟨_,rfl⟩,q⟩) C
def rIx(K:OA):R2:=λx y H Q=>MX K x y H Q\/MY K x y H Q\/MZ x y H Q
def FL:IxR X (rIx X.K):=Cv.or (FK.or nY)
def lV(its:Oo)(n j:Nat)(u:Value):Obj.mapSeq (·.setIfInBounds j u) { cls:=.type "list",data:=.seq its.toArray n }={ cls:=.type "list",data:=.seq (its.set j u).toArray n }:=by simp[Obj.mapSeq]
def Inv.lst(I:Inv X pins σ H s)(h:H p=some (.lst xs)):
  ∃(c:Oo)(n:Nat),Vals xs c/\s.heap.get? p=some { cls:=.type "list",data:=.seq c.toArray n }/\xs.length<=sizeLine:=by
 obtain⟨z,c,n,r,e⟩:=I.hok p _ h;exact⟨c,n,r,e,z⟩
def Inv.FN{pins:Oh}{σ:St}{H:Hp}{s:Om}{p:Addr}{xs ys:Ow}{its its':Oo}{n c:Nat}{f:Obj->Obj}(I:Inv X pins σ H s)(h:H p=some (.lst xs))
  (g:s.heap.get? p=some { cls:=.type "list",data:=.seq its.toArray n }) (hf:f { cls:=.type "list",data:=.seq its.toArray n }={ cls:=.type "list",data:=.seq its'.toArray c }) (r:Vals ys its') (hz:ys.length<=sizeLine) (t:Nat) (i:X.m<=t:=by ac_rfl):
  Inv X pins σ (upd H p (.lst ys)) { s with heap:=s.heap.update p f,toks:=t }:=by
 have e:(s.heap.update p f).get? p=some { cls:=.type "list",data:=.seq its'.toArray c }:=by rw[a0w f g (by rw[hf]<;>rfl),hf]
 exact I.write (x:=p) (e:=p) (by rw[h];trivial) (.inl rfl) (λb u d q=>(T9 _ _ (Ne.symm d)).trans q) ⟨_,e⟩ ⟨hz,its',c,r,e⟩
def LB:V->V->V->Hp->(Hp->Prop)->Prop:=λo i v H Q=>∃p c k j,o=.ref p/\i=.int k/\H p=some (.lst c)/\ixN c.length k=some j/\Q (upd H p (.lst (c.set j v)))
def set_list:MU X LB:=by
 intro d s A H o i v J G u Q I C E D h;obtain⟨p,z,k,j,rfl,rfl,hp,B,q⟩:=h;cases C;obtain⟨t,rfl⟩:=E;obtain⟨c,n,r,l,hz⟩:=I.lst hp;obtain⟨e,K,m,x⟩:=nX B;have f:=r.length;have F:=cg;have y:=
  I.FN hp l (lV c n j u) (r.set D j) (by grind) s.toks
 by_cases w:0<=k
 .have g:=by rw[a4x w x]at e;exact a0e e
  exact PySem.W.ki_setAt l w (by omega) (by grind) (by grind)
 .have g:(k+c.toArray.size).toNat=j:=by rw[a4m (by omega) m]at e;rw[P4,<- f];exact a0e e
  exact PySem.W.ki_setBack l (by omega) (by grind) (by omega) (by grind)
def cz(c d:OT)(n:Nat):(sliceBounds c d none n).1=((HT.sIx n 0 c:Nat):Int)/\(sliceBounds c d none n).2.1=((HT.sIx n n d:Nat):Int)/\(sliceBounds c d none n).2.2=1:=by
 refine⟨?_,?_,rfl⟩
 .cases c with
  |none=>simp[sliceBounds,HT.sIx]
  |some i=>
   simp only[sliceBounds,HT.sIx,Option.getD_none,if_true];by_cases h:i<0
   .simp only[h,if_true]<;>omega
   .simp only[h,if_false]<;>omega
 .cases d with
  |none=>simp[sliceBounds,HT.sIx]
  |some i=>
   simp only[sliceBounds,HT.sIx,Option.getD_none,if_true];by_cases h:i<0
   .simp only[h,if_true]<;>omega
   .simp only[h,if_false]<;>omega
def ay(its:Oo)(c d:OT):slicePick its.toArray c d none=((its.drop (HT.sIx its.length 0 c)).take (HT.sIx its.length its.length d-HT.sIx its.length 0 c)).toArray:=by obtain⟨f,g,e⟩:=cz c d its.toArray.size;unfold slicePick;rw[f,g,e];simp only[sliceRange_one,pick_run]<;>rfl
def NM(K:OA):V->Option Int->Option Int->Hp->VK->Prop:=λx d e H Q=>∃a c,x=.ref a/\SqL K H a c/\∀p,H p=none->Q (.ref p) (upd H p (.lst (nW c d e)))
def nZ:SlR X (NM X.K):=by intro i s w H x v y u e f z Q I l t j n h;obtain⟨a,c,rfl,m,q⟩:=h;cases l;obtain⟨p,r,g,hz⟩:=I.list m;have d:=r.length;refine⟨"list",_,slot_list_getitem.lookup,g.isList.typeIs,?_⟩;refine wpAny_getItem_list_slice g.isList t j n .none (by simp) ?_ (by grind);rw[ay,<- d];refine⟨.ref s.heap.objs.size,_,I.laid (λb ob q=>O0 _ q) (O2 _) ?_,rfl,q _ (I.hok.fresh (O2 _))⟩;exact⟨P8 (WY c e f) hz,_,0,(r.drop (HT.sIx c.length 0 e)).take (HT.sIx c.length c.length f-HT.sIx c.length 0 e),P9 _ rfl⟩
def Qy:V->Bool
 |.non=>true
 |.bl _=>true
 |.int _=>true
 |.str _=>true
 |_=>false
def eqV:V->V->Bool
 |.non,.non=>true
 |.bl a,.bl b=>a==b
 |.bl a,.int b=>(if a then 1 else 0)==b
 |.int a,.bl b=>a==(if b then 1 else 0)
 |.int a,.int b=>a==b
 |.str a,.str b=>a==b
 |_,_=>false
def A6(e:RelV y u)(c:RelV x v)(g:Qy y=true)(f:Qy x=true):SeqAt.EqAt A s u v (eqV y x):=by
 cases y with
 |non=>
  cases e;cases x with
  |non=>cases c;exact a3w _
  |bl b=>cases c;exact SeqAt.EqAt.none_bool b
  |int b=>obtain⟨t,rfl⟩:=c;exact SeqAt.EqAt.none_int b t
  |str b=>obtain⟨t,rfl⟩:=c;exact SeqAt.EqAt.none_str b t
  |_=>exact absurd f P0
 |bl a=>
  cases e;cases x with
  |non=>cases c;exact SeqAt.EqAt.bool_none a
  |bl b=>cases c;exact SeqAt.EqAt.bool_bool a b
  |int b=>obtain⟨t,rfl⟩:=c;exact SeqAt.EqAt.bool_int a b t
  |str b=>obtain⟨t,rfl⟩:=c;exact SeqAt.EqAt.bool_str a b t
  |_=>exact absurd f P0
 |int a=>
  obtain⟨d,rfl⟩:=e;cases x with
  |non=>cases c;exact SeqAt.EqAt.int_none a d
  |bl b=>cases c;exact SeqAt.EqAt.int_bool a d b
  |int b=>obtain⟨t,rfl⟩:=c;exact SeqAt.EqAt.int_int a d b t
  |str b=>obtain⟨t,rfl⟩:=c;exact a4i a d b t
  |_=>exact absurd f P0
 |str a=>
  obtain⟨d,rfl⟩:=e;cases x with
  |non=>cases c;exact SeqAt.EqAt.str_none a d
  |bl b=>cases c;exact SeqAt.EqAt.str_bool a d b
  |int b=>obtain⟨t,rfl⟩:=c;exact a4j a d b t
  |str b=>obtain⟨t,rfl⟩:=c;exact SeqAt.EqAt.str_str a d b t
  |_=>exact absurd f P0
 |_=>exact absurd g P0
def eqU(x:V)(u:Value):Bool:=match u with
 |.none=>eqV .non x
 |.bool b=>eqV (.bl b) x
 |.int i _=>eqV (.int i) x
 |.str z _=>eqV (.str z) x
 |_=>false
def n4(r:RelV y u)(f:Qy y=true):eqU x u=eqV y x:=by
 cases y with
 |non=>cases r;rfl
 |bl b=>cases r;rfl
 |int i=>obtain⟨t,rfl⟩:=r;rfl
 |str z=>obtain⟨t,rfl⟩:=r;rfl
 |_=>exact absurd f P0
theorem WZ{x:V}:∀{c:Ow}{d:Oo},Vals c d->c.all Qy=true->d.any (eqU x)=c.any λy=>eqV y x
 |_,_,.nil,_=>rfl
 |y::c,u::d,.cons r t,f=>by rw[a0W,S8]at f;rw[a0X,a0X,n4 r f.1,WZ t f.2]
theorem Qr{A:OG}{s:Om}{x:V}{v:Value}(h:RelV x v)(g:Qy x=true):∀{e:Ow}{d:Oo},Vals e d->e.all Qy=true->∀u∈d,SeqAt.EqAt A s u v (eqU x u)
 |_,_,.nil,_=>λu c=>by cases c
 |y::e,u::d,.cons r t,f=>λi c=>by
  rw[a0W,S8]at f;rcases P7.mp c with rfl|c
  .rw[n4 r f.1];exact A6 r h f.1 g
  .exact Qr h g t f.2 i c
def inV(x:V)(xs:Ow):Bool:=xs.any λy=>eqV y x
def rIn(K:OA)(d:Bool):R2:=λx y H Q=>∃p c,y=.ref p/\(SqL K H p c\/SqT K H p c)/\Qy x=true/\c.all Qy=true/\Q (.bl (if d then !inV x c else inV x c)) H
def n5:OpR X (compareOp .In) (rIn X.K false):=by
 intro j s n H x y v u Q I g l h;obtain⟨p,m,rfl,d,i,fs,q⟩:=h;cases l;rcases d with d|d
 .obtain⟨c,r,f,hz⟩:=I.list d;refine SeqAt.in_listAt (eqU x) f.isList (λw e=>Qr g i r fs w (by grind)) ⟨.bl _,H,I,rfl,?_⟩;rw[show c.toArray.any (eqU x)=c.any (eqU x) by simp,WZ r fs];exact q
 .obtain⟨c,r,f,hz⟩:=I.tuple d;refine SeqAt.in_tupleAt (eqU x) f (λw e=>Qr g i r fs w (by grind)) ⟨.bl _,H,I,rfl,?_⟩;rw[show c.toArray.any (eqU x)=c.any (eqU x) by simp,WZ r fs];exact q
def cA:OpR X (compareOp .NotIn) (rIn X.K true):=by
 intro j s n H x y v u Q I g l h;obtain⟨p,m,rfl,d,i,fs,q⟩:=h;cases l;rcases d with d|d
 .obtain⟨c,r,f,hz⟩:=I.list d;refine SeqAt.notIn_listAt (eqU x) f.isList (λw e=>Qr g i r fs w (by grind)) ⟨.bl _,H,I,rfl,?_⟩;rw[show c.toArray.any (eqU x)=c.any (eqU x) by simp,WZ r fs];exact q
 .obtain⟨c,r,f,hz⟩:=I.tuple d;refine SeqAt.notIn_tupleAt (eqU x) f (λw e=>Qr g i r fs w (by grind)) ⟨.bl _,H,I,rfl,?_⟩;rw[show c.toArray.any (eqU x)=c.any (eqU x) by simp,WZ r fs];exact q
def cB:OpR X (compareOp .NotIn) (λx y H Q=>∃i j,x=.str i/\y=.str j/\Q (.bl (!(!(Builtin.Str.occurrences j i 0 j.length 1).isEmpty))) H):=by intro c s f H x y v u Q I e d h;obtain⟨i,j,rfl,rfl,q⟩:=h;obtain⟨t,rfl⟩:=e;obtain⟨g,rfl⟩:=d;exact notIn_str ⟨.bl _,H,I,rfl,q⟩
def jR.or(h:jR X f r)(h':jR X f r'):jR X f (λd H Q=>r d H Q\/r' d H Q):=by
 intro c s e H d g Q I i q;rcases q with q|q
 .exact h c s e H d g Q I i q
 .exact h' c s e H d g Q I i q
def cC:jR X (.type "list") (λC H Q=>∃p f,C=[.ref p]/\(SqL X.K H p f\/SqT X.K H p f)/\∀l,H l=none->Q (.ref l) (upd H l (.lst f))):=by
 intro w s E H C F Q I r h;obtain⟨p,f,rfl,v,q⟩:=h;obtain⟨u,rfl,D⟩:=vals1 r;cases D;have j:∀(c:Oo),Vals f c->f.length<=sizeLine->∀(d:Heap)(i:Nat),(∀b B,s.heap.get? b=some B->d.get? b=some B)->
   d.get? s.heap.objs.size=some { cls:=.type "list",dict:=none,data:=.seq c.toArray i,slots:=#[] }->EP X w E Q (.ref s.heap.objs.size) { s with heap:=d }:=λc g hz d i t e=>
  ⟨.ref s.heap.objs.size,_,I.laid t (O2 _) (show yR X.prog X.w _ d _ (.lst f)from⟨hz,c,i,g,e⟩),rfl,q _ (I.hok.fresh (O2 _))⟩
 rcases v with v|v
 .obtain⟨c,g,x,hz⟩:=I.list v;have m:=g.length;obtain⟨o,A,y,n,z⟩:=x.isList;exact call_list_seq p (.inl rfl) A y z (λd i t e=>j c g hz d i t e) (by grind)
 .obtain⟨c,g,x,hz⟩:=I.tuple v;have m:=g.length;obtain⟨o,A,y,n,z⟩:=x;exact call_list_seq p (.inr rfl) A y z (λd i t e=>j c g hz d i t e) (by grind)
def tyV(K:OA)(T:String)(x:V)(H:Hp):Prop:=match x with
 |.str _=>T="str"
 |.int _=>T="int"
 |.ref p=>(T="list" /\ ∃d,SqL K H p d)\/(T="tuple" /\ ∃o,K.lookup p=some o/\o.cls=.type "tuple"/\o.dict=none)\/
   (T="dict"/\((∃c,H p=some (.dK c))\/∃c,H p=some (.dT c)))\/(T="set" /\ ∃S n,H p=some (.set S n))
 |_=>False
def A7(I:Inv X pins σ H s)(r:RelV x v)(g:tyV X.K T x H):
  s.TypeIs v T/\∀a,v=.ref a->∃ob,s.heap.get? a=some ob/\ob.dict=none:=by
 cases x with
 |str z=>obtain⟨t,rfl⟩:=r;cases g;exact⟨typeIs_str s z t,λ_ e=>nomatch e⟩
 |int i=>obtain⟨t,rfl⟩:=r;cases g;exact⟨typeIs_int s i t,λ_ e=>nomatch e⟩
 |ref p=>
  cases r;rcases g with⟨rfl,y,w⟩|⟨rfl,o,d,q,j⟩|⟨rfl,d⟩|⟨rfl,S,n,d⟩
  .obtain⟨u,_,m,_⟩:=I.list w;refine⟨m.isList.typeIs,λa e=>?_⟩;cases e;obtain⟨o,n,e,c,j,_⟩:=m;exact⟨o,e,j⟩
  .refine⟨⟨o,I.kIn p o d,q⟩,λa e=>?_⟩;cases e;exact⟨o,I.kIn _ o d,j⟩
  .have z:∃o,s.heap.get? p=some o/\o.ExactDict:=by
    rcases d with⟨l,d⟩|⟨l,d⟩
    .obtain⟨_,_,_,_,o,_,_,e,f,_⟩:=I.hok p _ d;exact⟨o,e,f⟩
    .obtain⟨_,_,_,_,o,_,_,e,f,_⟩:=I.hok p _ d;exact⟨o,e,f⟩
   obtain⟨o,e,f⟩:=z;refine⟨⟨o,e,f.1⟩,λa h=>?_⟩;cases h;exact⟨o,e,f.2.1⟩
  .obtain⟨o,_,_,_,e,f,_⟩:=I.hok p _ d;refine⟨⟨o,e,f.1⟩,λa h=>?_⟩;cases h;exact⟨o,e,f.2.1⟩
 |_=>exact False.elim g
def NO(K:OA)(T:String)(r:V->List V->Hp->VK->Prop)(d:TE):TE:=λe H Q=>d e H λx c=>tyV K T x c/\r x [] c Q
def tBM(K:OA)(T:String)(r:V->List V->Hp->VK->Prop)(e:TE)(t:TA):TE:=λc H Q=>e c H λx d=>tyV K T x d/\t c d λg f=>r x g f Q
variable {o e:Ot}{es:Oq}{to:TE}{t:TA}{name:Str}{qO jK:Pos}{T id:String}{r:V->List V->Hp->VK->Prop}
def FO(z:PlainAttrs T)(d:Slot T name id)(f:typeOf (.builtin id)=pure (.type "method_descriptor"))(l:MtR X id r)(B:PE X o to)
  (n:attributeBase o name X.env (eval o X.env)=eval o X.env:=by rfl) (y:(qO.endLine==jK.line)=true:=by rfl):PE X (.Call (.Attribute o name qO) [] [] jK) (NO X.K T r to):=by
 intro c s j H Q I h;refine a3n n y (thn (B c s j H _ I h) λv m ⟨x,p,i,g,q,w⟩=>?_);obtain⟨u,A⟩:=A7 i g q;exact⟨T,id,z,d,f,u,A,a1j rfl (a4f (l c m j p x [] v [] Q i g .nil w))⟩
def uC(G:PlainAttrs T)(f:Slot T name id)(i:typeOf (.builtin id)=pure (.type "method_descriptor"))(u:MtR X id r)(O:PE X o to)(n:PA X (e::es) t)
  (y:attributeBase o name X.env (eval o X.env)=eval o X.env:=by rfl)
  (A:((backTo jK (starEach (e::es) X.env)).all (λx=>!x.1)&&(backToKw jK (keywordEach [] X.env)).all (λx=>x.1.isSome)
   && decide ((e::es).length+([]:List Keyword).length+(if([]:List Keyword).isEmpty then 0 else 1)<30))=true:=by rfl)
  (E:(qO.endLine==jK.line)=true:=by rfl) (M:starEach (e::es) X.env=(false,eval e X.env)::starEach es X.env:=by rfl) (d:(backTo jK (starEach es X.env)).any (·.1)=false:=by rfl):
  PE X (.Call (.Attribute o name qO) (e::es) [] jK) (tBM X.K T r to t):=by
 intro c s g H Q I h;refine wpAny_Call_method_late y A E rfl (thn (O c s g H _ I h) λv w ⟨x,z,m,l,B,D⟩=>?_);obtain⟨C,F⟩:=A7 m l B;refine⟨T,id,G,f,i,C,F,?_⟩;have j:=n jK c w g z _ m D;rw[M]at j ⊢;refine a1j (by grind) (a2z ?_);exact thn j λq s2 ⟨J,p,K,L,N⟩=>u c s2 g p x J v q Q K l L N
end
def MtM(X:Cx)(id:String)(r:V->List V->Hp->VK->Prop):Prop:=
 ∀(a:Oh)(s:Om)(b:St)(H:Hp)(x:V)(d:Ow)(v:Value) (c:Oo) (Q:VK),Inv X a b H s->RelV x v->Vals d c->r x d H Q->
  wpAny (Px X) X.A (call (.builtin id) (v::c)) (EP X a b Q) X.xe s
def Vals.one:∀{x:V}{a:Oo},Vals [x] a->∃u,a=[u]/\RelV x u
 |_,_,.cons r .nil=>⟨_,rfl,r⟩
def Vals.two:∀{x y:V}{a:Oo},Vals [x,y] a->∃u v,a=[u,v]/\RelV x u/\RelV y v
 |_,_,_,.cons r (.cons q .nil)=>⟨_,_,rfl,r,q⟩
def Vals.zero:∀{a:Oo},Vals [] a->a=[]
 |_,.nil=>rfl
def Vals.dropLast(h:Vals xs us):Vals xs.dropLast us.dropLast:=by
 induction h with
 |nil=>exact .nil
 |cons r t a=>
  cases t with
  |nil=>exact .nil
  |cons q b=>exact .cons r a
def Vals.eraseIdx:∀{b:Ow}{a:Oo}(i:Nat),Vals b a->Vals (b.eraseIdx i) (a.eraseIdx i)
 |_,_,_,.nil=>.nil
 |_,_,0,.cons _ t=>t
 |_,_,i+1,.cons r t=>.cons r (Vals.eraseIdx i t)
def Vals.rep{xs:Ow}{us:Oo}(h:Vals xs us):∀k:Nat,Vals (List.replicate k xs).flatten (List.replicate k us).flatten
 |0=>.nil
 |k+1=>by exact Vals.append h (Vals.rep h k)
def lW{c:Type}(l:List c):l.eraseIdx (l.length-1)=l.dropLast:=by simp
theorem cD{a:Type}:∀(l:List a)(i:Nat),(l.eraseIdx i).length<=l.length
 |[],_=>O2 _
 |_::_,0=>a0Y _
 |_::r,i+1=>Nat.succ_le_succ (cD r i)
theorem foldl_rep(its:Oo):∀(k:Nat)(a:Oo),
  List.foldl (λc d=>c++d) a.toArray (List.replicate k its.toArray)=(a++(List.replicate k its).flatten).toArray
 |0,a=>by simp
 |k+1,a=>by
  have e:a.toArray++its.toArray=(a++its).toArray:=by simp
  have b:(a++its)++(List.replicate k its).flatten=a++(List.replicate (k+1) its).flatten:=by rw[a02,a1u,a0H]
  rw[<- b,<- foldl_rep its k (a++its),<- e,a02,a00]
def Inv.IL{its its':Oo}{n:Nat}{f:Array Value->Array Value}{t':Nat}(I:Inv X pins σ H s)(d:H l=some (.lst xs))
  (e:s.heap.get? l=some { cls:=.type "list",data:=.seq its.toArray n }) (hf:f its.toArray=its'.toArray) (a:Vals ys its') (hz:ys.length<=sizeLine) (h:X.m<=t':=by ac_rfl):
  Inv X pins σ (upd H l (.lst ys)) { s with heap:=s.heap.update l (Obj.mapSeq f),toks:=t' }:=by
 have q:=PySem.IsL.update e f;rw[hf]at q;exact I.write (x:=l) (e:=l) (by rw[d];exact trivial) (.inl rfl) (λg u b c=>(T9 s.heap (Obj.mapSeq f) (Ne.symm b)).trans c) ⟨_,q⟩ ⟨hz,its',_,a,q⟩
def Inv.LD(I:Inv X pins σ H s)(a:Vals ys its)(hz:ys.length<=sizeLine)(b:X.m<=t':=by ac_rfl):
  Inv X pins σ (upd H s.heap.objs.size (.lst ys)) { s with heap:=s.heap.push { cls:=.type "list",data:=.seq its.toArray },toks:=t' }:=
 I.laid (λ_ _ q=>O0 _ q) (O2 _) ⟨hz,its,0,a,P9 _ rfl⟩
def Inv.fresh(I:Inv X pins σ H s):H s.heap.objs.size=none:=I.hok.fresh (O2 _)
def Inv.Cw(I:Inv X pins σ H s)(b:H l=some (.lst xs)):xs.length<=sizeLine/\∃(a:Oo)(n:Nat),Vals xs a/\xs.length=a.length/\s.heap.get? l=some { cls:=.type "list",data:=.seq a.toArray n }:=by obtain⟨z,a,n,r,e⟩:=I.hok l _ b;exact⟨z,a,n,r,r.length,e⟩
def uD(h:n<=sizeLine):Builtin.List.listTooLong n=false:=by exact O4 (by omega)
section
variable {X:Cx}
def Cy:V->List V->Hp->VK->Prop:=λx b H Q=>∃l a y,x=.ref l/\b=[y]/\H l=some (.lst a)/\a.length<sizeLine/\Q .non (upd H l (.lst (a++[y])))
def cE:MtM X "list.append" Cy:=by intro c s o H x p v i Q I f g h;obtain⟨l,j,y,rfl,rfl,b,hz,q⟩:=h;cases f;obtain⟨u,rfl,d⟩:=g.one;obtain⟨z,a,n,r,m,e⟩:=I.Cw b;refine a2f F.slot_list_append ⟨_,e,rfl⟩ F.entry_list_append (F.args_list_append_2 _ _) (PySem.list_append l a.toArray n u (by grind)) ⟨e,?_⟩;refine⟨.non,_,I.IL b e (by simp) (r.append (.cons d .nil)) ?_,rfl,q⟩;rw[P2,a2r];omega
def NP:V->List V->Hp->VK->Prop:=λx b H Q=>∃l a y,x=.ref l/\b=[]/\H l=some (.lst a)/\a[a.length-1]?=some y/\Q y (upd H l (.lst a.dropLast))
def FP:MtM X "list.pop" NP:=by
 intro f s A H x B v t Q I j o h;obtain⟨l,w,y,rfl,rfl,d,p,q⟩:=h;cases j;have b:=o.zero;subst b;obtain⟨z,a,n,r,m,e⟩:=I.Cw d;obtain⟨u,i,g⟩:=r.get p;have c:=by show a.toArray[a.length-1]?=some u;rw[<- a1Q,<- m];exact i
 refine a2f F.slot_list_pop ⟨_,e,rfl⟩ F.entry_list_pop (F.args_list_pop_1 _) (MeetsSeq.list_pop_last l a.toArray n u c (by grind)) ⟨e,?_⟩;refine⟨y,_,I.IL d e ?_ r.dropLast ?_,g,q⟩
 .rw[P4,a2y,lW]
 .rw[List.length_dropLast];omega
def FQ:V->List V->Hp->VK->Prop:=λx b H Q=>∃l a i k y,x=.ref l/\b=[.int i]/\H l=some (.lst a)/\-(2 ^ 63)<=i/\i<2 ^ 63/\seqIndex? i a.length=some k/\a[k]?=some y/\Q y (upd H l (.lst (a.eraseIdx k)))
def uE:MtM X "list.pop" FQ:=by
 intro d s G H x J v E Q I m A h;obtain⟨l,o,i,k,y,rfl,rfl,c,j,C,D,B,q⟩:=h;cases m;obtain⟨u,rfl,f⟩:=A.one;obtain⟨t,rfl⟩:=f;obtain⟨z,a,n,r,p,e⟩:=I.Cw c;obtain⟨w,g,b⟩:=r.get B;refine a2f F.slot_list_pop ⟨_,e,rfl⟩ F.entry_list_pop (F.args_list_pop_2 _ _)
  (MeetsSeq.list_pop_at l a.toArray n i t k w (fitsIndex_both j C) (by grind) (by grind) (by grind)) ⟨e,?_⟩
 refine⟨y,_,I.IL c e ?_ (r.eraseIdx k) ?_,b,q⟩
 .rw[a2y]
 .have:=cD o k;omega
def M3:R2:=λx y H Q=>∃l b c a,x=.ref l/\y=.ref b/\H l=some (.lst c)/\H b=some (.lst a)/\c.length+a.length<=sizeLine/\∀p,H p=none->Q (.ref p) (upd H p (.lst (c++a)))
def FR:OpR X (binaryOp .Add) M3:=by
 intro d s C H x y v u Q I j i h;obtain⟨l,b,A,t,rfl,rfl,f,hB,hz,q⟩:=h;cases j;cases i;obtain⟨z,c,n,r,B,e⟩:=I.Cw f;obtain⟨w,a,D,p,o,g⟩:=I.Cw hB;refine PySem.P.add_list e g ?_ (by grind);have m:c.toArray++a.toArray=(c++a).toArray:=by simp
 rw[m];exact⟨.ref _,_,I.LD (r.append p) (by grind),rfl,q _ I.fresh⟩
def M6:R2:=λx y H Q=>∃l k a,x=.ref l/\y=.int k/\H l=some (.lst a)/\-(2 ^ 63)<=k/\k<2 ^ 63/\a.length*k.toNat<=sizeLine/\
 ∀p,H p=none->Q (.ref p) (upd H p (.lst (List.replicate k.toNat a).flatten))
def len_rep{b:Type}(xs:List b)(k:Nat):(List.replicate k xs).flatten.length=k*xs.length:=by simp
def FT:OpR X (binaryOp .Mult) M6:=by
 intro p s L H x y v u Q I D B h;obtain⟨l,k,K,rfl,rfl,A,C,G,hz,q⟩:=h;cases D;obtain⟨t,rfl⟩:=B;obtain⟨z,b,n,r,E,e⟩:=I.Cw A;have g:b.toArray.size*k.toNat<=sizeLine:=by rw[P4,<- E];exact hz
 have i:¬b.toArray.size*k.toNat>(2 ^ 63-1) / 8:=by
  have:(sizeLine:Nat)<=(2 ^ 63-1) / 8:=by decide
  omega
 have f:¬(!Builtin.List.listFitsIndex k)=true:=by rw[fitsIndex_both C G];exact P0
 have c:¬Builtin.List.listTooLong (b.toArray.size*k.toNat)=true:=by rw[uD g];exact P0
 have d:List.foldl (λj o=>j++o) #[] (List.replicate (if b.toArray.isEmpty=true then 0 else k.toNat) b.toArray)=(List.replicate k.toNat b).flatten.toArray:=by
  have J:=λm=>by have:=foldl_rep b m [];rw[a1J]at this;exact this
  rw[J];cases b with
  |nil=>simp
  |cons a M=>rw[if_neg (by simp)]
 refine wpAny_binaryOp_repeat_ref (T:="list") (U:="int") (by decide) ⟨_,e,rfl⟩ (λw=>typeIs_int w k t) noFill_list_mul F.fills_int_mul F.slot_int_rmul repeat_list F.slot_int_index.lookup
  (a2f F.slot_int_rmul (typeIs_int s k t) F.entry_int_rmul (F.args_int_rmul_2 _ _) (int___rmul___int_list k t l b.toArray n)
   ⟨e,rfl,⟨_,e,rfl⟩,a2f F.slot_list_mul ⟨_,e,rfl⟩ F.entry_list_mul (F.args_list_mul_2 _ _) (AutoListH.list___mul___list_int_3 l b.toArray n k t f i c) ⟨e,?_⟩⟩)
 rw[d];exact⟨.ref _,_,I.LD (t':=s.toks) (r.rep k.toNat) (by rw[len_rep,Nat.mul_comm];exact hz),rfl,q _ I.fresh⟩
end
section
variable {κ:Type}[DecidableEq κ]
def Ui(kvs:List (κ×V))(k:κ):Option V:=(kvs.find? λa=>decide (a.1=k)).map (·.2)
def putK(kvs:List (κ×V))(k:κ)(v:V):List (κ×V):=
 if(kvs.any λa=>decide (a.1=k))=true then kvs.map (λa=>if a.1=k then(a.1,v)else a)else kvs++[(k,v)]
def cF(kvs:List (κ×V))(k:κ):List (κ×V):=kvs.filter λa=>decide (a.1≠k)
def az{p:κ×V}{r:List (κ×V)}{k:κ}(e:p.1=k):Ui (p::r) k=some p.2:=by simp[Ui,List.find?_cons,e]
def aA{p:κ×V}{r:List (κ×V)}{k:κ}(e:¬p.1=k):Ui (p::r) k=Ui r k:=by simp[Ui,List.find?_cons,e]
theorem gU(k:κ):∀a:List (κ×V),(a.any λb=>decide (b.1=k))=(Ui a k).isSome
 |[]=>rfl
 |p::r=>by
  rw[a0X];by_cases e:p.1=k
  .simp only[az e,decide_eq_true e,Bool.true_or,Option.isSome_some]
  .rw[aA e,O4 e];exact gU k r
def W0(kvs:List (κ×V))(k:κ)(v:V):(putK kvs k v).length<=kvs.length+1:=by
 unfold putK;split
 .rw[u8];omega
 .rw[P2,O1,a2A];omega
def Uh.Yr(r:Uh o u):o.isSome=u.isSome:=by
 cases o with
 |none=>cases u with
  |none=>rfl
  |some _=>exact r.elim
 |some _=>cases u with
  |none=>exact r.elim
  |some _=>rfl
def Uh.getD(r:Uh o u)(rd:RelV d d'):RelV (o.getD d) (u.getD d'):=by
 cases o with
 |none=>cases u with
  |none=>exact rd
  |some _=>exact r.elim
 |some _=>cases u with
  |none=>exact r.elim
  |some _=>exact r
def KV.val{kvs:List (κ×V)}{vs:List (κ×Value)}(r:KV kvs vs)(k:κ):Uh (Ui kvs k) (valueAt vs k):=by
 unfold KV at r
 induction r with
 |nil=>exact True.intro
 |@cons p q i a h t f=>
  obtain⟨d,g⟩:=h;by_cases e:p.1=k
  .have c:=d.symm.trans e;have b:valueAt (q::a) k=some q.2:=by simp[valueAt,List.find?_cons,c]
   rw[az e,b];exact g
  .have c:¬q.1=k:=λz=>e (d.trans z);have b:valueAt (q::a) k=valueAt a k:=by simp[valueAt,List.find?_cons,c]
   rw[aA e,b];exact f
def KV.any{kvs:List (κ×V)}{vs:List (κ×Value)}(r:KV kvs vs)(k:κ):(kvs.any λa=>decide (a.1=k))=vs.any λa=>decide (a.1=k):=by
 unfold KV at r
 induction r with
 |nil=>rfl
 |cons h t b=>rw[a0X,a0X,b,h.1]
def KV.LF{kvs:List (κ×V)}{vs:List (κ×Value)}(r:KV kvs vs)(k:κ)(d:RelV y u):
  KV (kvs.map λa=>if a.1=k then(a.1,y)else a) (vs.map λa=>if a.1=k then(a.1,u)else a):=by
 unfold KV at r ⊢
 induction r with
 |nil=>exact .nil
 |@cons p q i g h t c=>
  rw[R7,R7];refine .cons ?_ c;obtain⟨b,f⟩:=h;by_cases e:p.1=k
  .rw[if_pos e,if_pos (b.symm.trans e)];exact⟨b,d⟩
  .rw[if_neg e,if_neg (λz=>e (b.trans z))];exact⟨b,f⟩
def KV.put{kvs:List (κ×V)}{vs:List (κ×Value)}(r:KV kvs vs)(k:κ)(a:RelV y u):KV (putK kvs k y) (stored vs k u):=by
 unfold putK stored;rw[r.any k];by_cases e:(vs.any λb=>decide (b.1=k))=true
 .rw[if_pos e,if_pos e];exact r.LF k a
 .rw[if_neg e,if_neg e];exact Paired.snoc r ⟨rfl,a⟩
def KV.drop{kvs:List (κ×V)}{vs:List (κ×Value)}(r:KV kvs vs)(k:κ):KV (cF kvs k) (without vs k):=by
 unfold cF without
 induction r with
 |nil=>exact .nil
 |@cons p q j i h t d=>
  obtain⟨c,g⟩:=h;rw[a06,a06];by_cases e:p.1=k
  .have a:¬decide (p.1≠k)=true:=by simp[e]
   have b:¬decide (q.1≠k)=true:=by simp[c.symm.trans e]
   rw[if_neg a,if_neg b];exact d
  .have f:¬q.1=k:=λz=>e (c.trans z);have a:decide (p.1≠k)=true:=by simp[e]
   have b:decide (q.1≠k)=true:=by simp[f]
   rw[if_pos a,if_pos b];exact .cons ⟨c,g⟩ d
def KV.length{kvs:List (κ×V)}{vs:List (κ×Value)}(r:KV kvs vs):kvs.length=vs.length:=a0I r
def uF(kvs:List (κ×V))(k:κ):(cF kvs k).length<=kvs.length:=a0J _ _
end
def cG(r:RelV (kV k) u):(z9 P w).is k u=true:=by
 cases k with
 |inl i=>obtain⟨t,e⟩:= r;subst e;exact eY P w i t
 |inr x=>obtain⟨t,e⟩:= r;subst e;exact eZ P w x t
theorem cH{P:Ox}{w:OE}:∀{a:OV}{b:Oo},Vals (a.map kV) b->ItemsAre (z9 P w) a b
 |[],_,r=>by cases r;exact .nil
 |k::a,_,r=>by
  cases r with
  |cons h t=>exact .cons (cG h) (cH t)
abbrev KT(H:Hp):List (List Key×V)->List (List Key×Addr×Value)->Prop:=Paired λp q=>p.1=q.1/\H q.2.1=some (.tup (p.1.map kV))/\RelV p.2 q.2.2
def KT.val(r:KT H kvs xs)(k:OV):Uh (Ui kvs k) ((atKey xs k).map (·.2)):=by
 induction r with
 |nil=>exact True.intro
 |@cons p q i a h t f=>
  obtain⟨d,_,g⟩:=h;by_cases e:p.1=k
  .have c:=d.symm.trans e;have b:atKey (q::a) k=some q.2:=by simp[atKey,List.find?_cons,c]
   rw[az e,b];exact g
  .have c:¬q.1=k:=λz=>e (d.trans z);have b:atKey (q::a) k=atKey a k:=by simp[atKey,List.find?_cons,c]
   rw[aA e,b];exact f
def KT.LF(r:KT H kvs xs)(k:OV)(g:RelV y u):
  KT H (kvs.map λb=>if b.1=k then(b.1,y)else b) (xs.map (putAt k u)):=by
 induction r with
 |nil=>exact .nil
 |@cons p q j i h t f=>
  rw[R7];refine .cons ?_ f;obtain⟨a,c,d⟩:=h;unfold putAt;by_cases e:p.1=k
  .rw[if_pos e,if_pos (a.symm.trans e)];exact⟨a,c,g⟩
  .rw[if_neg e,if_neg (λz=>e (a.trans z))];exact⟨a,c,d⟩
def KT.put(r:KT H kvs xs)(k:OV)(c:H b=some (.tup (k.map kV)))(a:RelV y u):
  KT H (putK kvs k y) (storedH xs k b u):=by
 have e:(kvs.any λd=>decide (d.1=k))=(atKey xs k).isSome:=by rw[gU,(r.val k).Yr,a1P]
 unfold putK storedH;rw[e];by_cases q:(atKey xs k).isSome=true
 .rw[if_pos q,if_pos q];exact r.LF k a
 .rw[if_neg q,if_neg q];exact Paired.snoc r ⟨rfl,c,a⟩
def KT.keeps(r:KT H kvs xs)(c:∀b a,H b=some (.tup a)->H' b=some (.tup a)):KT H' kvs xs:=
 Paired.Lf r λ_ _ z=>⟨z.1,c _ _ z.2.1,z.2.2⟩
def FU(ok:HOk P w H h)(e:Rd H a u):yR P w H h a u:=e.ok ok
def wC(ok:HOk P w H h)(e:Rd H a (.dK kvs)):kvs.length<=sizeLine/\(a==sysModules)=false/\∃b,KV kvs b/\h.DictOf (z9 P w) a b:=
 show yR P w H h a (.dK kvs)from FU ok e
def FV(ok:HOk P w H h)(e:H a=some (.dK kvs)):kvs.length<=sizeLine/\(a==sysModules)=false/\∃b,KV kvs b/\h.DictOf (z9 P w) a b:=wC ok (.inl e)
def UM(ok:HOk P w H h)(e:H a=some (.tup (ks.map kV))):(tupleKind (z9 P w)).is h ks a:=by obtain⟨_,b,r,o,d,f,n,c⟩:= (ok a _ e);exact⟨o,b.toArray,n,d,f,c,by simpa using cH r⟩
def ff(ok:HOk P w H h)(e:Rd H a (.dT kvs)):kvs.length<=sizeLine/\(a==sysModules)=false/\
  ∃c,KT H kvs c/\h.DictOfH (tupleKind (z9 P w)) a c:=by
 obtain⟨z,y,c,r,o,j,u,n,v,g,s,f⟩:= (FU ok e);refine⟨z,y,c,r,o,j,u,n,v,g,s,λx b=>?_,f⟩;have all:∀{l:Pk}{m:List (List Key×Addr×Value)},KT H l m->∀x∈m,(tupleKind (z9 P w)).is h x.1 x.2.1:=by
  intro l m q
  induction q with
  |nil=>intro x b;exact nomatch b
  |@cons p q B A d t i=>
   intro x b;rcases P7.mp b with e|b
   .subst e;exact UM ok (by grind)
   .exact i x b
 exact all r x b
def LH(ok:HOk P w H h)(e:H a=some (.dT kvs)):kvs.length<=sizeLine/\(a==sysModules)=false/\
  ∃b,KT H kvs b/\h.DictOfH (tupleKind (z9 P w)) a b:=ff ok (.inl e)
def m8(H:Hp)(a:Addr)(y:V)(r:Option V):Prop:=
 (∃c k,Rd H a (.dK c)/\y=kV k/\r=Ui c k)\/∃c k b,Rd H a (.dT c)/\y=.ref b/\H b=some (.tup (k.map kV))/\r=Ui c k
def E8(H:Hp)(a:Addr)(y v:V)(H':Hp):Prop:=
 (∃c k,H a=some (.dK c)/\y=kV k/\c.length<sizeLine/\H'=upd H a (.dK (putK c k v)))\/
 ∃c k b,H a=some (.dT c)/\y=.ref b/\H b=some (.tup (k.map kV))/\c.length<sizeLine/\H'=upd H a (.dT (putK c k v))
theorem E8.k{H:Hp}{a:Addr}{kvs:Ov}{k:Key}{v:V}(e:H a=some (.dK kvs))(b:kvs.length<sizeLine):E8 H a (kV k) v (upd H a (.dK (putK kvs k v))):=.inl ⟨kvs,k,e,rfl,b,rfl⟩
def Inv.big(I:Inv X pins σ H s):sysModules<s.heap.objs.size:=by have h:=(I.mod.glob.keeps I.bk).lt;exact a1R (by decide) h
def n6(w:A.units+1<cLine)(I:Inv X pins σ H s)(g:m8 H a y (some v))(t:RelV y u)(h:∀f r,Inv X pins σ H r->RelV v f->Q f r):
  wpAny (Px X) A (getItem (.ref a) u) Q E s:=by
 rcases g with⟨q,k,e,m,l⟩|⟨q,k,b,e,m,D,l⟩
 .subst m;obtain⟨z,C,B,c,j⟩:=wC I.hok e;obtain⟨f,i,d⟩:=Uh.some_of (by rw[l];exact c.val k);exact wpAny_getItem_of (cG t) j.mapOf i (h f _ (I.tok _) d)
 .subst m;cases t;obtain⟨z,C,x,c,j⟩:=ff I.hok e;obtain⟨f,i,d⟩:=Uh.some_of (by rw[l];exact c.val k);obtain⟨p,hp,n⟩:=v1.mp i;refine wpAny_getItem_heap (a1K w) (UM I.hok D) j hp ?_;rw[n];exact h f _ (I.tok _) d
def NQ(r:A.units+1<cLine)(I:Inv X pins σ H s)(g:m8 H a y o)(n:RelV y u)(h:∀m,Inv X pins σ H m->Q (.bool o.isSome) m):
  wpAny (Px X) A (compareOp .In u (.ref a)) Q E s:=by
 rcases g with⟨d,k,e,i,l⟩|⟨d,k,b,e,i,p,l⟩
 .subst i;obtain⟨z,f,t,c,j⟩:=wC I.hok e;refine wpAny_in_of (cG n) f j.mapOf ?_;rw[<- (c.val k).Yr,<- l];exact h _ (I.tok _)
 .subst i;cases n;obtain⟨z,f,v,c,j⟩:=ff I.hok e;refine wpAny_in_heap (a1K r) (UM I.hok p) f j ?_;have q:=(c.val k).Yr;rw[a1P]at q;rw[<- q,<- l];exact h _ (I.tok _)
def Cz(r:A.units+1<cLine)(I:Inv X pins σ H s)(g:m8 H a y o)(n:RelV y u)(h:∀m,Inv X pins σ H m->Q (.bool (!o.isSome)) m):
  wpAny (Px X) A (compareOp .NotIn u (.ref a)) Q E s:=by
 rcases g with⟨d,k,e,i,l⟩|⟨d,k,b,e,i,p,l⟩
 .subst i;obtain⟨z,f,t,c,j⟩:=wC I.hok e;refine wpAny_notIn_of (cG n) f j.mapOf ?_;rw[<- (c.val k).Yr,<- l];exact h _ (I.tok _)
 .subst i;cases n;obtain⟨z,f,v,c,j⟩:=ff I.hok e;refine wpAny_notIn_heap (a1K r) (UM I.hok p) f j ?_;have q:=(c.val k).Yr;rw[a1P]at q;rw[<- q,<- l];exact h _ (I.tok _)
def fg(I:Inv X pins σ H s)(c:Mut (H a))(d:Heap.SameBut a s.heap h')(he:∃q,h'.get? a=some q)(new:yR X.prog X.w (upd H a ob) h' a ob)(g:X.m<=t':=by ac_rfl):
  Inv X pins σ (upd H a ob) { s with heap:=h',toks:=t' }:=
 I.write c (.inl rfl) (λb q f z=>(d.2 b f).trans z) he new
def gW(z:kvs.length<=sizeLine)(d:(a==sysModules)=false)(b:KV kvs vs)(c:h'.DictOf (z9 P w) a vs):
  yR P w H' h' a (.dK kvs):=⟨z,d,vs,b,c⟩
def n8(J:A.units+1<cLine)(I:Inv X pins σ H s)(g:E8 H a y v H')(B:RelV y u)(D:RelV v r)(h:∀x,Inv X pins σ H' x->Q () x):
  wpAny (Px X) A (setItem (.ref a) u r) Q E s:=by
 rcases g with⟨f,k,e,o,l,n⟩|⟨f,k,b,e,o,F,l,n⟩
 .subst o n;obtain⟨z,w,S,d,m⟩:=FV I.hok e;have hz:S.length<=sizeLine:=by rw[<- d.length];exact z
  have p:(putK f k v).length<=sizeLine:=by have:=W0 f k v;omega
  refine wpAny_setItem_pairs (cG B) m λC i t=>h _ ?_;have O:∃q,C.get? a=some q:=let⟨q,_,_,j,_⟩:=i;⟨q,j⟩
  exact fg I (by rw[e];exact True.intro) t O (gW p w (d.put k D) i)
 .subst o n;cases B;obtain⟨z,w,M,d,m⟩:=LH I.hok e;have hz:M.length<=sizeLine:=by rw[<- a0I d];exact z
  have p:(putK f k v).length<=sizeLine:=by have:=W0 f k v;omega
  refine wpAny_setItem_heap (a1K J) (UM I.hok F) m λC i t=>h _ ?_;obtain⟨q,L,P,j,R,K,N,_,G⟩:=i;refine fg I (by rw[e];exact True.intro) t ⟨q,j⟩ ⟨p,w,_,(d.put k F D).keeps λc T ec=>?_,q,L,P,j,R,K,N,G⟩;rw[zj (Le ec e (λz=>nomatch z))];exact ec
def LJ(I:Inv X pins σ H s)(e:H a=some (.dK kvs))(f:RelV (kV k) u)(l:Ui kvs k=some v)(m:more=[]\/∃x,more=[x])
  (h:∀c j,Inv X pins σ (upd H a (.dK (cF kvs k))) j->RelV v c->Q c j):wpAny (Px X) A (call (.builtin "dict.pop") (.ref a::u::more)) Q E s:=by
 obtain⟨z,D,p,b,n⟩:=FV I.hok e;obtain⟨c,w,g⟩:=Uh.some_of (by rw[<- l];exact b.val k);have hp:(keyPart u).isSome=true:=by
  cases k with
  |inl i=>obtain⟨t,q⟩:= f;subst q;rfl
  |inr x=>obtain⟨t,q⟩:= f;subst q;rfl
 have r:argsOk "dict.pop" ⟨.ref a::u::more,[]⟩:=by
  rcases m with q|⟨x,q⟩
  .subst q;exact PySem.F.args_dict_pop_2 _ _
  .subst q;exact PySem.F.args_dict_pop_3 _ _ _
 refine a1A a3O n.typeIs PySem.F.entry_dict_pop r (meets_dict_pop_there (z9 X.prog X.w) a (cG f) more m hp)
  ⟨p,c,n,by rw[<- b.length];exact z,w,λy d C=>h c _ ?_ g⟩
 have B:∃q,y.get? a=some q:=let⟨q,_,_,hq,_⟩:=d;⟨q,hq⟩
 exact fg I (by rw[e];exact True.intro) C B (gW (P8 (uF kvs k) z) D (b.drop k) d)
def LK(I:Inv X pins σ H s)(e:Rd H a (.dK kvs))(h:∀t c,Inv X pins σ H c->Q (.int kvs.length t) c):wpAny (Px X) A (call (.builtin "len") [.ref a]) Q E s:=by obtain⟨z,d,g,b,f⟩:=wC I.hok e;refine call_len_dict d f (by rw[<- b.length];rw[a0E]at z;omega) ?_;rw[<- b.length];exact h _ _ (I.tok _)
def fh(I:Inv X pins σ H s)(g:m8 H a y o):s.TypeIs (.ref a) "dict":=by
 rcases g with⟨d,k,e,_,_⟩|⟨d,k,b,e,_,_,_⟩
 .obtain⟨_,_,h,_,c⟩:=wC I.hok e;exact c.typeIs
 .obtain⟨_,_,f,_,c⟩:=ff I.hok e;exact c.typeIs
def LL(h i g:TE):TS:=λD b H=>g b H λv d=>h b d λx f=>i b f λy e=>∃a c,x=.ref a/\E8 e a y v c/\D.nx b c
def n_(f:X.A.units+1<cLine)(J:PE X o td)(C:PE X i ty)(z:PE X value tv)(F:swapsWith value (some (.Subscript o i pos')) pos.line X.env=pure false):
  PS X (.Assign [.Subscript o i pos'] value pos) (LL td ty tv):=by
 intro b s c H D I h;refine wpAny_Assign_Subscript (thn (z b s c H _ I h) λr l ⟨v,m,n,A,t⟩=>thn (J b l c m _ n t) λu s2 ⟨x,e,E,w,G⟩=>thn (C b s2 c e _ E G) λN L ⟨y,O,d,p,a,B,j,g,K⟩=>?_) F;subst j;obtain rfl:u=Value.ref a:=w;exact n8 f d g p A λM q=>⟨c,B,q,K⟩
def uG(h:Heap)(a:sysModules<h.objs.size):yR P w H (h.push { cls:=.type "dict",data:=.dict #[] }) h.objs.size (.dK []):=
 ⟨a0c _,a0R.mpr (Ne.symm (P1 a)),[],.nil,Heap.DictOf.new h⟩
def FW:TE:=λ_ H Q=>∀p,H p=none->Q (.ref p) (upd H p (.dK []))
def uH:PE X (.Dict [] [] pos) FW:=λb s c H Q I h=>
 wpAny_Dict_empty ⟨.ref s.heap.objs.size,_,I.laid (λ_ _ q=>O0 _ q) (O2 _) (uG s.heap I.big),rfl,h _ (I.hok.fresh (O2 _))⟩
structure M1(X:Cx)(o:Ot)(m:Str)(qO:Pos)(e:Ot)(jK:Pos):Prop where
 base:attributeBase o m X.env (eval o X.env)=eval o X.env
 few:((backTo jK (starEach [e] X.env)).all (λx=>!x.1)&&(backToKw jK (keywordEach [] X.env)).all (λx=>x.1.isSome)
  && decide (([e]:List Expr).length+([]:List Keyword).length+(if([]:List Keyword).isEmpty then 0 else 1)<30))=true
 line:(qO.endLine==jK.line)=true
 trees:backTo jK (starEach [e] X.env)=[(false,eval e X.env)]
structure M2(X:Cx)(o:Ot)(m:Str)(qO:Pos)(e f:Ot)(jK:Pos):Prop where
 base:attributeBase o m X.env (eval o X.env)=eval o X.env
 few:((backTo jK (starEach [e,f] X.env)).all (λx=>!x.1)&&(backToKw jK (keywordEach [] X.env)).all (λx=>x.1.isSome)
  && decide (([e,f]:List Expr).length+([]:List Keyword).length+(if([]:List Keyword).isEmpty then 0 else 1)<30))=true
 line:(qO.endLine==jK.line)=true
 trees:backTo jK (starEach [e,f] X.env)=[(false,eval e X.env),(false,eval f X.env)]
def IsD(H:Hp)(a:Addr):Prop:=(∃b,Rd H a (.dK b))\/∃b,Rd H a (.dT b)
def oa(I:Inv X pins σ H s)(d:IsD H a):
  s.TypeIs (.ref a) "dict"/\(∀b,Value.ref a=.ref b->∃ob,s.heap.get? b=some ob/\ob.dict=none)/\(a==sysModules)=false:=by
 rcases d with⟨i,e⟩|⟨i,e⟩
 .obtain⟨_,f,j,_,c⟩:=wC I.hok e;refine⟨c.typeIs,λb q=>?_,f⟩;cases q;obtain⟨ob,_,_,g,h,_⟩:=c;exact⟨ob,g,h.2.1⟩
 .obtain⟨_,f,l,_,c⟩:=ff I.hok e;refine⟨c.typeIs,λb q=>?_,f⟩;cases q;obtain⟨ob,_,_,g,h,_⟩:=c;exact⟨ob,g,h.2.1⟩
def FX(r:A.units+1<cLine)(I:Inv X pins σ H s)(g:m8 H a y o)(n:RelV y u)(h:∀p m,Inv X pins σ H m->RelV (o.getD .non) p->Q p m):
  wpAny (Px X) A (call (.builtin "dict.get") [.ref a,u]) Q E s:=by
 rcases g with⟨f,k,e,j,l⟩|⟨f,k,b,e,j,q,l⟩
 .subst j;obtain⟨z,i,v,c,d⟩:=wC I.hok e;refine a1A a2s d.typeIs a3G (a3o _ _) (meets_dict_get (z9 X.prog X.w) a (cG n) i) ⟨_,d.mapOf,h _ _ (I.tok _) ?_⟩;rw[l];exact(c.val k).getD rfl
 .subst j;cases n;obtain⟨z,i,t,c,d⟩:=ff I.hok e;refine a1A a2s d.typeIs a3G (a3o _ _) (meetsH_dict_get (tupleKind (z9 X.prog X.w)) a b i) ⟨a1K r,k,t,UM I.hok q,d,h _ _ (I.tok _) ?_⟩;rw[l];exact(c.val k).getD rfl
def FY(e f:TE):TE:=λc H Q=>e c H λx b=>∃a,x=.ref a/\IsD b a/\f c b λy d=>∃o,m8 d a y o/\Q (o.getD .non) d
def FZ(f g:TE):TE:=λd H Q=>f d H λx c=>∃a,x=.ref a/\IsD c a/\g d c λy e=>∃b k v,e a=some (.dK b)/\y=kV k/\Ui b k=some v/\Q v (upd e a (.dK (cF b k)))
def uI(n:X.A.units+1<cLine)(D:PE X o td)(he:PE X e ty)(m:M1 X o "get" qO e jK):PE X (.Call (.Attribute o "get" qO) [e] [] jK) (FY td ty):=by intro b s i H Q I h;refine wpAny_Call_method m.base m.few m.line a2h a2s PySem.F.type_dict_get (thn (D b s i H _ I h) λu q ⟨x,r,f,w,a,p,d,z⟩=>?_);subst p;obtain rfl:u=Value.ref a:=w;obtain⟨A,t,_⟩:=oa f d;refine⟨A,t,?_⟩;rw[m.trees];exact a1j rfl (a2z (a1m (thn (he b q i r _ f z) λG s2 ⟨y,l,B,v,J,g,C⟩=>a1O (FX n B g v λF E j c=>⟨_,l,j,c,C⟩))))
def uJ(E:PE X o td)(he:PE X e ty)(m:M1 X o "pop" qO e jK):PE X (.Call (.Attribute o "pop" qO) [e] [] jK) (FZ td ty):=by intro b s g H Q I h;refine wpAny_Call_method m.base m.few m.line a2h a3O PySem.F.type_dict_pop (thn (E b s g H _ I h) λu n ⟨x,p,f,t,a,j,d,w⟩=>?_);subst j;obtain rfl:u=Value.ref a:=t;obtain⟨B,q,_⟩:=oa f d;refine⟨B,q,?_⟩;rw[m.trees];refine a1j rfl (a2z (a1m (thn (he b n g p _ f w) λL s2 ⟨y,J,C,r,F,k,v,A,z,l,D⟩=>a1O ?_)));subst z;exact LJ C A r l (.inl rfl) λK G i c=>⟨v,_,i,c,D⟩
def uK(I:Inv X pins σ H s)(e:Rd H a (.dK kvs))(h:∀p g,H p=none->Inv X pins σ (upd H p (.dK kvs)) g->Q (.ref p) g):wpAny (Px X) A (call (.type "dict") [.ref a]) Q E s:=by obtain⟨z,j,n,c,l⟩:=wC I.hok e;refine kt_call_dict j l (by rw[<- c.length];exact z) λm d i=>?_;refine h _ _ (I.hok.fresh (O2 _)) (I.laid (λb q f=>?_) (O2 _) (gW z (a0R.mpr (Ne.symm (P1 I.big))) c d));exact(i.2 b (P1 (O8 f))).trans (O0 _ f)
end L2
namespace Att
open PySem PySem.W PySem.Calls PyProof.Rows
def W2:∀(c:OC)(d:Oo),WellAll P h d (c.map WData.int)->IntsAre d c:=by
 intro c
 induction c with
 |nil=>intro d w;cases w;exact .nil
 |cons n c e=>
  intro d w;cases w with
  |cons a b=>cases a;exact .cons _ _ (e _ b)
def og{l:OpenLaw}{n:Nat}(u:l.most=some n){P:Params}{h:Heap}{args:List WData}{c:Oo}
  (e:l.row.toRowW.claim.pre args=true) (m:WellAll P h c args):
  ∃a s b,c=[Value.ref a]/\args=[WData.list (b.map WData.int)]/\h.get? a=some { cls:=.type "list",data:=.seq s.toArray }/\IntsAre s b/\b.length<=n:=by
 have o:=(pre_splitW e).1;have p:l.pre.holds [] { args:=args }=true:=(pre_splitW e).2;obtain⟨d,r,rfl,x,z⟩:=hasAllW_cons o;obtain rfl:=hasAllW_nil z;obtain⟨B,rfl,w⟩:=hasW_list x;obtain⟨b,rfl⟩:=items_int w;have g:b.length<=n:=by
  have j:=by have j:=(holds_andW p).1;rw[u]at j;exact j
  have i:=condW_of j (w_not (w_lt w_lit (w_len_list (w_arg rfl))));refine Nat.le_of_not_lt λq=>?_;have v:=by omega
  first
   | (exact absurd i (by decide))
   | (simp at i;omega)
 cases m with
 |cons t y=>
  cases y;cases t with
  |list A f=>exact⟨_,_,b,rfl,rfl,A,W2 b _ f,g⟩
def oh(l:OpenLaw)(args:List WData):l.row.toRowW.claim.post args (.bool true) args=true:=
 postW_of
  (show WShape.has [] (.bool true) .bool=true by first|rfl|decide|simp[WShape.has,WShape.arms,WShape.armsAll])
  (show(WTm.eq .res (.lit (.bool true))).value [] { args:=args,res:=some (.bool true),after:=args }=some (.bool (true==true))from w_eq_bool (w_res rfl) w_lit) rfl
def fi{l:OpenLaw}{n:Nat}{q:Ox}{c:Oj}{XP:(Str->Option Value)->Heap->Prop}{D:World->Heap->Prop}{d:DefRec}
  (J:l.most=some n) (v:d.params.defaults=[])
  (call:∀(w:OE)(e b:Om)(u A:Oi)(fa:Addr)(o:Obj)(z cd h:Value)(a:Addr) (i:Oo) (s:OC),
   Ground q c [] XP w e u A b.heap->D w b.heap->
   b.heap.get? fa=some o->o.data=.func (docDef d.name d.params d.body d.scope z cd h)->b.heap.CodeRec cd d.name->u d.name=some (.ref fa)->
   b.heap.get? a=some { cls:=.type "list",data:=.seq i.toArray }->IntsAre i s->s.length<=n->b.gens = #[]->
   codeAny (model l.prog w) callerA (.call (.ref fa) ⟨[.ref a],[]⟩) (λr t=>r=.ok (.ret (.bool true))/\OldK b.heap t.heap/\t.os=b.os/\AllBare t.gens) b):
  WalkO q c XP D l.row.toRowW d [] (λf i=>PySem.call f i):=by
 intro w e b u A G Y fa o z cd h S kV R Q x F B I args C T p E M y L;obtain rfl:S=.none:=Dflts.none F v;obtain rfl:kV=.none:=Dflts.noKw F;obtain⟨a,i,s,rfl,rfl,j,g,m⟩:=og J p y;refine enter_call (a03 (call w e b u A fa o z cd h a i s G Y R (fd_plain Q) x B j g m I) λr t P=>?_);obtain⟨rfl,O,K,N⟩:=P;exact⟨.inl ⟨.bool true,.bool true,[],rfl,λ_=>rfl,.bool true,oh l _,λ_=>⟨List.Pairwise.nil,λ_ H=>(nomatch H)⟩⟩,O,K,N⟩
end Att
namespace L2
open PySem PySem.Spec PyProof.Rows
theorem cI:∀{b:Oo}{a:OC},IntsAre b a->Vals (a.map V.int) b
 |_,_,.nil=>.nil
 |_,_,.cons n t h=>.cons ⟨t,rfl⟩ (cI h)
def inClass(s:OY)(j:Nat):Stmt:=match s with
 |.ClassDef _ _ _ a _ _ _ _ _ _ _=>a.getD j (.Pass ⟨0,0,0,0⟩)
 |_=>.Pass ⟨0,0,0,0⟩
def W3(s:OY):Arguments:=match s with
 |.FunctionDef _ a _ _ _ _ _ _ _ _=>a
 |_=>{ posonlyargs:=[],args:=[],vararg:=none,kwonlyargs:=[],kw_defaults:=[],kwarg:=none,defaults:=[] }
def Zu(s:OY):List Stmt:=match s with
 |.FunctionDef _ _ b _ _ _ _ _ _ _=>b
 |_=>[]
def zm(s:OY):Scope:=match s with
 |.FunctionDef _ _ _ _ _ _ a _ _ _=>a
 |_=>{ kind:=.function,names:=[],isGenerator:=false,isCoroutine:=false }
abbrev E0:XK:=λ_ _ _=>False
structure Fun(K:OA)(x qual:Str)(st:OY)(f:Addr)(fd:OH):Prop where
 ex:∃(oc:Value)(od:OP)(kV doc pm:Value)(an:OP)(cdv ct:Value)(osl:OI),
  fd=PySem.W.fnOf x qual (W3 st) (Zu st) (zm st) .none kV doc pm an cdv ct/\K.lookup f=some ⟨oc,od,.func fd,osl⟩/\PySem.W.codeIn K cdv qual=true
 kp:PySem.W.keepIn K (.ref f)=true
section
variable {K:OA}
def Fun.binds{x a:Str}{st:OY}{f:Addr}{j:OH}{i:Oj}(F:Fun K x a st f j)
  (h:∀(kV b d:Value)(g:OP)(c ct:Value)(e:Oo),e.length=i.length->bindArgs (PySem.W.fnOf x a (W3 st) (Zu st) (zm st) .none kV b d g c ct) ⟨e,[]⟩=pure (i.zip e)):Binds K j i []:=by
 obtain⟨o,n,kV,b,d,g,c,ct,l,rfl,p,m⟩:=F.ex;exact .all (h kV b d g c ct)
def A8{x a:Str}{st:OY}{f:Addr}{i:Value}{od h:OP}{e:OI}{kV d g b ct:Value}(l:K.lookup f=some ⟨i,od,.func (PySem.W.fnOf x a (W3 st) (Zu st) (zm st) .none kV d g h b ct),e⟩)
  (c:PySem.W.codeIn K b a=true) (k:PySem.W.keepIn K (.ref f)=true):Fun K x a st f (PySem.W.fnOf x a (W3 st) (Zu st) (zm st) .none kV d g h b ct):=⟨⟨i,od,kV,d,g,h,b,ct,e,rfl,l,c⟩,k⟩
end
def Yj(a:j7 k A):A.units+1<cLine:=a1o (Nat.add_le_add_left (by simp) _) a.units
def pv(i:Nat)(b:X.N[i]?=some x:=by rfl)(c:Vis X.env.scope x:=by first|exact Or.inl rfl|exact Or.inr (Or.inl rfl)|exact Or.inr (Or.inr rfl))(d:(x==("__debug__":Str))=false:=by decide)
  (a:(x==("__classdict__":Str))=false:=by decide):PE X (.Name x pos) (UJ i):=Fo b c d a
def A9{A B:Prop}(h:B):if false=true then A else B:=by exact h
def A_{A B:Prop}(h:A):if true=true then A else B:=by exact h
def zF(H H':Hp):Prop:=∀b o,H b=some o->H' b=some o
def zF.refl(H:Hp):zF H H:=λ_ _ h=>h
def zF.trans(a:zF H H1)(b:zF H1 H2):zF H H2:=λc o h=>b c o (a c o h)
end L2
set_option maxHeartbeats 4000000
namespace L2
open PySem PySem.Spec PyProof.Rows PySem.W
def j8:List Value:=[.type "ValueError",.type "Exception",.type "BaseException",.type "object"]
def cJ:List Value->List Value
 |.ref _::r=>cJ r
 |l=>l
structure JP(K:OL)(C:Addr):Prop where
 over:(clsIn K C).any (λcd=>cJ cd.mro==j8 && !cd.mro.isEmpty&&cd.hasDict)=true
 sa:findIn K (.ref C) "__setattr__"=some (some (.builtin "object.__setattr__"))
 ga:findIn K (.ref C) "__getattribute__"=some (some (.builtin "BaseException.__getattribute__"))
 gn:findIn K (.ref C) "__getattr__"=some none
 ty:typeIn K (.ref C)=some (.type "type")
theorem Vu(a:Value):∀l:List Value,cJ l=j8->refuseLoop a "__setattr__" l=pure ()
 |[],e=>by cases e
 |.ref c::r,e=>by rw[refuseLoop_ref];exact Vu a r e
 |.type n::r,e=>by rw[show Value.type n::r=j8 from e];exact PySem.F.store_ValueError.passes a
 |.none::r,e=>by cases e
 |.bool _::r,e=>by cases e
 |.int _ _::r,e=>by cases e
 |.str _ _::r,e=>by cases e
 |.bytes _ _::r,e=>by cases e
 |.float _ _::r,e=>by cases e
 |.builtin _::r,e=>by cases e
 |.ellipsis::r,e=>by cases e
 |.notImplemented::r,e=>by cases e
theorem cK{x:String}(a:j8.contains (.type x)=true):∀l:List Value,cJ l=j8->l.contains (.type x)=true
 |[],e=>by cases e
 |.ref c::r,e=>by rw[List.contains_cons,cK a r e,a26]
 |.type n::r,e=>by rw[show Value.type n::r=j8 from e];exact a
 |.none::r,e=>by cases e
 |.bool _::r,e=>by cases e
 |.int _ _::r,e=>by cases e
 |.str _ _::r,e=>by cases e
 |.bytes _ _::r,e=>by cases e
 |.float _ _::r,e=>by cases e
 |.builtin _::r,e=>by cases e
 |.ellipsis::r,e=>by cases e
 |.notImplemented::r,e=>by cases e
theorem JP.cd{K:OL}{C:Addr}(c:JP K C):∃cd,clsIn K C=some cd/\cJ cd.mro=j8/\cd.mro.isEmpty=false/\cd.hasDict=true:=by obtain⟨cd,a,h⟩:=any_some c.over;simp only[Bool.and_eq_true,beq_iff_eq,Bool.not_eq_true']at h;exact⟨cd,a,h.1.1,h.1.2,h.2⟩
def JP.sub{K:OL}{C:Addr}(c:JP K C){x:String}(e:j8.contains (.type x)=true):mroIn K C (.type x)=some true:=by obtain⟨cd,a,b,d,_⟩:=c.cd;unfold mroIn;rw[a,a1U,if_neg (by grind),cK e _ b]
def yP(C:Addr)(od:OP)(t:Addr)(T:Value)(sl:OI):Obj:=⟨.ref C,od,.fields #[.ref t,T,.none,.none,.bool false,.none],sl⟩
section
variable {prog:Ox}{w:OE}{A:OG}{E:Of}{s:Om}{K:OL}{x dx C t:Addr}{T:Value}{sl:OI}{mA:Oi}{name:Str}{v:Value}{R:Result->Shared->Prop}
def gX(X:K.In s.heap)(c:JP K C)(I:InstAt s.heap x (yP C od t T sl) C oo)(q:takerIn K C name=some none)
  (h:∀b,wpAny (model prog w) A.in1 (Builtin.ObjectAttr.storeInOwnDict (.ref x) (.ref C) (.str name tk) name v b)
   (λj i=>match j with | .done f=>R (.ok f) i | .again l=>l.quiet=true/\codeAny (model prog w) A l R i) (λe i=>R (.error e) i) s):
  codeAny (model prog w) A (.call (.builtin "object.__setattr__") ⟨[.ref x,.str name tk,v],[]⟩) R s:=by
 have g:=PySem.F.store_object;obtain⟨cd,p,y,z,_⟩:=c.cd;have sub:Looks (model prog w) s.heap (isInstance (.ref x) (.type "object")) true:=I.type.andThen (a2M X (c.sub (by decide)));refine a1a g.slot.plain g.entry (@check_slot (model prog w) _ _ s "object.__setattr__" "object" "__setattr__" (.ref x) [.str name tk,v] [] _ g.kind g.split sub (g.args (.ref x) (.str name tk) v) ?_);obtain⟨d,m,r⟩:=S7.mp q;have n:Looks (model prog w) s.heap (mroOf (.ref C)) cd.mro:=(a4y X p).andThen .now;have o:Looks (model prog w) s.heap (Builtin.ObjectAttr.storeTaker? d) none:=by
  cases d with
  |none=>exact .now
  |some a=>
   obtain⟨b,u,e⟩:=v1.mp r;refine(looks_takesIn X u).andThen ?_;cases b with
   |true=>cases e
   |false=>exact .now
 rw[osa_eq,refuse_eq];refine f8 (f8 (I.type.here (f8 (n.here ?_))));rw[Vu _ _ y];exact v4 (f8 (I.type.here (f8 ((a18 X m).here (f8 (o.here (h _)))))))
def lX(X:K.In s.heap)(c:JP K C)(i:s.heap.get? x=some (yP C none t T sl))(B:takerIn K C name=some none)
  (h:∀d,d.get? x=some (yP C (some s.heap.objs.size) t T sl)->d.Ns1 s.heap.objs.size (λy=>if y=name then some v else none)->
   (∀b o,b≠x->s.heap.get? b=some o->d.get? b=some o)->Q () { s with heap:=d,toks:=s.toks+2 }):
  wpAny (model prog w) A (setAttr (.ref x) name v) Q E s:=by
 have I:InstAt s.heap x (yP C none t T sl) C none:=⟨i,rfl,rfl,trivial⟩;refine set_plain X I c.sa (gX X c I B λb=>?_);obtain⟨cd,z,_,_,H⟩:=c.cd;have f:=P1 (O8 i);have a:(s.heap.push emptyDict).get? x=some (yP C none t T sl):=O0 _ i;refine f8 (v4 (f8 (f8 (a2g i (f8 (Looks.here (a4y X z) ?_))))));rw[H];refine f8 (wpAny_alloc' (f8 (wpAny_update' a (v4 ?_))));have q:((s.heap.push emptyDict).update x λo=>{ o with dict:=some s.heap.objs.size }).get? x=some (yP C (some s.heap.objs.size) t T sl):=a0w _ a rfl;have l:((s.heap.push emptyDict).update x λo=>{ o with dict:=some s.heap.objs.size }).get? s.heap.objs.size=some emptyDict:=(a2J _ _ _ _ f.symm).trans (Heap.get?_push_at rfl rfl);have p:((s.heap.push emptyDict).update x λo=>{ o with dict:=some s.heap.objs.size }).Ns s.heap.objs.size (λ_=>none):=⟨_,#[],_,l,rfl,λe F=>absurd F (by simp),λ_=>rfl⟩;refine f8 (v4 (f8 ?_));refine wpAny_nsSet1 (Heap.Ns1.of_empty p) λd g r=>?_;obtain⟨J,D,u,m,j,n⟩:=g.count (PySem.Within.cons name v PySem.Within.nil);refine f8 (wpAny_lookBehind m (by rw[j];exact pastItsLine_dict (P8 n (by simp))) ?_);exact v4 (h _ ((r.2 _ f).trans q) g λb o G e=>((r.2 _ (P1 (O8 e))).trans ((a2J _ _ _ _ G).trans (O0 _ e))))
def oi(X:K.In s.heap)(c:JP K C)(n:s.heap.get? x=some (yP C (some dx) t T sl))(m:s.heap.Ns1 dx mA)(B:dx≠x)(u:takerIn K C name=some none)
  (p:PySem.Within mA ns) (hsz:ns.length<=sizeLine)
  (h:∀e,e.Ns1 dx (λy=>if y=name then some v else mA y)->Heap.SameBut dx s.heap e->Q () { s with heap:=e,toks:=s.toks+2 }):
  wpAny (model prog w) A (setAttr (.ref x) name v) Q E s:=by
 obtain⟨r,l,_⟩:=JN m;have I:InstAt s.heap x (yP C (some dx) t T sl) C (some r):=⟨n,rfl,rfl,l⟩;refine set_plain X I c.sa (gX X c I u λb=>?_);obtain⟨cd,q,_,_,D⟩:=c.cd;refine f8 (v4 (f8 (f8 (a2g n (f8 (Looks.here (a4y X q) ?_))))));rw[D];refine v4 (f8 (v4 (f8 ?_)));refine wpAny_nsSet1 m λe d f=>?_;obtain⟨F,z,o,i,g,j⟩:=d.count (PySem.Within.cons name v p);exact f8 (wpAny_lookBehind i (by rw[g];exact pastItsLine_dict (P8 j (by rw[O1];omega))) (v4 (h _ d f)))
def NR(X:K.In s.heap)(c:JP K C)(hx:s.heap.get? x=some (yP C (some dx) t T sl))(hn:s.heap.Ns1 dx mA)(ha:findIn K (.ref C) name=some none)
  (hv:mA name=some v) (hh:handedIn v=true) (h:Q v { s with toks:=s.toks+1 }):wpAny (model prog w) A (getAttr (.ref x) name expr) Q E s:=by
 obtain⟨od,hod,hl⟩:=JN hn;have I:InstAt s.heap x (yP C (some dx) t T sl) C (some od):=⟨hx,rfl,rfl,hod⟩;obtain⟨cd,hc,ho,ne,hdct⟩:=c.cd;obtain⟨hp,g,d,tk,os⟩:=s;have L0:=I.type (M:=model prog w);have L1:=a18 (M:=model prog w) X c.ga;have L2:=a18 (M:=model prog w) X c.gn;have Lb:Looks (model prog w) hp (isInstance (.ref x) (.type "BaseException")) true:=L0.andThen (a2M X (c.sub (x:="BaseException") (by decide)));have L3:=looks_find (M:=model prog w) X I (findObj_own (by unfold hasDictIn;rw[hc];exact hdct) ha rfl (by rw[hl,hv]));have ga:=PySem.F.excAttr_ValueError.ga;have f3:=ga.bind (.ref x);unfold getAttr getAttrBy;refine f8 (a27 (W1 (f8 (L0.at (f8 (L1.at ?_))))));dsimp only;rw[show(onTheHeap (Value.ref C)&&Value.builtin "BaseException.__getattribute__"==Value.builtin "object.__getattribute__")=false from by
  rw[show(Value.builtin "BaseException.__getattribute__"==Value.builtin "object.__getattribute__")=false from by decide +kernel];rfl]
 show wpAny _ _ (getAttrByItsOwn _ _ _ _ _ _) _ _ _;unfold getAttrByItsOwn;refine f8 (show wpAny _ _ (typeLookup (.ref C) "__getattr__") _ _ _ from L2.at ?_);unfold callGetattribute boundAndCalled;rw[show(expr&&onTheHeap (Value.builtin "BaseException.__getattribute__"))=false from by cases expr<;>rfl];refine f8 (a1X (W1 ?_));show wpAny _ _ (bindSpecial _ _ >>= _) _ _ _;rw[f3];refine f8 (v4 (a1i (a1a ga.plain F.entry_bexc_ga ?_)));have hk:builtinKind "BaseException.__getattribute__"=some .slot:=by decide +kernel
 have hs:splitId "BaseException.__getattribute__"=some ("BaseException","__getattribute__"):=by decide +kernel
 refine @check_slot (model prog w) _ _ ⟨hp,g,d,tk+1,os⟩ "BaseException.__getattribute__" "BaseException" "__getattribute__" (.ref x) [.str name tk] [] _ hk hs Lb (F.args_bexc_ga (.ref x) (.str name tk)) ?_;unfold Builtin.«object.__getattribute__»
 repeat lk
 show wpAny _ _ (handedOut v) _ _ _;rw[handedOut_of hh];exact v4 h
end
def strKeys(es:Array DictEntry):Bool:=es.toList.all λe=>match e.key with | .str _ _=>true|_=>false
def cL(K:OL):List Value->Bool
 |.ref a::r=>(match K.lookup a with
   |some ⟨_,_,.cls cd,_⟩=>(match K.lookup cd.ns with
     |some ⟨_,_,.dict b _,_⟩=>strKeys b&&(b.toList.all λe=>!e.key.isStr "__init__")
     |_=>false)
   |_=>false)&&cL K r
 |l=>l==j8
def lY{h:Heap}{N:Addr}{c:Value}{f:OP}{es:Array DictEntry}{ep:Nat}{sl:OI}(e:h.get? N=some ⟨c,f,.dict es ep,sl⟩)(k:strKeys es=true)
  (d:(es.toList.all λe=>!e.key.isStr "__init__")=true):∃m,h.Ns N m/\m "__init__"=none:=by
 refine⟨λn=>nsFind es n,⟨_,es,ep,e,rfl,λx a=>?_,λ_=>rfl⟩,?_⟩
 .have q:=a0d.mp k x (a3Z.mpr a);split at q
  .rename_i n t b;exact⟨n,t,b⟩
  .cases q
 .show nsFind es "__init__"=none;unfold nsFind findBy;rw[<- a4l,List.find?_eq_none.mpr λx a=>by simpa using a0d.mp d x a];rfl
theorem oj{K:OL}{h:Heap}(X:K.In h):∀l:List Value,cL K l=true->OwnTail h j8 l
 |.ref a::r,e=>by
  obtain⟨b,p⟩:=a31.mp e;split at b
  .rename_i c t cd x q;split at b
   .rename_i v j u w s f;obtain⟨i,g⟩:=a31.mp b;obtain⟨m,o,d⟩:=lY (X _ _ f) i g;exact .own (X _ _ q) o d (oj X r p)
   .cases b
  .cases b
 |[],e=>by cases e
 |.type n::r,e=>by rw[show Value.type n::r=j8 from a0b.mp e];exact .base
 |.none::r,e=>by rw[show Value.none::r=j8 from a0b.mp e];exact .base
 |.bool _::r,e=>by rw[a0b.mp e];exact .base
 |.int _ _::r,e=>by rw[a0b.mp e];exact .base
 |.str _ _::r,e=>by rw[a0b.mp e];exact .base
 |.bytes _ _::r,e=>by rw[a0b.mp e];exact .base
 |.float _ _::r,e=>by rw[a0b.mp e];exact .base
 |.builtin _::r,e=>by rw[a0b.mp e];exact .base
 |.ellipsis::r,e=>by rw[a0b.mp e];exact .base
 |.notImplemented::r,e=>by rw[a0b.mp e];exact .base
structure XMk(K:OL)(C f:Addr):Prop where
 cls:∃nm q N bs bm sn sub ab col dd k0 k1 k2 k3 k5,K.lookup C=some (excClassObj nm q C N bs bm true sn sub ab col dd k0 k1 k2 k3 k5 "ValueError.__new__")/\cL K bm=true
 init:findIn K (.ref C) "__init__"=some (some (.ref f))
 fn:typeIn K (.ref f)=some (.type "function")
 kp:keepIn K (.ref C)=true
section
variable {prog:Ox}{w:OE}{A:OG}{E:Of}{K:OL}{C f:Addr}{h:Heap}{g:Array GenState}{d:Drawn}{t:Nat}{os:OsState}
def Ba(rest:Oo):Obj:={ cls:=.type "tuple",data:=.seq rest.toArray }
def LM{rest:Oo}{Q:Of}(M:XMk K C f)(X:K.In h)(hrest:rest.length<=sizeLine)
  (hq:codeAny (model prog w) (A.under (.builtin "type.__call__" ⟨.ref C::rest,[]⟩)) (.call (.ref f) ⟨.ref (h.objs.size+1)::rest,[]⟩) (λr s'=>match r with | .ok (.ret v)=>v=.none/\Q (.ref (h.objs.size+1)) s' | .ok _=>False | .error e=>E e s')
   ⟨(h.push (Ba rest)).push (yP C none h.objs.size .none #[]),g,d,t,os⟩):
  wpAny (model prog w) A (call (.ref C) rest) Q E ⟨h,g,d,t,os⟩:=by
 obtain⟨nm,q,N,bs,bm,sn,sub,ab,col,dd,k0,k1,k2,k3,k5,hK,hT⟩:=M.cls;have hC:=X _ _ hK;have T:=oj X _ hT;have F:=PySem.F.excBase_ValueError;have f1:=tc_lookup;have f2:=tc_bind (.ref C);have hTy:(⟨h,g,d,t,os⟩:Shared).TypeIs (.ref C) "type":=⟨_,hC,rfl⟩;refine a1i (a3x ?_);show wpAny _ _ (callAny (.ref C) _) _ _ _
 repeat(any_goals(first|assumption|with_reducible refine wpAny_loadPart_at hC ?_|wp_step))
 refine And.intro rfl (codeAny_call_builtin_at (a19 _ (by decide +kernel)) entry_typeCall (wpAny_check_type_call_sub hC ?_))
 repeat(first|with_reducible refine wpAny_loadPart_at hC ?_|with_reducible refine wpAny_madeBy_exc hC ?_|wp_step)
 refine codeAny_call_builtin_code (a19 _ F.quiet) (wpAny_check_new_subT F T hC (codeAny_exc_new_subT F T hC ?_ hrest));show wpAny _ _ _ _ _ ⟨(h.push (Ba rest)).push (yP C none h.objs.size .none #[]),g,d,t,os⟩;have kp:∀b o,h.get? b=some o->((h.push (Ba rest)).push (yP C none h.objs.size .none #[])).get? b=some o:=λb o e=>O0 _ (O0 _ e);have hx:((h.push (Ba rest)).push (yP C none h.objs.size .none #[])).get? (h.objs.size+1)=some (yP C none h.objs.size .none #[]):=by heap_get
 have X1:K.In ((h.push (Ba rest)).push (yP C none h.objs.size .none #[])):=X.keeps kp;have t1:Looks (model prog w) ((h.push (Ba rest)).push (yP C none h.objs.size .none #[])) (typeOf (.ref (h.objs.size+1))) (.ref C):=(Looks.ld hx).andThen .now;have s1:Looks (model prog w) ((h.push (Ba rest)).push (yP C none h.objs.size .none #[])) (isSubtype (.ref C) (.ref C)) true:=a2M X1 (by
  unfold mroIn clsIn;rw[hK];simp)
 have i1:=a18 (M:=model prog w) X1 M.init;have b1:=bind_fn (M:=model prog w) X1 (.ref (h.objs.size+1)) M.fn;unfold isInstance callSpecial? specialOf
 repeat(first|with_reducible refine a1i ?_|lk)
 refine a03 hq λr s' z=>?_;rcases r with e|(v|_|_|_)<;>first|exact z|exact z.elim|skip
 obtain⟨rfl,z⟩:=z;exact v4 (v4 z)
end
def XO(e C:Addr)(od:OP)(T:Value):HO:=.ext λh=>∃t a,h.get? e=some (yP C od t T a)
def XD(b:Addr)(fs:OU):HO:=.ext λh=>∃a,h.Ns1 b a/\(∀f,Uh (fs.lookup f) (a f))/\PySem.Within a (fs.map (·.1))/\fs.length<=1000
def XO.ok(x:h.get? e=some (yP C od t T sl)):yR P w H h e (XO e C od T):=
 ⟨⟨t,sl,x⟩,⟨_,x⟩,λ_ _ ⟨b,a,p⟩ k=>⟨b,a,k _ p⟩⟩
def XO.get(x:yR P w H h e (XO e C od T)):∃t a,h.get? e=some (yP C od t T a):=x.1
def XD.ok(n:h.Ns1 dx mA)(r:∀f,Uh (fs.lookup f) (mA f))(e:PySem.Within mA (fs.map (·.1)))(l:fs.length<=1000):yR P w H h dx (XD dx fs):=by refine⟨⟨mA,n,r,e,l⟩,?_,λg i ⟨m,⟨o,b,c,a,q⟩,d⟩ k=>⟨m,⟨o,b,c,k _ a,q⟩,d⟩⟩;obtain⟨o,b,c,a,_⟩:=n;exact⟨o,a⟩
def XD.get(x:yR P w H h dx (XD dx fs)):∃a,h.Ns1 dx a/\(∀f,Uh (fs.lookup f) (a f))/\PySem.Within a (fs.map (·.1))/\fs.length<=1000:=x.1
def Inv.CA(I:Inv X pins σ H s)(he:H e=some (XO e C od T))(ch:OX)(d:∀b∈ch,X.s₀.heap.objs.size<=b/\H b=none/\b≠X.env.locals/\(∀x c,X.env.cells.lookup x=some c->c≠b)/\∀p∈X.pn++pins,p.1≠b)
  (keep:∀b o,b≠e->b∉ch->b∉frs X.stack->s.heap.get? b=some o->h'.get? b=some o)
  (l:∀b o,b∈frs X.stack->s.heap.get? b=some o->∃g,h'.get? b=some { o with slots:=g })
  (K:∃t g,h'.get? e=some (yP C od t T' g)):Inv X pins σ (upd H e (XO e C od T')) { s with heap:=h' }:=by
 have w:∀b,H b=none->b≠e:=λb n z=>by rw[z,he]at n;cases n
 have E:∀b o,H b=some o->b∉frs X.stack:=λb o q z=>by rw[I.ar b z]at q;cases q
 have D:∀b o,H b=some o->b∉ch:=λb o q z=>by rw[(d b z).2.1]at q;cases q
 obtain⟨L,O,j⟩:=K;have any:=λb o h B q=>by
  by_cases hf:b∈frs X.stack
  .exact l b o hf q
  .exact⟨o.slots,keep b o B h hf q⟩
 refine I.step (λb h=>⟨.inr (d b h).1,(d b h).2.2⟩) (λb o A h f q n=>keep b o (w b n) f (λz=>?_) q) (λb o _ _ f q n=>any b o f (w b n) q)
  (λb o _ _ n=>by rw[zj (w b n)];exact n) (λb o f q=>?_) (λb J q=>?_) (λb o u q=>?_) (λb P q=>⟨#[],?_⟩) (λm F=>?_) (λb u q=>?_) I.bare
 .rcases P7.mp (I.UI b z)with z|z
  .exact A z
  .exact h z
 .by_cases a:b=e
  .exact⟨_,a▸j⟩
  .obtain⟨g,y⟩:=any b o f a q;exact⟨_,y⟩
 .have:b≠e:=λz=>by rw[z,he]at q;cases q
  rw[zj this];exact q
 .have:b≠e:=λz=>by rw[z,he]at q;cases q
  rw[zj this];exact q
 .have:b≠e:=λz=>by rw[z,he]at q;cases q
  rw[zj this,q];simp
 .obtain⟨o,G,M,N,r⟩:=F;have A:=I.free;obtain⟨g,y⟩:=any _ o (λz=>(d _ z).2.2.1 rfl) (w _ A) N;exact⟨_,G,M,y,r⟩
 .by_cases a:b=e
  .subst a;rw[zh]at q;cases q;exact XO.ok j
  .rw[zj a]at q;refine(I.hok b u q).m6 (λc v f r=>?_) (λc r=>?_) λc J r=>?_
   .rcases f with z|z
    .subst z;exact keep c v a (D c u q) (E c u q) r
    .have:c≠e:=λi=>by rw[i,he]at z;cases z
     exact keep c v this (D c _ z) (E c _ z) r
   .have:c≠e:=λi=>by rw[i,he]at r;cases r
    rw[zj this];exact r
   .have:c≠e:=λi=>by rw[i,he]at r;cases r
    rw[zj this];exact r
structure Tb(X:Cx)(pins:Oh)(H:Hp)(s:Om)(Ta:Addr)(fl:Value):Prop where
 tbk:∃oT ts,s.heap.get? Ta=some oT/\oT.data=.fields ts/\ts[3]?=some fl
 new:X.s₀.heap.objs.size<=Ta
 free:H Ta=none
 pin:∀p∈X.pn++pins,p.1≠Ta
def Own(X:Cx):Prop:=X.stack=X.env::X.outer/\X.env.frame=some X.env.locals
def Tb.ok(I:Inv X pins σ H s)(b:Tb X pins H s Ta fl):Ta≠X.env.locals/\(∀x c,X.env.cells.lookup x=some c->c≠Ta)/\Ta∉frs X.stack:=by
 obtain⟨l,j,e,f,_⟩:=b.tbk;have g:Ta≠X.env.locals:=λz=>by obtain⟨m,⟨o,i,n,a,d,_⟩,_⟩:=I.loc;rw[z]at e;rw[e]at a;cases a;rw[f]at d;cases d
 refine⟨g,λx c q z=>?_,λz=>?_⟩
 .obtain⟨v,o,a,d⟩:=I.cell x c q;rw[z,e]at a;cases a;rw[f]at d;cases d
 .rcases P7.mp (I.UI _ z)with z|z
  .exact g z
  .obtain⟨_,o,a,h⟩:=I.eT.mem z;rw[e]at a;cases a;exact h _ f
def Jo(I:Inv X pins σ H s)(he:H e=some (XO e C od (.ref Ta)))(b:Tb X pins H s Ta fl)
  (v:∀h,Inv X pins σ (upd H e (XO e C od (.ref Ta))) { s with heap:=h }->Tb X pins (upd H e (XO e C od (.ref Ta))) { s with heap:=h } Ta (f.elim .none λf=>rawInt f)->Q () { s with heap:=h }):
  wpAny M A (setFlight (.ref e) f) Q E s:=by
 obtain⟨t,u,l⟩:=XO.get (I.hok e _ he);obtain⟨y,w,j,i,p⟩:=id b.tbk;obtain⟨m,r,n⟩:=b.ok I;have g:Ta≠e:=λz=>by have:=b.free;rw[z,he]at this;cases this
 have sz:=(a1Y.mp p).1;refine f8 (a1L l rfl (x:=.ref Ta) rfl ?_);refine a3P j i sz ?_;have d:∀c,c≠Ta->(s.heap.update Ta (Obj.mapFields (·.setIfInBounds 3 (f.elim .none λf=>rawInt f)))).get? c=s.heap.get? c:=λc a=>T9 _ _ (Ne.symm a);refine v _ (I.CA he [Ta] (λc a=>?_) (λc o _ a _ q=>(d c (by grind)).trans q) (λc o a q=>⟨o.slots,(d c (λz=>n (z▸a))).trans q⟩) ⟨t,u,(d e (Ne.symm g)).trans l⟩) ⟨⟨_,_,Heap.get?_update_self _ j (Obj.isFreed_of_fields (Obj.data_mapFields i _)),Obj.data_mapFields i _,by simp[sz]⟩,b.new,by rw[zj g];exact b.free,b.pin⟩;obtain rfl:c=Ta:=by simpa using a
 exact⟨b.new,b.free,m,r,b.pin⟩
def uL(I:Inv X pins σ H s)(he:H e=some (XO e C od .none))(a:Q () s):wpAny M A (setFlight (.ref e) f) Q E s:=by obtain⟨t,c,b⟩:=XO.get (I.hok e _ he);refine f8 (a1L b rfl rfl ?_);exact v4 a
def cM(b:Own X)(v:A.frames=some X.stack)(I:Inv X pins σ H s)(he:H e=some (XO e C od T))
  (D:∀Tn r,Inv X pins σ (upd H e (XO e C od (.ref Tn))) { s with heap:=r }->Tb X pins (upd H e (XO e C od (.ref Tn))) { s with heap:=r } Tn (rawInt X.env.locals)->Q () { s with heap:=r }):
  wpAny M A (do setField (.ref e) 1 (<- EntryCells.newEntry head (<- frameOf X.env) .none (rawInt X.env.locals) .none (<- entryPlaceOf X.env.locals hadNext))) Q E s:=by
 obtain⟨t,x,B⟩:=XO.get (I.hok e _ he);have j:=I.stack;rw[b.1]at j v;refine f8 (wpAny_frameOf_fun v j b.2 λg a=>?_);refine f8 (wpAny_entryPlaceOf λF i=>?_);refine f8 (a0O ?_ (i.sizeOk5 _ _ _ _ _));have l:e∉frs (X.env::X.outer):=λz=>by have:=I.ar e (by rw[b.1];exact z);rw[he]at this;cases this
 have f:=(a.2.1 e l).trans B;have h:=P1 (O8 f);refine a3P (O0 _ f) rfl (by simp) ?_;have d:∀c o,c≠e->g.get? c=some o->∀w:Obj,((g.push w).update e (Obj.mapFields (·.setIfInBounds 1 (Value.ref g.objs.size)))).get? c=some o:=λc o m q w=>
  (T9 _ _ (Ne.symm m)).trans (O0 _ q)
 have u:=I.hok.fresh (a28 a.1.symm);refine D g.objs.size _ (I.CA he [] (λ_ z=>nomatch z) (λc o m _ hf q=>d c o m ((a.2.1 c (by rw[b.1]at hf;exact hf)).trans q) _) (λc o hf q=>?_) ⟨t,x,?_⟩) ⟨⟨_,_,(T9 _ _ h).trans (P9 _ rfl),rfl,?_⟩,?_,?_,λp hp z=>?_⟩
 .obtain⟨n,y⟩:=a.2.2 c o q;exact⟨n,d c _ (λz=>l (by rw[b.1]at hf;exact z▸hf)) y _⟩
 .exact a0w _ (O0 _ f) rfl
 .rcases i with rfl|⟨_,_,_,_,_,_,_,rfl⟩<;>simp
 .rw[a.1];exact I.sz
 .rw[zj (Ne.symm h)];exact u
 .have q:=(I.pin p hp).1;exact absurd (O8 q) (by rw[z,a.1];exact a0V _)
structure XIs(K:OL)(C:Addr):Prop where
 ha:findIn K (.ref C) "__class__"=some (some (.builtin "object.__class__"))
 hn:specialIn K (.builtin "object.__class__") "__get__"=some (some (.builtin "getset_descriptor.__get__"))
 htk:takesIn K (.builtin "object.__class__")=some true
section
variable {prog:Ox}{w:OE}{A:OG}{E:Of}{s:Om}{K:OL}{x C:Addr}{sl:OI}
def F0(X:K.In s.heap)(c:JP K C)(z:XIs K C)(I:InstAt s.heap x ox C (some od))
  (h:Q (some (.ref C)) { s with toks:=s.toks+1 }):wpAny (model prog w) A (getAttr? (.ref x) "__class__") Q E s:=by
 obtain⟨cd,hc,ho,ne,hdct⟩:=c.cd;have hm:=c.sub (x:="object") (by decide);obtain⟨hp,g,d,tk,os⟩:=s;have L0:=I.type (M:=model prog w);have L1:=a18 (M:=model prog w) X c.ga;have L2:=a18 (M:=model prog w) X c.gn;have Lb:Looks (model prog w) hp (isInstance (.ref x) (.type "BaseException")) true:=L0.andThen (a2M X (c.sub (x:="BaseException") (by decide)));have hf:findObj K C (some od) "__class__"=some (.bind (.builtin "getset_descriptor.__get__") (.builtin "object.__class__")):=findObj_data (by rw[hc];rfl) z.ha z.hn z.htk;have L3:=looks_find (M:=model prog w) X I hf;have ga:=PySem.F.excAttr_ValueError.ga;have f3:=ga.bind (.ref x);unfold getAttr? getAttrBy? getAttrBy;refine f8 (a27 (f8 (a1X (W1 (f8 (L0.at (f8 (L1.at ?_))))))));dsimp only;rw[show(onTheHeap (Value.ref C)&&Value.builtin "BaseException.__getattribute__"==Value.builtin "object.__getattribute__")=false from by
  rw[show(Value.builtin "BaseException.__getattribute__"==Value.builtin "object.__getattribute__")=false from by decide +kernel];rfl]
 show wpAny _ _ (getAttrByItsOwn _ _ _ _ _ _) _ _ _;unfold getAttrByItsOwn;refine f8 (show wpAny _ _ (typeLookup (.ref C) "__getattr__") _ _ _ from L2.at ?_);refine f8 (a1X (W1 ?_));show wpAny _ _ (bindSpecial _ _ >>= _) _ _ _;rw[f3];refine f8 (v4 (a1i (a1a ga.plain F.entry_bexc_ga ?_)));have hk:builtinKind "BaseException.__getattribute__"=some .slot:=by decide +kernel
 have hs:splitId "BaseException.__getattribute__"=some ("BaseException","__getattribute__"):=by decide +kernel
 refine @check_slot (model prog w) _ _ ⟨hp,g,d,tk+1,os⟩ "BaseException.__getattribute__" "BaseException" "__getattribute__" (.ref x) [.str "__class__" tk] [] _ hk hs Lb (F.args_bexc_ga (.ref x) (.str "__class__" tk)) ?_;unfold Builtin.«object.__getattribute__»
 repeat(first|with_reducible refine a1i ?_|lk)
 refine class_get (s:=⟨hp,g,d,tk+1,os⟩) (ox:=ox) (od:=some od) X I hm ?_;exact v4 (v4 (v4 h))
def uM{ox od:Obj}(c:JP K C)(z:XIs K C):KitX K (.ref x) (.ref C) (λh=>InstAt h x ox C (some od))where
 ty:=λ_ _ _ I=>I.type
 it:=λ_ _ X _=>by
  obtain⟨cd,a,_⟩:=c.cd;unfold clsIn at a;split at a
  .rename_i l g e b d;intro r u p m k q;exact f8 (a2g (k _ _ (X _ _ d)) (v4 q))
  .cases a
 ne:=λh j o i n sl X f=>by
  obtain⟨cd,a,_⟩:=c.cd;refine Bool.eq_false_iff.mpr λq=>?_;obtain rfl:C=j:=Value.ref.inj (a0b.mp q);unfold clsIn at a;split at a
  .rename_i l g e b d;cases(X _ _ d).symm.trans f
  .cases a
 ca:=λX I k=>F0 X c z I k
end
def aB(h:H a=some o):upd H a o=H:=by
 funext b;unfold upd;split
 .rename_i e;rw[e,h]
 .rfl
def XC(e C b:Addr):HO:=.ext λh=>∃t T a,h.get? e=some (yP C (some b) t T a)
def XC.ok(x:h.get? e=some (yP C (some dx) t T sl)):yR P w H h e (XC e C dx):=
 ⟨⟨t,T,sl,x⟩,⟨_,x⟩,λ_ _ ⟨b,c,a,p⟩ k=>⟨b,c,a,k _ p⟩⟩
def XC.get(x:yR P w H h e (XC e C dx)):∃t T a,h.get? e=some (yP C (some dx) t T a):=x.1
section
variable {X:Cx}{pins:Oh}{σ:St}{H:Hp}{s:Om}{e C dx Ta:Addr}{od:OP}{T fl:Value}{M:Model}{A:OG}{E:Of}{Q:Unit->Shared->Prop}
def Inv.W4(I:Inv X pins σ H s)(he:H e=some (XO e C (some dx) T)):Inv X pins σ (upd H e (XC e C dx)) s:=by
 obtain⟨t,h,f⟩:=XO.get (I.hok e _ he);refine I.un ⟨λb o q _ _ _=>q,λb o q _ _ _=>⟨o.slots,q⟩,λb o _ n _=>?_,λb o q _=>⟨o,q⟩,λb g q=>?_,λb o u q=>?_,λb i q=>⟨#[],?_⟩⟩ λb u q=>?_
 .have:b≠e:=λz=>by rw[z,he]at n;cases n
  rw[zj this];exact n
 .have:b≠e:=λz=>by rw[z,he]at q;cases q
  rw[zj this];exact q
 .have:b≠e:=λz=>by rw[z,he]at q;cases q
  rw[zj this];exact q
 .have:b≠e:=λz=>by rw[z,he]at q;cases q
  rw[zj this,q];simp
 .by_cases d:b=e
  .subst d;rw[zh]at q;cases q;exact XC.ok f
  .rw[zj d]at q;refine(I.hok b u q).m6 (λ_ _ _ r=>r) (λc r=>?_) λc g r=>?_
   .have:c≠e:=λa=>by rw[a,he]at r;cases r
    rw[zj this];exact r
   .have:c≠e:=λa=>by rw[a,he]at r;cases r
    rw[zj this];exact r
def Fl(X:Cx)(pins:Oh)(H:Hp)(s:Om)(e C:Addr)(od:OP):Prop:=
 ∃T,H e=some (XO e C od T)/\(T=.none\/∃Ta fl,T=.ref Ta/\Tb X pins H s Ta fl/\(fl=.none\/∃n:Int,fl=rawInt n))
def WA(g:Own X)(n:A.frames=some X.stack)(I:Inv X pins σ H s)(f:Fl X pins H s e C od)
  (m:∀Tn i,Inv X pins σ (upd H e (XO e C od (.ref Tn))) { s with heap:=i }->Tb X pins (upd H e (XO e C od (.ref Tn))) { s with heap:=i } Tn (rawInt X.env.locals)->Q () { s with heap:=i }):
  wpAny M A (noteFrame (.ref e) X.env) Q E s:=by
 obtain⟨T,a,G⟩:=f;obtain⟨t,J,u⟩:=XO.get (I.hok e _ a);unfold noteFrame;simp only[g.2];refine f8 (a1L u rfl (x:=T) rfl ?_);rcases G with rfl|⟨Ta,fl,rfl,b,F⟩
 .exact cM g n I a m
 .obtain⟨L,K,r,v,p⟩:=id b.tbk;refine f8 (a1L r v p ?_);by_cases j:¬(fl==rawInt X.env.locals)=true
  .rw[if_neg j];obtain⟨w,B,y⟩:=b.ok I;have l:Ta≠e:=λz=>by have:=b.free;rw[z,a]at this;cases this
   have sz:=(a1Y.mp p).1;refine f8 (a3P r v sz ?_);have h:∀c,c≠Ta->(s.heap.update Ta (Obj.mapFields (·.setIfInBounds 3 .none))).get? c=s.heap.get? c:=λc d=>T9 _ _ (Ne.symm d);have D:=by
    have:=I.CA a [Ta] (λc d=>by
     obtain rfl:c=Ta:=by simpa using d
     exact⟨b.new,b.free,w,B,b.pin⟩) (λc o _ d _ q=>(h c (by grind)).trans q) (λc o d q=>⟨o.slots,(h c (λz=>y (z▸d))).trans q⟩) ⟨t,J,(h e (Ne.symm l)).trans u⟩
    rwa [aB a]at this
   exact cM g n D a λTn i=>m Tn i
  .have j:=Classical.not_not.mp j;rw[if_pos j];obtain rfl:fl=rawInt X.env.locals:=eq_of_beq j;refine v4 ?_;have:=m Ta s.heap (by rw[aB a];exact I) (by rw[aB a];exact b);exact this
end
def LN(X:Cx)(E:XK)(v:Value)(c:Om):Prop:=∃d a e C b,v=.ref e/\Inv X.nox [] d a c/\Fl X.nox [] a c e C (some b)/\E (.ref e) (some b) (upd a e (XC e C b))
def CXe(P:Ox)(w:OE):CXT:=λa H s E v b=>∃e C f d h g c,v=.ref e/\b.os=s.os/\AllBare b.gens/\Un (frs a) [] H c s.heap b.heap/\HOk P w c b.heap/\
 c e=some (XO e C (some f) (.ref d))/\b.heap.get? d=some h/\h.data=.fields g/\g[3]?=some .none/\c d=none/\s.heap.objs.size<=d/\E (.ref e) (some f) (upd c e (XC e C f))
abbrev thr(X:Cx)(E:XK):Cx:=X.V7 (LN X E)
def Inv.thrown(I:Inv X pins σ H s)(h:CXe X.prog X.w X.stack H s E v s')(x:X.m<=s'.toks:=by ac_rfl):
  ∃a e C c,v=.ref e/\Inv X pins σ a s'/\Fl X pins a s' e C (some c)/\E (.ref e) (some c) (upd a e (XC e C c)):=by
 obtain⟨e,C,c,n,j,i,a,rfl,w,d,un,f,r,o,t,m,l,g,q⟩:=h;have u:=I.Fn w un f d λb z=>absurd z (by simp);refine⟨a,e,C,c,rfl,u,⟨_,r,.inr ⟨n,_,rfl,⟨⟨j,i,o,t,m⟩,P8 I.sz g,l,λp hp z=>?_⟩,.inl rfl⟩⟩,q⟩;have:=O8 (I.pin p hp).1;rw[z]at this;exact absurd g (Nat.not_le.mpr this)
def Inv.gY(I:Inv X pins σ H s):Inv X [] σ H s:=I.K4 λ_ h=>nomatch h
def Fl.gY(f:Fl X pins H s e C od):Fl X [] H s e C od:=by obtain⟨T,d,h⟩:=f;refine⟨T,d,h.imp id λ⟨c,fl,a,b,g⟩=>⟨c,fl,a,⟨b.tbk,b.new,b.free,λp hp=>b.pin p ?_⟩,g⟩⟩;rw[a0h]at hp;exact a0A _ hp
def Fl.V7(f:Fl X pins H s e C od):Fl (X.V7 E) pins H s e C od:=by obtain⟨T,c,h⟩:=f;exact⟨T,c,h.imp id λ⟨d,fl,a,b,g⟩=>⟨d,fl,a,⟨b.tbk,b.new,b.free,b.pin⟩,g⟩⟩
def zI:Passes (CXe X.prog X.w) (thr X E) E:=λa c H s v j I h i=>by obtain⟨d,e,C,g,rfl,b,f,q⟩:=Inv.thrown I h i;exact⟨c,d,e,C,g,rfl,(b.qX.V7 _).gY,(Fl.V7 (X:=thr X E) f.gY),q⟩
def UN:Passes (CXe P w) X E0:=λa b H s v c I h _=>by obtain⟨e,C,g,i,j,f,d,_,_,_,_,_,_,_,_,_,_,_,q⟩:=h;exact False.elim q
def yg(a:Own X):PassesOwn (Px X) X.A X.env (LN X E):=λv n ⟨m,r,e,C,h,l,I,f,q⟩=>by
 subst l;have i:=I.ok.frames;refine WA (X:=X.nox) a i I f λTn o d b=>?_;obtain⟨t,s,j⟩:=XO.get (d.hok e _ zh);refine f8 (a1L j rfl (x:=.ref Tn) rfl ?_);refine Jo d zh b λp c g=>?_;rw[qD]at c g;refine⟨m,_,e,C,h,rfl,c,⟨_,zh,.inr ⟨Tn,_,rfl,g,.inr ⟨X.env.locals,?_⟩⟩⟩,?_⟩
 .rw[a.2];rfl
 .rw[qD];exact q
def Bb{P:Ox}{w:OE}{K:OL}{mg:Oi}{c:Heap}{N:Oj}{d:Str}{a:Scope}{f:Addr}{cd:Value}{A:OG}{outer:List Env}{s:Om}{H:Hp}{E:XK}{v:Value}{j:Om}
  (h:LN (lS (CXe P w) P w K mg c N d a f cd A outer s H E) E v j):(lS (CXe P w) P w K mg c N d a f cd A outer s H E).xe v j:=by
 obtain⟨y,D,e,C,o,u,I,fl,q⟩:=h;subst u;have m:Own (lS (CXe P w) P w K mg c N d a f cd A outer s H E):=⟨rfl,rfl⟩;show wpAny (model P w) _ (leaving _ (.ref e)) _ _ j;refine f8 (WA (X:=(lS (CXe P w) P w K mg c N d a f cd A outer s H E).nox) m I.ok.frames I fl λTn z x b=>?_);refine Jo x zh b λB g i=>?_;rw[qD]at g i;obtain⟨p,n,t,l,r⟩:=i.tbk;exact⟨e,C,o,Tn,p,n,_,rfl,g.os,g.bare,g.base,g.hok,zh,t,l,r,i.free,i.new,by rw[qD];exact q⟩
def PSs.F1{X:Cx}{E:Of}{st:ON}{t:TS}(h:PSs (X.V7 E) st t)(d:∀v s,E v s->X.xe v s):PSs X st t:=λa s b H D I c=>
 a0f (h a s b H D (I.V7 E) c) (λ_ _ q=>q.qX) d
section
variable {P:Ox}{w:OE}{K:OL}{mg:Oi}{base:Heap}
def Fun.okX{x b:Str}{st:OY}{f:Addr}{i:OH}{N g:Oj}{k:Nat}{sp:Sp}(F:Fun K x b st f i)(S:zy N g (zm st))(len:∀d H Q E,sp d H Q E->d.length=g.length)
  (l:∀(c:Value)(A:OG)(a:List Env)(s:Om)(H:Hp)(d:Ow)(Q:VK) (E:XK),j7 k (A.deeper (envOfC b (zm st) s.heap.objs.size f c))->sp d H Q E->
   ∃t,PSs (thr (lS (CXe P w) P w K mg base N b (zm st) f c A a s H E) E) (Zu st) t/\t { nx:=λ_ p=>Q .non p,rt:=Q } (start N d) H):qz P w K mg base (CXe P w) (k+1) f i g sp:=by
 obtain⟨r,u,kV,o,y,z,c,ct,m,rfl,j,e⟩:=F.ex;refine FH j e S len λA a s H d Q E n hsp=>?_;obtain⟨t,h,q⟩:=l c A a s H d Q E n hsp;exact⟨t,h.F1 λv s h=>Bb h,q⟩
end
def F3(C:Addr)(sp:Sp)(E:XK)(t:TA):TE:=λc H Q=>t c H λb a=>b.length<=1000/\∀x,a x=none->sp (.ref x::b) (upd a x (XO x C none .none)) (λv d=>v=.non/\Q (.ref x) d) E
def Inv.LP(I:Inv X pins σ H s):
  Inv X pins σ (upd H (s.heap.objs.size+1) (XO (s.heap.objs.size+1) C none .none)) { s with heap:=(s.heap.push (Ba us)).push (yP C none s.heap.objs.size .none #[]) }:=
 I.laid (λb u e=>O0 _ (O0 _ e)) (a0Y _) (XO.ok (by heap_get))
def om(M:XMk X.K C f)(F:qz X.prog X.w X.K X.mg X.base CX k f fd ps sp)(A:j7 (k+1) X.A)(D:Binds X.K fd ps [])
  (z:Passes CX X E) (I:Inv X pins σ H s) (r:Vals vs b) (J:vs.length<=1000) (h:∀x,H x=none->sp (.ref x::vs) (upd H x (XO x C none .none)) (λv w=>v=.non/\Q (.ref x) w) E):
  wpAny (Px X) X.A (call (.ref C) b) (EP X pins σ Q) X.xe s:=by
 have m:=h (s.heap.objs.size+1) (I.hok.fresh (a0Y _));have c:=Inv.LP (C:=C) (us:=b) I;have l:Vals (V.ref (s.heap.objs.size+1)::vs) (Value.ref (s.heap.objs.size+1)::b):=.cons rfl r;have j:(Value.ref (s.heap.objs.size+1)::b++[]).length=ps.length:=by have e:=l.length;rw[F.len _ _ _ _ m]at e;rw[a0h];exact e.symm
 have p:=D _ (Value.ref (s.heap.objs.size+1)::b) c.kIn j;rw[a0h]at p;obtain⟨q,g,d,tk,K⟩:=s;refine a0g I.tk<|LM M I.kIn (by rw[<- r.length,a0E];omega) (a03 (F.run _ X.stack _ _ ⟨_::b,[]⟩ _ _ _ E (A.make C b []) (c.nR.make C b []) p l m) λr y a=>?_)
 cases r with
 |error e=>exact λi=>z pins σ _ _ e y c a i
 |ok fl=>
  cases fl with
  |ret u=>obtain⟨v,o,_,_,_,_,B,ev,_⟩:=id a;subst ev;refine⟨B,λi=>?_⟩;obtain⟨v,o,t,_,_,G⟩:=c.after a i;exact⟨V.ref (q.objs.size+1),o,t,rfl,G⟩
  |next=>exact False.elim a
  |brk=>exact False.elim a
  |cont=>exact False.elim a
def uN(M:XMk X.K C f)(F:qz X.prog X.w X.K X.mg X.base CX k f fd ps sp)(m:j7 (k+1) X.A)(i:Gl X x)(g:X.mg x=some (.ref C))(o:Binds X.K fd ps [])(j:Passes CX X E)
  (d:PA X (e::es) t) (b:(x==("__debug__":Str))=false:=by decide) (he:starEach (e::es) X.env=(false,eval e X.env)::starEach es X.env:=by rfl) (hpl:(backTo pos (starEach es X.env)).any (·.1)=false:=by rfl):
  PE X (.Call (.Name x p) (e::es) [] pos) (F3 C sp E t):=by
 intro a s n H Q I h;refine a1n (Jm I i g ?_ b);refine a2P I.ok.mod.kin M.kp (thn (d pos a s n H _ I h) λu v ⟨y,w,c,r,l,q⟩=>⟨c.kIn,?_⟩) he hpl;exact om M F m o j c r l q
def LQ(K:OL)(d g:TE)(f:Str):TS:=λD c H=>g c H λy h=>d c h λx b=>∃e C T,x=.ref e/\JP K C/\takerIn K C f=some none/\
  ((b e=some (XO e C none T)/\∀a,b a=none->D.nx c (upd (upd b a (XD a [(f,y)])) e (XO e C (some a) T)))\/
   (∃a fs,b e=some (XO e C (some a) T)/\b a=some (XD a fs)/\a≠e/\fs.length<1000/\D.nx c (upd b a (XD a (eU f y fs)))))
def LU(K:OL)(c:TE)(f:Str):TE:=λd H Q=>c d H λx a=>∃e C b fs v,x=.ref e/\JP K C/\findIn K (.ref C) f=some none/\(a e=some (XC e C b)\/∃T,a e=some (XO e C (some b) T))/\a b=some (XD b fs)/\fs.lookup f=some v/\Q v a
section
variable {X:Cx}{o value:Ot}{f:Str}{pos pos':Pos}{ta tv:TE}
def Ys(U:PE X o ta)(hv:PE X value tv)(hs:swapsWith value (some (.Attribute o f pos')) pos.line X.env=pure false):PS X (.Assign [.Attribute o f pos'] value pos) (LQ X.K ta tv f):=by
 intro p s K H D I h;refine plainObj_wpAny_Assign_Attribute (thn (hv p s K H _ I h) λu Y ⟨y,H1,I1,P,q⟩=>thn (U p Y K H1 _ I1 q) λov s2 ⟨x,O,i,rx,e,C,T,W,c,tk,E⟩=>?_) hs;subst W;obtain rfl:ov=Value.ref e:=rx;rcases E with⟨a,E⟩|⟨F,fs,a,S,Z,l,E⟩
 .obtain⟨t,sl,G⟩:=XO.get (i.hok e _ a);have hne:=a0B (O8 G);have B:=i.hok.fresh (O2 _);refine lX i.kIn c G tk λL A j J=>⟨K,_,?_,E _ B⟩;have lt:∀b o,s2.heap.get? b=some o->b≠s2.heap.objs.size:=λb o q=>P1 (O8 q);have d:∀b o,O b=some o->b≠s2.heap.objs.size:=λb o q z=>by rw[z,B]at q;cases q
  refine i.un ⟨λb o q n _ _=>J b o (λz=>by rw[z,a]at n;cases n) q,λb o q n _ _=>⟨o.slots,J b o (λz=>by rw[z,a]at n;cases n) q⟩,λb o q n _=>?_,λb o q _=>?_,λb xs q=>?_,λb o u q=>?_,λb ps q=>⟨#[],?_⟩⟩ λb ob q=>?_
  .rw[zj (λz=>by rw[z,a]at n;cases n),zj (lt b o q)];exact n
  .by_cases m:b=e
   .exact⟨_,m▸A⟩
   .exact⟨o,J b o m q⟩
  .rw[zj (λz=>by rw[z,a]at q;cases q),zj (d b _ q)];exact q
  .rw[zj (λz=>by rw[z,a]at q;cases q),zj (d b _ q)];exact q
  .rw[zj (λz=>by rw[z,a]at q;cases q),zj (d b _ q),q];simp
  .by_cases m:b=e
   .subst m;rw[zh]at q;cases q;exact XO.ok A
   .rw[zj m]at q;by_cases w:b=s2.heap.objs.size
    .subst w;rw[zh]at q;cases q;refine XD.ok j (λg=>?_) (λg M=>?_) (by simp)
     .by_cases z:g=f
      .subst z;simp only[List.lookup,beq_self_eq_true];exact P
      .rw[if_neg z];simp only[List.lookup,beq_eq_false_iff_ne.mpr z];exact True.intro
     .by_cases z:g=f
      .subst z;exact T6.mpr rfl
      .exact absurd (if_neg z) M
    .rw[zj w]at q;refine(i.hok b ob q).m6 (λc v hc r=>J c v ?_ r) (λc r=>?_) λc xs r=>?_
     .rcases hc with z|z
      .rw[z];exact m
      .intro z2;rw[z2,a]at z;cases z
     .rw[zj (λz=>by rw[z,a]at r;cases r),zj (d c _ r)];exact r
     .rw[zj (λz=>by rw[z,a]at r;cases r),zj (d c _ r)];exact r
 .obtain⟨t,sl,G⟩:=XO.get (i.hok e _ a);obtain⟨R,hn,r,Q,l1⟩:=XD.get (i.hok F _ S);refine oi i.kIn c G hn Z tk Q (by rw[u8,a0E];omega) λL j sb=>⟨K,_,?_,E⟩;have N:∃u,L.get? F=some u:=let⟨o,_,_,e',_⟩:=j;⟨o,e'⟩
  refine i.write (by rw[S];exact True.intro) (.inl rfl) (λb u m z=>(sb.2 b m).trans z) N (XD.ok j (λg=>?_) (λg M=>?_) ?_)
  .rw[WU];by_cases q:g=f
   .rw[if_pos q,if_pos q];exact P
   .rw[if_neg q,if_neg q];exact r g
  .by_cases q:g=f
   .rw[q];exact(WV f y fs).1
   .refine(WV f y fs).2 g (Q g λz=>M ?_);rw[if_neg q];exact z
  .have:=WX f y fs;omega
def F4(I:Inv X pins σ H s)(he:H e=some (XC e C dx)\/∃T,H e=some (XO e C (some dx) T)):∃t T a,s.heap.get? e=some (yP C (some dx) t T a):=by
 rcases he with he|⟨T,he⟩
 .exact XC.get (I.hok e _ he)
 .obtain⟨t,a,h⟩:=XO.get (I.hok e _ he);exact⟨t,T,a,h⟩
def CB(he:PE X e ta)(F:attributeBase e f X.env (eval e X.env)=eval e X.env):PE X (.Attribute e f pos) (LU X.K ta f):=by intro b s D H Q I h;refine Cs F (thn (he b s D H _ I h) λu G ⟨x,y,d,z,a,C,i,fs,v,m,c,n,E,p,l,q⟩=>?_);subst m;obtain rfl:u=Value.ref a:=z;obtain⟨t,T,J,A⟩:=F4 d E;obtain⟨B,w,r,_,_⟩:=XD.get (d.hok i _ p);obtain⟨u,j,g⟩:=Uh.some_of (v:=v) (o:=B f) (by grind);exact NR d.kIn c A w n j (nQ g) ⟨v,y,d.tok _,g,q⟩
def F5(K:OL)(E:XK)(d:TE):TS:=λ_ c H=>d c H λv b=>∃e C a,v=.ref e/\JP K C/\b e=some (XO e C (some a) .none)/\E (.ref e) (some a) (upd b e (XC e C a))
def uO(p:X.calm=true)(he:PE (thr X E) e te):PS (thr X E) (.Raise (some e) none pos) (F5 X.K E te):=by
 intro g s l H D I h;refine f8 (a1G ?_);refine f8 (f8 (thn (he g s l H _ I h) λu b ⟨v,A,d,B,a,C,w,ev,c,j,q⟩=>f8 (a1G (v4 ?_))));subst ev;obtain rfl:u=Value.ref a:=B;obtain⟨t,M,n⟩:=XO.get (d.hok a _ j);obtain⟨cd,y,_⟩:=c.cd;have m:Looks (Px X) b.heap (typeOf (.ref a)) (.ref C):=(Looks.ld n).andThen .now;have r:Looks (Px X) b.heap (isSubtype (.ref C) (.type "BaseException")) true:=a2M d.kIn (c.sub (by decide));have LI:Looks (Px X) b.heap (isInstance (.ref a) (.type "BaseException")) true:=m.andThen r;have i:(thr X E).xe (.ref a) b:=⟨l,A,a,C,w,rfl,(d.qX.V7 _).gY,⟨.none,j,.inl rfl⟩,q⟩;have F:=d.ok.hd p;have LT:Looks (Px X) b.heap (isType (.ref a)) false:=by intro K L J G k q;exact f8 (a2g (k _ _ n) (v4 q))
 have LE:Looks (Px X) b.heap (isExcClass (.ref a)) false:=LT.andThen .now;refine f8 (v4 ?_);refine f8 (W1 ?_);refine f8 (LE.here ?_);simp only[if_false];refine f8 (LI.here ?_);simp only[if_true];refine v4 (f8 (LT.here ?_));simp only[Bool.false_eq_true];have LC:Looks (Px X) b.heap (typeOf (.ref C)) (.type "type"):=looks_typeIn d.kIn c.ty;have z:Looks (Px X) b.heap (raisedInstance (.ref a)) (.ref a):=by refine m.andThen (LC.andThen ?_);exact .now
 exact f8 (z.here (f8 (uL d j (wpAny_raiseNew_none F i))))
end
def TyX(K:OL)(H:Hp)(x:V)(t:Value):Prop:=m7 K H x t\/
 ∃e C a fs,x=.ref e/\t=.ref C/\JP K C/\XIs K C/\(H e=some (XC e C a)\/∃T,H e=some (XO e C (some a) T))/\H a=some (XD a fs)
def LV:V->Option Value
 |.ref a=>some (.ref a)
 |.ty n=>some (.type n)
 |_=>none
def uP(r:RelV c u)(e:LV c=some v):u=v:=by
 cases c with
 |ref a=>cases e;exact r
 |ty n=>cases e;exact r
 |_=>cases e
def fj(I:Inv X pins σ H s)(rx:RelV x u)(ty:TyX X.K H x t):∃P,KitX X.K u t P/\P s.heap/\u≠.builtin "__main__.__loader__#opaque":=by
 rcases ty with ty|⟨e,C,dx,fs,rfl,rfl,c,z,he,hd⟩
 .cases ty with
  |non=>cases rx;exact⟨_,kitx_none,True.intro,λz=>nomatch z⟩
  |bl y=>cases rx;exact⟨_,kitx_bool,True.intro,λz=>nomatch z⟩
  |int i=>obtain⟨t,q⟩:= rx;cases q;exact⟨_,kitx_int,True.intro,λz=>nomatch z⟩
  |str y=>obtain⟨t,q⟩:= rx;cases q;exact⟨_,kitx_str,True.intro,λz=>nomatch z⟩
  |flt y=>obtain⟨t,q⟩:= rx;cases q;exact⟨_,kitx_float,True.intro,λz=>nomatch z⟩
  |@lst a xs ea=>cases rx;obtain⟨_,_,n,_,h1⟩:= (I.hok a _ ea);exact⟨_,kitx_list,⟨_,h1,rfl⟩,λz=>nomatch z⟩
  |@frz a ob xs ea=>cases rx;obtain⟨_,_,_,n,_,h1⟩:= (I.hok a _ ea);exact⟨_,kitx_list,⟨_,h1,rfl⟩,λz=>nomatch z⟩
  |@tup a xs ea=>cases rx;obtain⟨_,_,_,p⟩:= (I.hok a _ ea);obtain⟨o,h1,h2,_⟩:=p;exact⟨_,kitx_tuple,⟨o,h1,h2⟩,λz=>nomatch z⟩
  |@dK a kvs ea=>cases rx;obtain⟨_,_,vs,_,p⟩:= (I.hok a _ ea);obtain⟨o,es,ep,h1,h2,_⟩:=p;exact⟨_,kitx_dict,⟨o,h1,h2.1⟩,λz=>nomatch z⟩
  |@dT a kvs ea=>cases rx;obtain⟨_,_,xs,_,o,es,ep,h1,h2,_⟩:= (I.hok a _ ea);exact⟨_,kitx_dict,⟨o,h1,h2.1⟩,λz=>nomatch z⟩
  |@ins a C dx fs ea cl ha hn htk hm=>cases rx;obtain⟨mA,O,_⟩:=Cr I.hok ea;obtain⟨od,J,_⟩:=O.look;exact⟨_,kitx_own (cl.get _) cl.hd ha hn htk hm,J,λz=>nomatch z⟩
 .cases rx;obtain⟨t,T,sl,hx⟩:=F4 I he;obtain⟨mA,hn,_⟩:=XD.get (I.hok dx _ hd);obtain⟨od,hod,_⟩:=JN hn;exact⟨_,uM c z,⟨hx,rfl,rfl,hod⟩,λz=>nomatch z⟩
def XP(X:Cx)(pins:Oh)(σ:St)(Z:XK)(v:Value)(c:Om):Prop:=∃a e C b,v=.ref e/\Inv X pins σ a c/\Fl X pins a c e C (some b)/\Z (.ref e) (some b) (upd a e (XC e C b))
abbrev TEx:=St->Hp->VK->XK->Prop
abbrev TSx:=Ends->XK->St->Hp->Prop
def PEx(X:Cx)(e:Ot)(t:TEx):Prop:=
 ∀(a:Oh)(s:Om)(b:St)(H:Hp)(Q:VK)(Z:XK),Inv X a b H s->t b H Q Z->wpAny (Px X) X.A (eval e X.env) (EP X a b Q) (XP X a b Z) s
def PSx(X:Cx)(st:OY)(t:TSx):Prop:=
 ∀(a:Oh)(s:Om)(b:St)(H:Hp)(D:Ends)(Z:XK),Inv X a b H s->t D Z b H->wpAny (Px X) X.A (exec st X.env) (SP X a D) (XP X a b Z) s
def CC(X:Cx)(st:ON)(t:TSx):Prop:=
 ∀(a:Oh)(s:Om)(b:St)(H:Hp)(D:Ends)(Z:XK),Inv X a b H s->t D Z b H->wpAny (Px X) X.A (execs st X.env) (SP X a D) (XP X a b Z) s
def EP.qX(h:EP (X.V7 E) pins σ Q u s'):EP X pins σ Q u s':=by obtain⟨v,a,I,r,q⟩:=h;exact⟨v,a,I.qX,r,q⟩
def CD(F:qz X.prog X.w X.K X.mg X.base (CXe X.prog X.w) k f fd ps sp)(i:j7 k X.A)(j:Binds X.K fd ps [])
  (I:Inv X pins σ H s) (r:Vals d b) (h:sp d H Q Z):wpAny (Px X) X.A (call (.ref f) b) (EP X pins σ Q) (XP X pins σ Z) s:=by
 have g:(b++[]).length=ps.length:=by rw[a0h,<- r.length];exact F.len _ _ _ _ h
 have c:=j s b I.kIn g;rw[a0h]at c;refine a1i (a2X (n:=X.m) I.tk<|a03 (F.run X.A X.stack s H ⟨b,[]⟩ b d Q Z i I.nR c r h) λr l a m=>?_);cases r with
 |error e=>exact I.thrown a
 |ok fl=>
  cases fl with
  |ret u=>exact I.after a
  |next=>exact False.elim a
  |brk=>exact False.elim a
  |cont=>exact False.elim a
def PA.nox(h:PA X.nox es t)(a:Pos)(I:Inv X pins σ H s)(c:t σ H Q):
  wpAny (Px X) X.A (spliced (backTo a (starEach es X.env))) (AP X pins σ Q) E s:=
 a0f (h a pins s σ H Q (I.V7 _) c) (λ_ _ ⟨e,b,d,r,q⟩=>⟨e,b,d.qX,r,q⟩) λ_ _ z=>False.elim z
def aC(F:qz X.prog X.w X.K X.mg X.base (CXe X.prog X.w) k f fd ps sp)(n:j7 k X.A)(m:Gl X x)(l:X.mg x=some (.ref f))(o:keepIn X.K (.ref f)=true)(u:Binds X.K fd ps [])
  (j:PA X.nox (e::es) t) (a:(x==("__debug__":Str))=false:=by decide) (he:starEach (e::es) X.env=(false,eval e X.env)::starEach es X.env:=by rfl) (hpl:(backTo pos (starEach es X.env)).any (·.1)=false:=by rfl):
  PEx X (.Call (.Name x p) (e::es) [] pos) (λd H Q Z=>t d H λg b=>sp g b Q Z):=by
 intro i s d H Q Z I h;refine a1n (Jm I m l ?_ a);refine a2P (h₀:=X.base) I.ok.mod.kin o (thn (PA.nox j pos I h) λv w ⟨g,b,c,r,q⟩=>⟨c.kIn,?_⟩) he hpl;exact CD F n u c r q
def gZ(he:PEx X e tx)(d:swapsWith e none pos.line X.env=pure false:=by rfl):PSx X (.Expr e pos) (λD Z a H=>tx a H (λ_ c=>D.nx a c) Z):=by intro b s a H D Z I h;exact wpAny_Expr_any (thn (he b s a H _ Z I h) λv j ⟨x,c,f,i,g⟩=>⟨a,c,f,g⟩) I.quiet d
def CF(he:PEx X e tx):PSx X (.Return (some e) pos) (λD Z b H=>tx b H D.rt Z):=by intro a s b H D Z I h;exact wpAny_Return_some (thn (he a s b H _ Z I h) λv i ⟨x,c,f,d,g⟩=>⟨x,b,c,f,d,g⟩)
def g5{st:OY}{t:TSx}(c:PSx X st t):CC X [st] t:=by
 intro a s b H D Z I h;refine a2n (thn (c a s b H D Z I h) λf d q=>?_);cases f with
 |next=>exact a1I q
 |ret v=>exact q
 |brk=>exact q
 |cont=>exact q
abbrev Cx.held(X:Cx)(v:Value):Cx:={ X with A:=X.A.mark (some v),calm:=false,xe:=λ_ _=>False }
def Inv.held(I:Inv X pins σ H s)(v:Value):Inv (X.held v) pins σ H s:=
 ⟨⟨I.ok.mod,I.ok.kind,I.ok.glob,I.ok.blt,I.ok.above,I.ok.inj,I.ok.has,I.ok.cab,λz=>Bool.noConfusion z,I.ok.frames,I.ok.stk,I.ok.exf,I.ok.bs,I.ok.bsz,I.ok.Ff,I.ok.Fg,I.ok.eT,I.ok.frf⟩,I.os,I.bare,I.base,I.loc,I.cell,I.free,I.QA,I.pin,I.hok,I.len,I.tk⟩
def Inv.oq(I:Inv (X.held v) pins σ H s)(ok:X.Ok):Inv X pins σ H s:=
 ⟨ok,I.os,I.bare,I.base,I.loc,I.cell,I.free,I.QA,I.pin,I.hok,I.len,I.tk⟩
def Inv.blank(I:Inv X pins σ H s)(y:h'.Ns X.env.locals m')(f:Heap.SameBut X.env.locals s.heap h')(B:X.m<=t':=by ac_rfl):Inv X pins (List.replicate X.N.length none) H { s with heap:=h',toks:=t' }:=by
 have h:∀b o,X.s₀.heap.get? b=some o->b≠X.env.locals:=λb o e=>P1 (R8 (O8 e) I.ok.above);have g:∀b o,H b=some o->b≠X.env.locals:=λb o q z=>by rw[z,I.free]at q;cases q
 refine⟨I.ok,I.os,I.bare,⟨λb o e n l a=>(f.2 b (h b o e)).trans (I.base.keep b o e n l a),λb o e n l a=>?_,λb o e n a=>I.base.free b o e n a,λb o e a=>?_,I.base.uq,I.base.nA,I.base.t4⟩,⟨m',y,λi x v _ j _=>?_⟩,λx c e=>?_,I.free,I.QA,λp hp=>?_,λb u e=>?_,by simp,B⟩
 .obtain⟨D,q⟩:=I.base.slot b o e n l a;exact⟨D,(f.2 b (h b o e)).trans q⟩
 .obtain⟨t,q⟩:=I.base.there b o e a;exact⟨t,(f.2 b (h b o e)).trans q⟩
 .rw[a1b]at j;split at j<;>cases j
 .obtain⟨v,o,E,C⟩:=I.cell x c e;exact⟨v,o,(f.2 c (I.cne x c e)).trans E,C⟩
 .obtain⟨e,n,m,F,d⟩:=I.pin p hp;exact⟨(f.2 p.1 m).trans e,n,m,F,d⟩
 .refine(I.hok b u e).m6 (λc w A r=>(f.2 c ?_).trans r) (λ_ r=>r) λ_ _ r=>r;rcases A with z|z
  .rw[z];exact g b u e
  .exact g c _ z
def name_goes(I:Inv X pins σ H s)(c:X.env.kindOf n=some .local)
  (e:∀b,Inv X pins (List.replicate X.N.length none) H b->Q () b):wpAny M A (do bindName X.env n .none;unbindBehindTheSuite X.env n pos) Q E s:=by
 obtain⟨m,f,_⟩:=id I.loc;exact wpAny_nameGoes c f (by rw[I.ok.kind];rfl) λg h a d=>e _ (I.blank a d)
structure Catch(K:OL)(C F:Addr)(b:Bool):Prop where
 ty:typeIn K (.ref F)=some (.type "type")
 cl:(clsIn K F).isSome=true
 ex:subIn K (.ref F) (.type "BaseException")=some true
 su:subIn K (.ref C) (.ref F)=some b
def Zv{K:OL}{M:Model}{h:Heap}{e C F:Addr}{b:Bool}{o:Obj}(X:K.In h)(he:h.get? e=some o)(n:o.cls=.ref C)(k:Catch K C F b):Looks M h (excMatches (.ref e) (.ref F)) b:=by
 have l:Looks M h (typeOf (.ref e)) (.ref C):=n▸(Looks.ld he).andThen .now;have i:Looks M h (typeOf (.ref F)) (.type "type"):=looks_typeIn X k.ty;have j:Looks M h (isInstance (.ref F) (.type "tuple")) false:=i.andThen (Looks.of_pure tc_notTuple);have f:Looks M h (isType (.ref F)) true:=by
  have a:=k.cl;unfold clsIn at a;split at a
  .rename_i G v r t p;intro z D y u kk q;exact f8 (a2g (kk _ _ (X _ _ p)) (v4 q))
  .cases a
 have c:Looks M h (isExcClass (.ref F)) true:=f.andThen (looks_subIn X k.ex);have m:=looks_subIn (M:=M) X k.su;intro A Q E s kk q;obtain⟨hp,g,d,tk,H⟩:=s;have w:=l.keeps kk;have M2:=j.keeps kk;have B:=c.keeps kk;have x:=m.keeps kk;cases b with
 |true=>(repeat lk);exact q
 |false=>(repeat lk);exact q
def uQ(i j:Int):Prop:=i.natAbs<2 ^ 8192/\j.natAbs<2 ^ 8192
def uQ.ok(h:uQ i j):IntMulOk i j:=IntMulOk.of_le (intBits_le_iff.mpr h.1) (intBits_le_iff.mpr h.2) (by decide)
def CG:OpR X (binaryOp .Mult) (rI uQ λi j=>.int (i*j)):=opI λ_ _ _ _ _ _ _ a q=>mul_int q a.ok
def uR(h:a≠b):upd (upd H a o) b q=upd (upd H b q) a o:=by
 funext c;unfold upd
 by_cases d:c=a
 .subst d;simp[h]
 .by_cases e:c=b
  .simp[d]
  .simp[d,e]
theorem zF.upd{H:Hp}{p:Addr}{o:HO}(h:H p=Option.none):zF H (upd H p o):=λb q e=>by rw[zj (qb e h)];exact e
def fk(cells:OO):List (Str×NameKind)->List (Str×Addr)->List (Str×Addr)
 |[],a=>a
 | (n,k)::r,a=>fk cells r (if k == .free then(match cells.lookup n with|some c=>(n,c)::a|none=>a)else a)
theorem Vv{env:Env}:∀(b:OS)(d:OO),(∀y∈b,y.2=.free->(env.cells.lookup y.1).isSome=true)->
  (forIn b d λx r=>if(x.2==NameKind.free)=true then do let a<-cellOf env x.1;pure (ForInStep.yield ((x.1,a)::r))else pure (ForInStep.yield r))=(pure (fk env.cells b d):Sem _)
 |[],d,_=>rfl
 | (n,k)::r,d,h=>by
  rw[List.forIn_cons];have i:=λd=>Vv r d λy m=>h y (O6 _ m);unfold fk;by_cases e:(k==NameKind.free)=true
  .have j:=h (n,k) O7 (a0b.mp e);obtain⟨c,l⟩:=a0v.mp j;have g:=l;simp only[e,cellOf,g];exact i _
  .have f:(k==NameKind.free)=false:=by simpa using e
   simp only[f,if_false];exact i _
def lZ(h:∀y∈scope.names,y.2=.free->(env.cells.lookup y.1).isSome=true):closureFor scope env=pure (fk env.cells scope.names []):=by have:=Vv scope.names [] h;simp only[closureFor];rw[this];rfl
theorem Qs{cells:OO}{x:Str}{c:Addr}:∀(b:OS)(f:OO),(∀d,f.lookup x=some d->cells.lookup x=some d)->(fk cells b f).lookup x=some c->cells.lookup x=some c
 |[],f,h,e=>h c e
 | (n,k)::r,f,h,e=>by
  refine Qs r _ (λd a=>?_) e;by_cases i:(k==NameKind.free)=true
  .rw[if_pos i]at a;split at a
   .rename_i l g;rw[a0o]at a;split at a
    .rename_i j;cases a;rw[a0b.mp j];exact g
    .exact h d a
   .exact h d a
  .rw[if_neg i]at a;exact h d a
theorem aE{cells:OO}{x:Str}:∀(a:OS)(d:OO),((d.lookup x).isSome=true\/((x,NameKind.free)∈a/\(cells.lookup x).isSome=true))->((fk cells a d).lookup x).isSome=true
 |[],d,h=>by
  rcases h with h|⟨h,_⟩
  .exact h
  .cases h
 | (n,k)::r,d,h=>by
  refine aE r _ ?_;rcases h with h|⟨h,b⟩
  .left;by_cases f:(k==NameKind.free)=true
   .rw[if_pos f];split
    .rw[a0o];split
     .rfl
     .exact h
    .exact h
   .rw[if_neg f];exact h
  .rcases P7.mp h with e|e
   .left;cases e;rw[if_pos (by rfl)];obtain⟨c,b⟩:=a0v.mp b;rw[b];simp
   .exact .inr ⟨e,b⟩
theorem CH{x:Str}{c:Addr}:∀(a:OS)(h:Heap)(b:OO),(cellsFrom h.objs.size a b).lookup x=some c->b.lookup x=some c\/(h.objs.size<=c/\∃v,(pushCells h a).IsCell c v)
 |[],_,_,e=>.inl e
 | (n,k)::r,h,b,e=>by
  unfold cellsFrom at e;unfold pushCells;split at e
  .rename_i d;rw[if_pos d];have f:(cellsFrom (h.push { cls:=.type "cell",data:=.cell none }).objs.size r ((n,h.objs.size)::b)).lookup x=some c:=by rw[a1f];exact e
   rcases CH r _ _ f with z|⟨z,v⟩
   .rw[a0o]at z;split at z
    .cases z;exact .inr ⟨O2 _,none,_,a3y r _ _ _ (P9 _ rfl),rfl⟩
    .exact .inl z
   .rw[a1f]at z;exact .inr ⟨a2Z z,v⟩
  .rename_i d;rw[if_neg d];exact CH r h b e
theorem ot:∀(a:OS)(i:Nat)(b:OO),(∀x y c,b.lookup x=some c->b.lookup y=some c->x=y)->(∀x c,b.lookup x=some c->c<i)->∀x y c,(cellsFrom i a b).lookup x=some c->(cellsFrom i a b).lookup y=some c->x=y
 |[],_,_,h,_=>h
 | (n,k)::r,i,b,h,g=>by
  unfold cellsFrom;split
  .refine ot r _ _ (λx y c f d=>?_) λx c e=>?_
   .rw[a0o]at f d;split at f<;>split at d
    .rename_i l _ j;rw[a0b.mp l,a0b.mp j]
    .cases f;exact absurd (g _ _ d) (a0V _)
    .cases d;exact absurd (g _ _ f) (a0V _)
    .exact h x y c f d
   .rw[a0o]at e;split at e
    .cases e;exact a1V _
    .exact a1v (g x c e)
  .exact ot r _ _ h g
theorem ou{x:Str}:∀(a:OS)(c:Nat)(b:OO),((b.lookup x).isSome=true\/(x,NameKind.cell)∈a)->((cellsFrom c a b).lookup x).isSome=true
 |[],_,_,h=>h.elim id λz=>nomatch z
 | (n,k)::r,c,b,h=>by
  unfold cellsFrom;split
  .refine ou r _ _ ?_;rcases h with h|h
   .left;rw[a0o];split
    .rfl
    .exact h
   .rcases P7.mp h with e|e
    .cases e;left;simp
    .exact .inr e
  .rename_i d;refine ou r _ _ (h.imp id λz=>?_);rcases P7.mp z with e|e
   .cases e;exact absurd rfl d
   .exact e
theorem ow{x:Str}:∀(a:OS)(c:Nat)(b:OO),(x,NameKind.cell)∉a->(cellsFrom c a b).lookup x=b.lookup x
 |[],_,_,_=>rfl
 | (n,k)::r,c,b,h=>by
  unfold cellsFrom;split
  .rename_i d;rw[ow r _ _ λz=>h (O6 _ z),a0o];have:(x==n)=false:=by
    cases q:x==n with
    |false=>rfl
    |true=>exact absurd (by grind) h
   rw[this]
  .exact ow r _ _ λz=>h (O6 _ z)
theorem oy{x:Str}{c:Addr}:∀(a:OS)(i b:Nat)(j:OO),b<=i->((x,NameKind.cell)∈a\/∀d,j.lookup x=some d->b<=d)->(cellsFrom i a j).lookup x=some c->b<=c
 |[],_,_,_,_,h,e=>h.elim (λz=>nomatch z) λz=>z c e
 | (n,k)::r,i,b,j,g,h,e=>by
  unfold cellsFrom at e;split at e
  .refine oy r _ b _ (a1t g) ?_ e;rcases h with h|h
   .rcases P7.mp h with z|z
    .cases z;refine .inr λd f=>?_;simp at f;rw[<- f];exact g
    .exact .inl z
   .refine .inr λd f=>?_;rw[a0o]at f;split at f
    .cases f;exact g
    .exact h d f
  .rename_i l;refine oy r _ b _ g (h.imp (λz=>?_) id) e;rcases P7.mp z with q|q
   .cases q;exact absurd rfl l
   .exact q
def l4
  (h:Q (newEnv scope s.heap.objs.size globals (cellsFrom (s.heap.objs.size+1) scope.names cl) qual none .none (some env) builtinsNs) { s with heap:=pushCells (s.heap.push { cls:=.type "dict",data:=.dict #[] }) scope.names }):
  wpAny M A (newFunctionEnv scope globals cl [] qual none .none (some env)) Q E s:=by
 simp only[newFunctionEnv,Option.isSome_some,if_true];refine f8 (wpAny_alloc ?_);refine f8 (wpAny_layCells _ (λd a c=>by cases b:a==NameKind.cell<;>simp[b]) _ _ _ _ ?_);rw[show({ s with heap:=s.heap.push { cls:=.type "dict",data:=.dict #[] } }:Shared).heap.objs.size=s.heap.objs.size+1 from a1f ..];refine f8 ?_;exact v4 (v4 h)
abbrev g6(scope:Scope)(cl:OO)(L:Addr)(env:Env):Env:={ compEnvC scope cl L env with cells:=cellsFrom (L+1) scope.names cl }
abbrev qA(X:Cx)(scope:Scope)(N:Oj)(fp:OX)(pn:Oh)(s:Om)(H:Hp)(L:Addr):Cx:=
 { X with N:=N,s₀:=s,H₀:=H,env:=g6 scope (fk X.env.cells scope.names []) L X.env,outer:=X.stack,ex:=fp,fn:=λx=>scope.names.contains (x,.cell),pn:=pn,xe:=λ_ _=>False }
def l5(X:Cx)(scope:Scope)(N:Oj)(fr:OF):Bool:=
 scope.kind == .function&&scope.names.all (λy=>y.2 != .cell || !scope.names.contains (y.1,.free))&&scope.names.all (λy=>y.2 != .local||scope.names.lookup y.1==some .local) &&
 scope.names.all (λy=>y.2 != .free||(X.env.kindOf y.1==some .cell||X.env.kindOf y.1==some .free))&&N.length==fr.length &&
 (N.zip fr).all λp=>match p.2 with|none=>true|some j=>X.N[j]?==some p.1&&scope.names.contains (p.1,.free)&&((relabel scope X.env).names.lookup p.1==some .cell||(relabel scope X.env).names.lookup p.1==some .free)
def uc(σ:St)(fr:OF):St:=fr.map λo=>match o with|none=>none|some j=>(σ[j]?).join
def PTs(X:Cx)(d:Oq)(t:TT):Prop:=
 ∀(a:Oh)(s:Om)(b:St)(H:Hp)(Q:Bool->Hp->Prop),Inv X a b H s->t b H Q->
  wpAny (Px X) X.A (forIn d true λc r=>if r=true then do let ok<-isTrue c X.env (eval c X.env);pure (ForInStep.yield ok)else pure (ForInStep.yield r)) (TP X a b Q) X.xe s
def NS:TT:=λ_ H Q=>Q true H
def CJ:PTs X [] NS:=λ_ _ a H _ I h=>wpAny_tests_nil ⟨H,I,h⟩
def CK(h:PT X c t):PTs X [c] t:=λa s b H Q I q=>wpAny_tests_one (h a s b H Q I q)
def cN(h:(relabel scope env).names.lookup x=some .cell\/(relabel scope env).names.lookup x=some .free):(x,NameKind.free)∈scope.names\/(x,NameKind.cell)∈scope.names:=by
 have b:∀(a:OS) k,(a.map λ(n,k)=>if(k==NameKind.free&&env.scope.kind == .function&&env.kindOf n==some .cell)then(n,NameKind.cell)else(n,k)).lookup x=some k->(k=.cell\/k=.free)->(x,NameKind.free)∈a\/(x,NameKind.cell)∈a:=by
  intro a
  induction a with
  |nil=>intro k e _;simp at e
  |cons y r f=>
   intro k e d;obtain⟨n,kd⟩:=y;rw[R7,a0o]at e;by_cases q:(kd==NameKind.free&&env.scope.kind == .function&&env.kindOf n==some .cell)=true
   .simp only[q]at e;split at e
    .rename_i c;have hf:=by simp only[Bool.and_eq_true,beq_iff_eq]at q;exact q.1.1
     left;rw[a0b.mp c,hf];exact O7
    .exact(f k e d).imp (O6 _) (O6 _)
   .simp only[q,if_false]at e;split at e
    .rename_i c;have g:kd=k:=a0e e;rcases d with z|z
     .right;rw[a0b.mp c,g,z];exact O7
     .left;rw[a0b.mp c,g,z];exact O7
    .exact(f k e d).imp (O6 _) (O6 _)
 rcases h with h|h
 .exact b _ _ h (.inl rfl)
 .exact b _ _ h (.inr rfl)
def fm(I:Ph)
  (b:∀n s,I n s->wpAny (model prog w) A (pyNext it) (λr e=>match r with
   |none=>R (.ok .next) e
   |some v=>wpAny (model prog w) A (letOwnedTupleGo target it v) (λ_ a=>wpAny (model prog w) A (assign target env v) (λ_ s2=>
     wpAny (model prog w) A (forIn ifs true λc r=>if r=true then do let ok<-isTrue c env (eval c env);pure (ForInStep.yield ok)else pure (ForInStep.yield r)) (λok d=>
      if ok=true then wpAny (model prog w) A (eval elt env) (λx g=>wpAny (model prog w) A (call (.builtin "list.append") [acc,x]) (λ_ l=>∃m,m<n/\I m l) (λ_ _=>False) g) (λ_ _=>False) d
      else ∃m,m<n/\I m d) (λ_ _=>False) s2) (λ_ _=>False) a) (λ_ _=>False) e) (λ_ _=>False) s)
  (n:Nat) (h:I n s):codeAny (model prog w) A (.compLoop (.ListComp elt [⟨target,qd,ifs,0⟩] scope pos) 0 it acc env) R s:=by
 refine codeAny_loop rfl I (λn s t=>?_) n h;refine wpAny_noted ?_;refine f8 (a1G (f8 (a0f (b n s t) (λr e j=>?_) λ_ _ z=>False.elim z)));cases r with
 |none=>exact v4 j
 |some v=>
  refine f8 (a0f j (λ_ a f=>f8 (a0f f (λ_ s2 q=>f8 (a0f q (λok d i=>?_) λ_ _ z=>False.elim z)) λ_ _ z=>False.elim z)) λ_ _ z=>False.elim z);cases ok with
  |false=>exact v4 ⟨rfl,i⟩
  |true=>exact f8 (f8 (a0f i (λx g p=>f8 (a0f p (λ_ l o=>v4 (v4 ⟨rfl,o⟩)) λ_ _ z=>False.elim z)) λ_ _ z=>False.elim z))
def l8{X:Cx}{pins:Oh}{σ:St}{h:Hp}{s2:Om}{S qd tg:Ot}{U:Oq}{a:Scope}{M:Pos}{N:Oj}{fr:OF}{it:Addr}{l:OX}{tn:Nat->Heap->Prop}{J:It}
  {E:Of}{RR:Value->Addr->Result->Shared->Prop}
  (hc:X.calm=true) (F:l5 X a N fr=true) (I2:Inv X pins σ h s2) (T:Turn X.prog X.w X.K tg J l it tn) (st:tn 0 s2.heap) (L:∀b∈l,ua X pins h b)
  (k:∀(d:Om)(D:Heap),Inv X pins σ (upd h s2.heap.objs.size (.lst [])) d->Inv (qA X a N l (X.pn++pins) d (upd h s2.heap.objs.size (.lst [])) d.heap.objs.size) [] (uc σ fr) (upd h s2.heap.objs.size (.lst [])) { d with heap:=D,toks:=d.toks+0 }->(∀b o,s2.heap.get? b=some o->D.get? b=some o)->(∀b∈l,(upd h s2.heap.objs.size (.lst [])) b=none)->(∀R:Hp,(∀b∈l,R b=none)->∀b∈l,ua (qA X a N l (X.pn++pins) d (upd h s2.heap.objs.size (.lst [])) d.heap.objs.size) [] R b)->
   codeAny (Px X) X.A (.compLoop (.ListComp S [⟨tg,qd,U,0⟩] a M) 0 (.ref it) (.ref s2.heap.objs.size) (g6 a (fk X.env.cells a.names []) d.heap.objs.size X.env)) (RR (.ref s2.heap.objs.size) d.heap.objs.size) { d with heap:=D,toks:=d.toks+0 }):
  wpAny (Px X) X.A (newList []) (λO d=>wpAny (Px X) X.A (newFunctionEnv a X.env.globals (fk X.env.cells a.names []) [] X.env.qual none .none (some X.env)) (λC s4=>
   codeAny (Px X) X.A (.compStart (.ListComp S [⟨tg,qd,U,0⟩] a M) 0 (.ref it) O { C with scope:=relabel a X.env }) (RR O C.locals) s4) E d) E s2:=by
 unfold l5 at F;simp only[Bool.and_eq_true,beq_iff_eq,List.all_eq_true]at F;obtain⟨⟨⟨⟨⟨k1,k2⟩,k3⟩,k4⟩,k5⟩,k6⟩:=F;have hcf:∀x,(x,NameKind.free)∈a.names->(x,NameKind.cell)∉a.names:=λx hf t=>by have:=k2 _ t;simp only[bne_self_eq_false,Bool.false_or,Bool.not_eq_true',List.contains_eq_mem,decide_eq_false_iff_not]at this;exact this hf
 refine a0O ?_;have f:=I2.LD (ys:=[]) (its:=[]) .nil (a0c _);refine l4 ?_;generalize hs3:({ s2 with heap:=s2.heap.push { cls:=.type "list",data:=.seq ([]:List Value).toArray } }:Shared)=d at f ⊢;have B:=(Heap.Ns.new d.heap (.type "dict")).keeps (a3y a.names _);have n:∀b o,d.heap.get? b=some o->(pushCells (d.heap.push { cls:=.type "dict",data:=.dict #[] }) a.names).get? b=some o:=λb o e=>a3y _ _ b o (O0 _ e);have r:=λx c e=>by have:=CH (x:=x) (c:=c) a.names (d.heap.push { cls:=.type "dict",data:=.dict #[] }) (fk X.env.cells a.names []) (by rw[a1f];exact e);rw[a1f]at this;exact this.imp (Qs _ [] λ_ z=>by simp at z) id
 generalize hh1:pushCells (d.heap.push { cls:=.type "dict",data:=.dict #[] }) a.names=D at B n r ⊢;have I:∀b o,s2.heap.get? b=some o->d.heap.get? b=some o:=λb o e=>by rw[<- hs3];exact O0 _ e
 have G:∀b∈l,b<d.heap.objs.size/\(upd h s2.heap.objs.size (.lst [])) b=none:=λb g=>by obtain⟨o,ho,_⟩:=T.obj _ _ st b g;refine⟨O8 (I _ _ ho),?_⟩;rw[zj (P1 (O8 ho))];exact(L b g).1
 have s:(qA X a N l (X.pn++pins) d (upd h s2.heap.objs.size (.lst [])) d.heap.objs.size).Ok:=by
  refine⟨f.ok.mod,k1,f.ok.glob,f.ok.blt,O2 _,ot _ _ _ (λx y c e1 A=>f.ok.inj x y c (Qs _ [] (λ_ z=>by simp at z) e1) (Qs _ [] (λ_ z=>by simp at z) A)) (λx c e=>?_),λx hx=>?_,λx c z e=>?_,λ_=>f.ok.hd hc,f.ok.frames,.inl rfl,
   λb g=>⟨P1 (G b g).1,λx c e=>?_⟩,f.bs,P8 f.ok.bsz f.sz,λb o e g=>?_,λb g z=>?_,f.stack,f.ar⟩
  .obtain⟨v,hv⟩:=f.cell x c (Qs _ [] (λ_ z=>by simp at z) e);exact a1v hv.lt
  .refine a0v.mp (ou _ _ _ ?_);rcases cN hx with hf|hf
   .have Z:=k4 _ hf;simp only[bne_self_eq_false,Bool.false_or,Bool.or_eq_true,beq_iff_eq]at Z;obtain⟨c,hcx⟩:=f.ok.has x Z;exact .inl (aE _ [] (.inr ⟨hf,by rw[hcx];rfl⟩))
   .exact .inr hf
  .exact oy a.names (d.heap.objs.size+1) d.heap.objs.size _ (a0Y _) (.inl (List.contains_iff_mem.mp z)) e
  .rcases r x c e with z|⟨z,_⟩
   .exact(L b g).2.2.2.2.1 x c z
   .exact λq=>absurd (a1o (a2Z z) (show c<d.heap.objs.size by rw[q];exact(G b g).1)) (a0V _)
  .rcases(L b g).2.2.2.1 with z|z
   .exact I2.ok.Ff b o e z
   .have:=O8 e;exact absurd (R8 this I2.ok.bsz) (a32.mpr z)
  .rcases P7.mp (f.UI b z)with z|z
   .exact(L b g).2.1 z
   .exact(L b g).2.2.1 z
 have Q:(uc σ fr).length=N.length:=by unfold uc;rw[u8];exact k5.symm
 have J0:Inv (qA X a N l (X.pn++pins) d (upd h s2.heap.objs.size (.lst [])) d.heap.objs.size) [] (uc σ fr) (upd h s2.heap.objs.size (.lst [])) { d with heap:=D,toks:=d.toks+0 }:=by
  have W:=f.kept (h':=D) n;refine⟨s,rfl,f.bare,Un.kept n,⟨_,B,λi x v e1 A _=>?_⟩,λx c e=>(r x c e).elim (W.cell x c) λz=>z.2,f.hok.fresh (O2 _),λx c e=>(r x c e).elim (W.QA x c) λz=>f.hok.fresh (a2Z z.1),λp hp=>?_,W.hok,Q,f.tk⟩
  .unfold uc at A;rw[S5]at A;cases H:fr[i]? with
   |none=>rw[H]at A;cases A
   |some o=>
    rw[H]at A;cases o with
    |none=>cases A
    |some j=>
     have Y:(σ[j]?).join=some v:=a0e A;have hm:(x,some j)∈N.zip fr:=by refine a1x (i:=i) ?_;rw[List.getElem?_zip_eq_some];exact⟨e1,H⟩
     have Z:=k6 _ hm;simp only[Bool.and_eq_true,Bool.or_eq_true,beq_iff_eq,List.contains_iff_mem]at Z;obtain⟨⟨g1,g2⟩,g3⟩:=Z;have hσ:σ[j]?=some (some v):=by
      cases q:σ[j]? with
      |none=>rw[q]at Y;cases Y
      |some w=>rw[q]at Y;cases w with
       |none=>cases Y
       |some w=>cases Y;rfl
     have K:=k4 _ g2;simp only[bne_self_eq_false,Bool.false_or,Bool.or_eq_true,beq_iff_eq]at K;obtain⟨m,_,hl⟩:=W.loc;obtain⟨u,ru,lk⟩:=hl j x v g1 hσ (by rcases K with z|z;exact .inr (.inl z);exact .inr (.inr z));refine⟨u,ru,.inr ⟨g3,?_⟩⟩;rcases lk with⟨z,_⟩|⟨_,c,ec,z⟩
     .rcases K with q|q<;>(rw[z]at q;cases q)
     .obtain⟨c',t⟩:=a0v.mp (aE (x:=x) a.names [] (.inr ⟨g2,by rw[ec];rfl⟩));have:=Qs _ [] (λ_ z=>by simp at z) t;rw[ec]at this;cases this;exact⟨c,(ow _ _ _ (hcf x g2)).trans t,z⟩
  .have hp':=by rw[a0h]at hp;exact hp
   obtain⟨q1,q2,q3,q4,q5⟩:=W.pin p hp';refine⟨q1,q2,P1 (O8 (f.pin p hp').1),λz=>?_,q5⟩;rcases P7.mp (f.UI _ z)with z|z
   .exact q3 z
   .exact q4 z
 have P:∀{R:Hp},(∀b∈l,R b=none)->∀b∈l,ua (qA X a N l (X.pn++pins) d (upd h s2.heap.objs.size (.lst [])) d.heap.objs.size) [] R b:=λhn b g=>
  ⟨hn b g,(s.exf b g).1,λz=>s.Fg b g z,.inl g,(s.exf b g).2,λp hp=>by rw[a0h]at hp;exact(L b g).2.2.2.2.2 p hp⟩
 have loop:=k d D f J0 (λb o e=>n b o (I b o e)) (λb g=>(G b g).2) (λ_ hn=>P hn);exact codeAny_compStart_list loop (T.self _ 0 _ _ _ (T.keep _ _ _ st λb _ o e=>n b o (I b o e)) loop)
def g7{X:Cx}{pins:Oh}{σ:St}{w:Hp}{s2:Om}{elt qd tg:Ot}{ifs:Oq}{a:Scope}{pos:Pos}{N:Oj}{fr:OF}{g:TG}{tc:TT}{te:TE}{it:Addr}{q:OX}{tn:Nat->Heap->Prop}{J:It}
  {E:Of}{RR:Value->Addr->Result->Shared->Prop}{Q:VK}
  (hc:X.calm=true) (hok:l5 X a N fr=true) (I2:Inv X pins σ w s2) (T:Turn X.prog X.w X.K tg J q it tn) (st:tn 0 s2.heap) (f2:∀b∈q,ua X pins w b)
  (hg:∀q pn s H L,PG (qA X a N q pn s H L) tg g) (hi:∀q pn s H L,PTs (qA X a N q pn s H L) ifs tc) (he:∀q pn s H L,PE (qA X a N q pn s H L) elt te)
  (h:∀f,w f=none->∃W:Nat->Nat->St->Hp->Prop,(∃m,W 0 m (uc σ fr) (upd w f (.lst [])))/\∀i m j l,W i m j l->
   (J.stop i l/\Q (.ref f) l)\/(J.go i l/\∃N:St->Hp->Prop,(∀j l,N j l->∃m',m'<m/\W (i+1) m' j l)/\∀x H3,J.yld i l x H3->g x j H3 λK H4=>tc K H4 λb M=>
    if b=true then te K M λv H6=>∃ys,H6 f=some (.lst ys)/\ys.length<sizeLine/\N K (upd H6 f (.lst (ys++[v])))else N K M))
  (hRR:∀f C m U l,Inv X pins σ l U->U.heap.Ns C m->X.s₀.heap.objs.size<=C->l C=none->C≠X.env.locals->(∀x c,X.env.cells.lookup x=some c->c≠C)->(∀p∈X.pn++pins,p.1≠C)->Q (.ref f) l->RR (.ref f) C (.ok .next) U):
  wpAny (Px X) X.A (newList []) (λf t=>wpAny (Px X) X.A (newFunctionEnv a X.env.globals (fk X.env.cells a.names []) [] X.env.qual none .none (some X.env)) (λO s4=>
   codeAny (Px X) X.A (.compStart (.ListComp elt [⟨tg,qd,ifs,0⟩] a pos) 0 (.ref it) f { O with scope:=relabel a X.env }) (RR f O.locals) s4) E t) E s2:=by
 have hDf:=I2.hok.fresh (O2 _);obtain⟨W,⟨m0,w0⟩,turn⟩:=h _ hDf;refine l8 hc hok I2 T st f2 λt h1 I3 J0 kp fpn A=>?_;have hcc:=hc;refine fm (λn U=>∃i j l,Inv (qA X a N q (X.pn++pins) t (upd w s2.heap.objs.size (.lst [])) t.heap.objs.size) [] j l U/\tn i U.heap/\(∀b∈q,l b=none)/\W i n j l) ?_ m0
  ⟨0,_,_,J0,T.keep _ _ _ st λb _ o e=>kp b o e,fpn,w0⟩
 rintro n s5 ⟨i,I,M,I5,st5,fr5,w5⟩
 rcases turn i n I M w5 with⟨stop,qn⟩|⟨go,NN,hNN,step⟩
 .refine thn (T.done (qA X a N q (X.pn++pins) t (upd w s2.heap.objs.size (.lst [])) t.heap.objs.size) rfl rfl rfl hcc i [] s5 I M _ I5 (A _ fr5) st5 stop) λr s6 ⟨hr,S⟩=>?_;subst hr;have I7:=I3.Fn S.os S.base S.hok S.bare (λb G=>⟨(f2 b G).2.2.2.1,(f2 b G).2.1,(f2 b G).2.2.2.2.1,(f2 b G).2.2.2.2.2⟩) S.tk;obtain⟨mm,hmm,_⟩:=S.loc;refine hRR _ _ mm s6 M I7 hmm I3.sz S.free (a0B I3.lt) (λx c e z=>?_) (λp hp z=>?_) qn
  .obtain⟨v,hv⟩:=I3.cell x c e;exact absurd hv.lt (by grind)
  .exact absurd (O8 (I3.pin p hp).1) (by grind)
 .refine thn (T.item (qA X a N q (X.pn++pins) t (upd w s2.heap.objs.size (.lst [])) t.heap.objs.size) rfl rfl rfl hcc i [] s5 I M _ I5 (A _ fr5) st5 go) λr s6 ⟨u,hr,h6⟩=>?_;subst hr;refine thn h6 λ_ s7 ⟨x,H7,I7,r7,y7,R,fr7⟩=>?_;have I7':=I7.pinned (A _ fr7) (T.obj _ _ R);have D:∀{B:St}{P:Hp}{Y:Om},Inv (qA X a N q (X.pn++pins) t (upd w s2.heap.objs.size (.lst [])) t.heap.objs.size) ([]++cb q s7.heap) B P Y->NN B P->
    ∃m,m<n/\∃i j l,Inv (qA X a N q (X.pn++pins) t (upd w s2.heap.objs.size (.lst [])) t.heap.objs.size) [] j l Y/\tn i Y.heap/\(∀b∈q,l b=none)/\W i m j l:=λ{B P Y} Z n9=>by
   obtain⟨m',hm,w9⟩:=hNN B P n9;refine⟨m',hm,i+1,B,P,Z.jL,T.keep _ _ _ R λb G o e=>(Z.pin (b,o) (R4 _ (R4 _ (Qq G e)))).1,λb G=>?_,w9⟩;obtain⟨o,e,d⟩:=T.obj _ _ R b G;exact(Z.pin (b,o) (R4 _ (R4 _ (Qq G e)))).2.1
  refine thn (hg _ _ _ _ _ _ s7 I H7 x u _ I7' r7 (step x H7 y7)) λ_ s8 ⟨F,H8,I8,q8⟩=>?_;refine thn (hi _ _ _ _ _ _ s8 F H8 _ I8 q8) λok Y ⟨P,Z,q9⟩=>?_;cases ok with
  |false=>exact D Z q9
  |true=>refine thn (he _ _ _ _ _ _ Y F P _ Z q9) λy s10 ⟨v,H10,I10,r10,ys,h10,l10,q10⟩=>?_;refine thn (cE _ s10 F H10 (.ref s2.heap.objs.size) [v] (.ref s2.heap.objs.size) [y] (λ_ H11=>NN F H11) I10 rfl (.cons r10 .nil) ⟨_,ys,v,rfl,rfl,h10,l10,q10⟩) λ_ s11 ⟨_,H11,I11,_,q11⟩=>?_;exact D I11 q11
def tLC(q:TI)(g:TG)(s:TT)(t:TE)(fr:OF):TE:=λn H Q=>q n H λJ l=>∀c,l c=none->∃W:Nat->Nat->St->Hp->Prop,(∃m,W 0 m (uc n fr) (upd l c (.lst [])))/\∀i m a e,W i m a e->
 (J.stop i e/\Q (.ref c) e)\/(J.go i e/\∃N:St->Hp->Prop,(∀a e,N a e->∃o,o<m/\W (i+1) o a e)/\∀x p,J.yld i e x p->g x a p λd r=>s d r λb j=>
  if b=true then t d j λv h=>∃f,h c=some (.lst f)/\f.length<sizeLine/\N d (upd h c (.lst (f++[v])))else N d j)
def g8{X:Cx}{pins:Oh}{σ:St}{H:Hp}{s:Om}{a:Scope}{N:Oj}{fr:OF}(b:l5 X a N fr=true)(I:Inv X pins σ H s):
  a.kind=.function/\(∀y∈a.names,y.2=.local->a.names.lookup y.1=some .local)/\closureFor a X.env=pure (fk X.env.cells a.names []):=by
 unfold l5 at b;simp only[Bool.and_eq_true,beq_iff_eq,List.all_eq_true]at b;obtain⟨⟨⟨⟨⟨i,j⟩,g⟩,h⟩,m⟩,l⟩:=b;refine⟨i,λy f z=>?_,lZ λy f z=>?_⟩
 .have:=g y f;rw[z]at this;simpa using this
 .have d:=h y f;rw[z]at d;simp only[bne_self_eq_false,Bool.false_or,Bool.or_eq_true,beq_iff_eq]at d;obtain⟨c,e⟩:=I.ok.has y.1 d;rw[e];rfl
def F6(N:Oj)(fr:OF)(E:X.calm=true)(i:l5 X scope N fr=true)(O:PI X tg qd wi)(z:∀d f s H L,PG (qA X scope N d f s H L) tg g)(F:∀d f s H L,PTs (qA X scope N d f s H L) ifs tc)(he:∀d f s H L,PE (qA X scope N d f s H L) elt te)
  (U:∀x,foldedSetIterable qd X.env x=pure x:=by intro _;rfl):PE X (.ListComp elt [⟨tg,qd,ifs,0⟩] scope pos) (tLC wi g tc te fr):=by
 intro a s r H Q I h;obtain⟨w,B,n⟩:=g8 i I;refine a29 rfl U n w B (thn (O a s r H _ I h) λv s1 l=>thn l λS s2 p=>?_);obtain⟨it,d,tn,J,Z,e,R,T,j,y,K⟩:=p;subst e;refine g7 E i R T j y z F he K λc C m u Y P A l p D M t q=>?_;exact⟨m,A,λh' G=>⟨.ref c,Y,P.turned (λb o W e=>(G.2 b W).trans e) p D (.inr l) M t,rfl,q⟩⟩
def uS(N:Oj)(fr:OF)(hN:X.N.Nodup)(hy:X.N[i]?=some y)(K:X.env.scope.names.lookup y=some .local)(hc:X.calm=true)(n:l5 X scope N fr=true)(hi:PI X tg qd wi)(Y:∀f l s H L,PG (qA X scope N f l s H L) tg g)
  (ht:∀f l s H L,PTs (qA X scope N f l s H L) ifs tc) (he:∀f l s H L,PE (qA X scope N f l s H L) elt te) (t:swapsWith (.ListComp elt [⟨tg,qd,ifs,0⟩] scope pos) (some (.Name y py)) bW.line X.env=pure true:=by rfl)
  (hs:∀x,foldedSetIterable qd X.env x=pure x:=by intro _;rfl):PS X (.Assign [.Name y py] (.ListComp elt [⟨tg,qd,ifs,0⟩] scope pos) bW) (AY (tLC wi g tc te fr) (aw i)):=by
 intro c s M H D I h;obtain⟨U,k3,A⟩:=g8 n I;rw[exec_Assign_Name_used _ _ _ _ t];refine f8 (a1G (f8 ?_));refine f8 (a0f (a29 rfl hs A U k3
  (thn (hi c s M H _ I h) λv s1 u=>thn u λitv s2 E=>?_)) (λ_ j hq=>v4 (v4 hq)) λ_ _ z=>z)
 obtain⟨it,f,tn,J,H2,e,I2,T,r,W,hr⟩:=E;subst e;refine g7 (Q:=λv H1=>aw i v M H1 D.nx) hc n I2 T r W Y ht he hr λd C m j H' I' Z u E G O S q=>?_;refine wpAny_assign_Name (b8 (v:=.ref d) I' hN hy (.inl K) rfl (λp B ⟨a,sb,R⟩=>?_) (.inr K));have w:C≠a:=λz=>by
  rcases R with e|e
  .exact G (z.trans e)
  .exact O y a e z.symm
 obtain⟨o,es,ep,ho,P⟩:=id Z;refine⟨m,⟨o,es,ep,(sb.2 C w).trans ho,P⟩,λh' F=>⟨_,H',B.turned (λb o hb e=>(F.2 b hb).trans e) E G (.inr u) O S,q⟩⟩
section
variable {X:Cx}
def NT:V->Option Int->Option Int->Hp->VK->Prop:=λx a b H Q=>∃z,x=.str z/\z.length<=sizeLine/\Q (.str (Txt.slice z a b)) H
def F7:SlR X NT:=by
 intro c s A H x v B w y C D Q I f j e g h;obtain⟨z,rfl,hz,q⟩:=h;obtain⟨t,rfl⟩:=f;have b:∀{a:Value}{o:OT},IsPart a o->∃p:Option (Int×Tok),a=partValue p/\p.map (·.1)=o:=by
  intro a o h;cases h
  .exact⟨none,rfl,rfl⟩
  .exact⟨some (_,_),rfl,rfl⟩
 obtain⟨r,rfl,rfl⟩:=b e;obtain⟨m,rfl,rfl⟩:=b g;refine⟨"str",_,F.slot_str_getitem.lookup,typeIs_str _ _ _,a0g I.tk (wpAny_getItem_str_slice (l:=r) (u:=m) (st:=none) ?_ rfl ?_)⟩
 .exact j
 .exact post_val_or_str ⟨P8 (Txt.slice_le z _ _) hz,λi k d=>⟨.str _,H,I.tok _ d,⟨i,rfl⟩,q⟩⟩
end
def Its(x:Str):It:=⟨λi _=>i<x.cps.size,λi H v a=>a=H/\∃c,x.cps[i]?=some c/\v=.str ⟨#[c]⟩,λi _=>x.cps.size<=i⟩
def CL(a:Addr)(x:Str)(i:Nat)(h:Heap):Prop:=∃t,h.IsStrIter a "str_ascii_iterator" x t i\/h.IsStrIter a "str_iterator" x t i
def uT{P:Ox}{w:OE}{K:OL}{y:Str}{N:Pos}(f:Addr)(x:Str):Turn P w K (.Name y N) (Its x) [f] f (λi h=>i<=x.cps.size/\CL f x i h)where
 mem:=by simp
 obj:=λi h st b a=>by
  obtain rfl:b=f:=by simpa using a
  obtain⟨_,t,⟨o,e,_,d⟩|⟨o,e,_,d⟩⟩:=st<;>exact⟨o,e,λv z=>by rw[d]at z;cases z⟩
 keep:=λi h A st k=>by
  obtain⟨L,t,⟨o,e,r⟩|⟨o,e,r⟩⟩:=st
  .exact⟨L,t,.inl ⟨o,k f (by simp) o e,r⟩⟩
  .exact⟨L,t,.inr ⟨o,k f (by simp) o e,r⟩⟩
 item:=by
  intro X hP B J D i u s O H E I hf st C;have c:=C;have j:=a09 c;obtain⟨p,n,M,m,l,q⟩:=hf f (by simp);obtain⟨_,t,st|st⟩:=st
  .refine wpAny_pyNext_ascii_item st j λA g F=>⟨_,rfl,v4 ⟨.str ⟨#[x.cps[i]]⟩,H,I.turned (λb o a e=>(F.2 b a).trans e) p n m l q,⟨_,rfl⟩,⟨rfl,_,j,rfl⟩,⟨c,t,.inl g⟩,λb a=>(hf b a).1⟩⟩
  .refine wpAny_pyNext_wide_item st j λA g F=>⟨_,rfl,v4 ⟨.str ⟨#[x.cps[i]]⟩,H,I.turned (λb o a e=>(F.2 b a).trans e) p n m l q,⟨_,rfl⟩,⟨rfl,_,j,rfl⟩,⟨c,t,.inr g⟩,λb a=>(hf b a).1⟩⟩
 done:=by
  intro X hP B J D i u s O H E I hf st C;have c:=C;have j:=a3H c;obtain⟨p,n,M,m,l,q⟩:=hf f (by simp);obtain⟨_,t,st|st⟩:=st
  .exact wpAny_pyNext_ascii_end (I.ok.hd D) st j λA G=>⟨rfl,I.turned (λb o a e=>G b o a e) p n m l q⟩
  .exact wpAny_pyNext_wide_end (I.ok.hd D) st j λA G=>⟨rfl,I.turned (λb o a e=>G b o a e) p n m l q⟩
 self:=λ_ _ _ _ _ st h=>by
  obtain⟨_,t,st|st⟩:=st
  .exact wpAny_pyIter_striter_ascii st h
  .exact wpAny_pyIter_striter_wide st h
def NU(c:TE):TI:=λb H R=>c b H λx a=>∃z,x=.str z/\R (Its z) a
def F8(n:PE X l tl):PI X (.Name y py) l (NU tl):=by
 intro c s d H R I h;refine thn (n c s d H _ I h) λv a ⟨x,i,f,m,z,e,q⟩=>?_;subst e;obtain⟨t,rfl⟩:=m;have j:∀o:Obj,(∀h,h.get? a.heap.objs.size=some o->CL a.heap.objs.size z 0 h)->PIE X c d (.Name y py) R (.ref a.heap.objs.size) { a with heap:=a.heap.push o }->PIE X c d (.Name y py) R (.ref a.heap.objs.size) { a with heap:=a.heap.push o }:=λ_ _ h=>h;have mk:∀o:Obj,o.isFreed=false->(∀h:Heap,h.get? a.heap.objs.size=some o->CL a.heap.objs.size z 0 h)->PIE X c d (.Name y py) R (.ref a.heap.objs.size) { a with heap:=a.heap.push o }:=λo hf w=>by
  have p:Inv X c d i { a with heap:=a.heap.push o }:=f.kept (t':=a.toks) λb u e=>O0 _ e;refine⟨a.heap.objs.size,[a.heap.objs.size],_,Its z,i,rfl,p,uT _ z,⟨a0c _,w _ (P9 _ hf)⟩,λb r=>?_,q⟩;obtain rfl:b=a.heap.objs.size:=by simpa using r
  exact f.E5 (O2 _) (f.hok.fresh (O2 _))
 cases g:z.cps.all (·<128)
 .exact wpAny_pyIter_wide g (mk _ rfl λh e=>⟨t,.inr ⟨_,e,rfl,rfl⟩⟩)
 .exact wpAny_pyIter_ascii g (mk _ rfl λh e=>⟨t,.inl ⟨_,e,rfl,rfl⟩⟩)
section
variable {X:Cx}
theorem g9:∀{bs:Ou}{a:Oo},Vals (bs.map V.bl) a->a=bs.map Value.bool
 |[],_,.nil=>rfl
 |b::bs,_,.cons e r=>by have c:=e;subst c;rw[g9 r];rfl
def fo{prog:Ox}{w:OE}{A:OG}{bs:Ou}:TruthOf prog w A (λi v=>(bs.map Value.bool).toArray[i]?=some v) (λi=>bs.getD i false):=by
 intro i v s Q E h q;have a:(bs.map Value.bool)[i]?=some v:=by simpa using h
 rw[S5]at a;cases e:bs[i]? with
 |none=>rw[e]at a;cases a
 |some b=>
  rw[e]at a;cases a;have:bs.getD i false=b:=by simp[List.getD,e]
  dsimp only at q;rw[this]at q;exact v4 q
def range_all(bs:Ou):(List.range bs.length).all (λi=>bs.getD i false)=bs.all id:=by
 induction bs with
 |nil=>rfl
 |cons b bs a=>rw[O1,List.range_succ_eq_map,a0W,List.all_map,a0W,<- a];rfl
def M7(K:OL):List V->Hp->VK->Prop:=λa H Q=>∃(p:Addr)(bs:Ou),a=[.ref p]/\SqL K H p (bs.map V.bl)/\Q (.bl (bs.all id)) H
def uU(j:X.calm=true):jR X (.builtin "all") (M7 X.K):=by
 intro a s l H C z Q I r h;obtain⟨p,bs,rfl,w,q⟩:=h;obtain⟨u,rfl,i⟩:=vals1 r;cases i;obtain⟨t,v,d,_⟩:=I.list w;have e:=g9 v;subst e;have c:p≠s.heap.objs.size:=by obtain⟨o,f,_⟩:=d.isList;exact P1 (O8 f)
 refine a0g (by ac_rfl)<|call_all_walk (a2j d.isList ⟨s.heap.objs.size,_,_,_,_,_,_,rfl,Walks.list (A:=X.A.in1) (I.ok.hd j) s.heap.objs.size p c (bs.map Value.bool).toArray,?_,fo,λm tk y=>?_⟩)
 .refine⟨⟨_,P9 _ rfl,rfl,rfl⟩,?_⟩;obtain⟨o,f,g⟩:=d.isList;exact⟨o,O0 _ f,g⟩
 .intro B;have x:Inv X a l H { s with heap:=m,toks:=tk }:=I.kept λb o e=>y b o (by simp;exact P1 (O8 e)) (O0 _ e);refine⟨.bl _,H,x,rfl,?_⟩;have:(List.map Value.bool bs).toArray.size=bs.length:=by simp
  rw[this,range_all];exact q
end
def F9{n:Nat}{i:Int}(b:0<=i)(a:i<n):ixN n i=some i.toNat:=by unfold ixN;rw[if_pos b,if_pos a]
abbrev TJ:=St->Hp->Str->(Str->Hp->Prop)->Prop
section
variable {X:Cx}
def F_:R2:=λx y H Q=>∃z i,x=.str z/\y=.int i/\z.length<=16/\-2 ^ 63<=i/\i<=1048576/\Q (.str (Txt.mul z i)) H
def l9:OpR X (binaryOp .Mult) F_:=by intro a s j H x y v u Q I e c h;obtain⟨z,i,rfl,rfl,hz,d,g,q⟩:=h;obtain⟨t,rfl⟩:=e;obtain⟨f,rfl⟩:=c;exact a0g (n:=X.m) (by ac_rfl)<|PySem.W.KXi.mul rfl hz d g λf k _ _ b=>⟨.str _,H,I.tok _ b,⟨_,rfl⟩,q⟩
def Ga(i j:Int):Prop:=j≠0/\j.natAbs<2 ^ 8192
def uV:OpR X (binaryOp .FloorDiv) (rI Ga λi j=>.int (i.fdiv j)):=opI λ_ j _ _ _ _ _ a q=>floordiv_int a.1 q (.inl (PyProof.noPylong_of_log2 (by
 have b:j.natAbs≠0:=by have:=a.1;omega
 have:=(Nat.log2_lt b).mpr a.2;omega)))
def M8(K:OL):List V->Hp->VK->Prop:=λb H Q=>∃(p:Addr)(a:OC),b=[.ref p]/\SqL K H p (a.map V.int)/\Q (.int a.sum) H
theorem fq:∀{b:OC}{c:Oo},Vals (b.map V.int) c->∃a:List (Int×Tok),c=a.map (λz=>Value.int z.1 z.2)/\a.map Prod.fst=b
 |[],_,.nil=>⟨[],rfl,rfl⟩
 |n::b,_,.cons ⟨t,e⟩ r=>by subst e;obtain⟨a,rfl,rfl⟩:=fq r;exact⟨(n,t)::a,rfl,rfl⟩
def oz(g:X.calm=true):jR X (.builtin "sum") (M8 X.K):=by
 intro c s x H i v Q I r h;obtain⟨p,t,rfl,m,q⟩:=h;obtain⟨u,rfl,d⟩:=vals1 r;cases d;obtain⟨j,l,f,_⟩:=I.list m;obtain⟨a,rfl,rfl⟩:=fq l;have e:(a.map (λz=>Value.int z.1 z.2)).toArray=intItems a.toArray:=by unfold intItems;simp
 refine a0g (by ac_rfl)<|sum_intListG (I.ok.hd g) (by rw[<- e];exact f.isList) λy tk b o w=>?_
 refine⟨.int _,H,I.kept o,⟨b,?_⟩,q⟩;rw[preSum_eq,a0N (by simp)]
def Gb(K:OL):List V->Hp->VK->Prop:=λc H Q=>∃(p:Addr)(b:OC),c=[.ref p]/\SqL K H p (b.map V.int)/\b≠[]/\∀M,M∈b->(∀a∈b,a<=M)->Q (.int M) H
def oA(m:X.calm=true):jR X (.builtin "max") (Gb X.K):=by
 intro f s K H o F Q I r h;obtain⟨p,E,rfl,C,c,q⟩:=h;obtain⟨u,rfl,i⟩:=vals1 r;cases i;obtain⟨y,A,l,_⟩:=I.list C;obtain⟨b,rfl,rfl⟩:=fq A;have e:(b.map (λz=>Value.int z.1 z.2)).toArray=intItems b.toArray:=by unfold intItems;simp
 have d:0<b.toArray.size:=by
  cases b with
  |nil=>exact absurd rfl c
  |cons a r=>simp
 refine a0g (by ac_rfl)<|max_intList (I.ok.hd m) (by rw[<- e];exact l.isList) d λv L tk w D G=>?_
 obtain⟨t,rfl⟩:=intItems_at w;obtain⟨J,B⟩:=argBest_gt (numAt b.toArray) (b.toArray.size-1);refine⟨.int _,H,I.kept D,⟨t,rfl⟩,q _ ?_ λa g=>?_⟩
 .rw[numAt_eq];exact getD_mem (by grind)
 .obtain⟨j,x,rfl⟩:=mem_getD g;rw[u8]at x;have:=B j (by grind);rw[numAt_eq]at this;exact this
end
def g_(h:0<=j):HT.sIx n d (some j)=min j.toNat n:=by
 have:=HT.Ct n d j.toNat
 rwa [Int.toNat_of_nonneg h]at this
def hU{A:OG}{xs ys:Ow}{us ws:Oo}{e:Pr}(f:Vals xs us)(h:Vals ys ws)(he:∀j x y u v,xs[j]?=some x->ys[j]?=some y->RelV x u->RelV y v->SeqAt.EqAt A s u v (e j)):
  ∀j (a:j<us.toArray.size) (b:j<ws.toArray.size),SeqAt.EqAt A s us.toArray[j] ws.toArray[j] (e j):=by
 intro j a b;have n:j<xs.length:=by rw[f.length];exact a
 have o:j<ys.length:=by rw[h.length];exact b
 have g:=O3 n;have d:=O3 o;obtain⟨u,m,i⟩:=f.get g;obtain⟨w,l,c⟩:=h.get d;have q:us.toArray[j]=u:=by have:=O3 a;rw[m]at this;simpa using(a0e this).symm
 have p:ws.toArray[j]=w:=by have:=O3 b;rw[l]at this;simpa using(a0e this).symm
 rw[q,p];exact he j _ _ _ _ g d i c
theorem zF.none(s:zF H H')(h:H' q=Option.none):H q=Option.none:=by
 cases e:H q with
 |none=>rfl
 |some o=>rw[s _ _ e]at h;cases h
inductive PV where
 |i (n:Int)|s (x:Str)|b (c:Bool)|n
 |l (xs:List PV)|t (xs:List PV)|d (kvs:List (Key×PV))|o (c:Nat) (fs:List (Str×PV))|x (c:Nat) (fs:List (Str×PV))|sc (ns:OC)|dt (kvs:List (List Key×Int))
abbrev Oz:=(List (Key×PV))
abbrev OD:=List PV
abbrev OK:=(List (Str×PV))
abbrev OQ:=Option PV
abbrev Pc:=(PV->PV->Option Bool)
abbrev Pg:=(PV->PV->Bool)
def dtV(kvs:List (List Key×Int)):List (List Key×V):=kvs.map λq=>(q.1,V.int q.2)
inductive Out(α:Type)where
 |ok (a:α)|exc (c:Nat) (fs:OK)|wall
abbrev OB:=(List PV->Out PV)
abbrev Pl:=(PV->PV->Out PV)
def Out.bind{b d:Type}:Out b->(b->Out d)->Out d
 |.ok a,f=>f a
 |.exc c fs,_=>.exc c fs
 |.wall,_=>.wall
structure RC where
 K:Frag
 cls:Nat->Addr
def KL(K:OL)(a:Addr)(xs:Ow):Prop:=∃(o:Obj)(b:OJ)(n:Nat),K.lookup a=some o/\o.cls=.type "list"/\o.dict=none/\o.data=.seq b n/\b.size<=sizeLine/\Vals xs b.toList
def fu(K:OL)(N:Ol)(H:Hp)(p:Addr)(vs:Ow):Prop:=(N p/\Rd H p (.lst vs))\/KL K p vs
def fu.sq{K:OL}{N:Ol}{H:Hp}{p:Addr}{vs:Ow}(h:fu K N H p vs):SqL K H p vs:=h.elim (λz=>.inl z.2) .inr
mutual
def Rep(W:RC)(M:Ol)(H:Hp):PV->V->Prop
 |.i n,v=>v=.int n
 |.s x,v=>v=.str x
 |.b c,v=>v=.bl c
 |.n,v=>v=.non
 |.l f,v=>∃p e,v=.ref p/\M p/\H p=some (.lst e)/\zX W M H f e
 |.t f,v=>∃p e,v=.ref p/\SqT W.K H p e/\zX W M H f e
 |.d b,v=>∃p a,v=.ref p/\M p/\Rd H p (.dK a)/\y8 W M H b a
 |.sc g,v=>∃p,v=.ref p/\fu W.K M H p (g.map V.int)
 |.dt b,v=>∃p,v=.ref p/\M p/\Rd H p (.dT (dtV b))
 |.o c fs,v=>∃p d a,v=.ref p/\M p/\H p=some (.ins (W.cls c) d a)/\Zg W M H fs a
 |.x c fs,v=>∃p d a,v=.ref p/\H p=some (XC p (W.cls c) d)/\H d=some (XD d a)/\Zg W M H fs a
def zX(W:RC)(M:Ol)(H:Hp):List PV->List V->Prop
 |[],a=>a=[]
 |x::b,a=>∃v r,a=v::r/\Rep W M H x v/\zX W M H b r
def y8(W:RC)(M:Ol)(H:Hp):List (Key×PV)->List (Key×V)->Prop
 |[],a=>a=[]
 |b::r,a=>∃v q,a=(b.1,v)::q/\Rep W M H b.2 v/\y8 W M H r q
def Zg(W:RC)(M:Ol)(H:Hp):List (Str×PV)->List (Str×V)->Prop
 |[],a=>a=[]
 |b::r,a=>∃v q,a=(b.1,v)::q/\Rep W M H b.2 v/\Zg W M H r q
end
def Imm:HO->Prop
 |.lst _=>False | .dK _=>False | .dT _=>False | .set _ _=>False | .ins _ _ _=>False | .tbl _=>False
 |_=>True
def Fr(M:Ol)(H H':Hp):Prop:=∀a o,H a=some o->(M a\/Imm o)->H' a=some o
def Fr.rd(f:Fr M H H')(h:Rd H p u)(m:M p):Rd H' p u:=
 h.elim (λz=>.inl (f _ _ z (.inl m))) λ⟨o,z⟩=>.inr ⟨o,f _ _ z (.inl m)⟩
def Fr.sqT{M:Ol}{K:OL}{H H':Hp}(f:Fr M H H'){p:Addr}{u:Ow}(h:SqT K H p u):SqT K H' p u:=
 h.elim (λh=>.inl (h.elim (λz=>.inl (f _ _ z (.inr trivial))) λ⟨o,z⟩=>.inr ⟨o,f _ _ z (.inr trivial)⟩)) .inr
def fu.frame{K:OL}{N:Ol}{H H':Hp}(f:Fr N H H'){p:Addr}{vs:Ow}(h:fu K N H p vs):fu K N H' p vs:=h.elim (λz=>.inl ⟨z.1,f.rd z.2 z.1⟩) .inr
def qY(h:Rd H p u):H p≠none:=by rcases h with z|⟨_,z⟩<;>rw[z]<;>intro e<;>cases e
section
variable {W:RC}{M M':Ol}{H H':Hp}
mutual
theorem Rep.gen(f:Fr M H H')(s:∀a,M a->H a≠none->M' a):∀{x:PV}{v:V},Rep W M H x v->Rep W M' H' x v
 |.i n,v,h=>h
 |.s x,v,h=>h
 |.b c,v,h=>h
 |.n,v,h=>h
 |.l j,v,h=>by obtain⟨p,b,e,m,r,q⟩:=h;exact⟨p,b,e,s p m (by grind),f _ _ r (.inl m),zX.gen f s q⟩
 |.sc o,v,h=>by obtain⟨p,e,r⟩:=h;exact⟨p,e,r.elim (λz=>.inl ⟨s p z.1 (by rcases z.2 with z|⟨_,z⟩<;>rw[z]<;>intro e<;>cases e),f.rd z.2 z.1⟩) .inr⟩
 |.dt i,v,h=>by obtain⟨p,e,m,r⟩:=h;exact⟨p,e,s p m (qY r),f.rd r m⟩
 |.t j,v,h=>by obtain⟨p,b,e,r,q⟩:=h;exact⟨p,b,e,f.sqT r,zX.gen f s q⟩
 |.d i,v,h=>by obtain⟨p,b,e,m,r,q⟩:=h;exact⟨p,b,e,s p m (qY r),f.rd r m,y8.gen f s q⟩
 |.o c fs,v,h=>by obtain⟨p,d,g,e,m,r,q⟩:=h;exact⟨p,d,g,e,s p m (by grind),f _ _ r (.inl m),Zg.gen f s q⟩
 |.x c fs,v,h=>by obtain⟨p,d,g,e,r,l,q⟩:=h;exact⟨p,d,g,e,f _ _ r (.inr trivial),f _ _ l (.inr trivial),Zg.gen f s q⟩
theorem zX.gen(f:Fr M H H')(s:∀a,M a->H a≠none->M' a):∀{x:OD}{v:Ow},zX W M H x v->zX W M' H' x v
 |[],v,h=>h
 |x::d,g,h=>by unfold zX at h ⊢;obtain⟨v,r,e,b,c⟩:=h;exact⟨v,r,e,Rep.gen f s b,zX.gen f s c⟩
theorem y8.gen(f:Fr M H H')(s:∀a,M a->H a≠none->M' a):∀{x:Oz}{v:Ov},y8 W M H x v->y8 W M' H' x v
 |[],v,h=>h
 | (k,x)::d,g,h=>by unfold y8 at h ⊢;obtain⟨v,r,e,b,c⟩:=h;exact⟨v,r,e,Rep.gen f s b,y8.gen f s c⟩
theorem Zg.gen(f:Fr M H H')(s:∀a,M a->H a≠none->M' a):∀{x:OK}{v:OU},Zg W M H x v->Zg W M' H' x v
 |[],v,h=>h
 | (k,x)::d,g,h=>by unfold Zg at h ⊢;obtain⟨v,r,e,b,c⟩:=h;exact⟨v,r,e,Rep.gen f s b,Zg.gen f s c⟩
end
end
def Fr.refl:Fr M H H:=λ_ _ h _=>h
def zF.fr(s:zF H H'):Fr M H H':=λa o h _=>s a o h
def Rep.same(h:Rep W M H x v)(s:zF H H'):Rep W M H' x v:=Rep.gen s.fr (λ_ m _=>m) h
def zX.same(h:zX W M H x v)(s:zF H H'):zX W M H' x v:=zX.gen s.fr (λ_ m _=>m) h
def y8.same(h:y8 W M H x v)(s:zF H H'):y8 W M H' x v:=y8.gen s.fr (λ_ m _=>m) h
def Rep.sub(h:Rep W M H x v)(s:∀a,M a->H a≠none->M' a):Rep W M' H x v:=Rep.gen Fr.refl s h
def zX.sub(h:zX W M H x v)(s:∀a,M a->H a≠none->M' a):zX W M' H x v:=zX.gen Fr.refl s h
def y8.sub(h:y8 W M H x v)(s:∀a,M a->H a≠none->M' a):y8 W M' H x v:=y8.gen Fr.refl s h
def Zg.sub(h:Zg W M H x v)(s:∀a,M a->H a≠none->M' a):Zg W M' H x v:=Zg.gen Fr.refl s h
def yI(W:RC)(N M:Ol)(H:Hp):PV->V->Prop
 |.l g,v=>∃p d,v=.ref p/\N p/\H p=some (.lst d)/\zX W M H g d
 |.d a,v=>∃p b,v=.ref p/\N p/\Rd H p (.dK b)/\y8 W M H a b
 |.sc e,v=>∃p,v=.ref p/\fu W.K N H p (e.map V.int)
 |.dt a,v=>∃p,v=.ref p/\N p/\Rd H p (.dT (dtV a))
 |.o c fs,v=>∃p f b,v=.ref p/\N p/\H p=some (.ins (W.cls c) f b)/\Zg W M H fs b
 |x,v=>Rep W M H x v
def yI.iff:yI W M M H x v↔Rep W M H x v:=by cases x<;>simp only[yI,Rep]
def yI.gen{W:RC}{N M y A:Ol}{H H':Hp}{x:PV}{v:V}(j:Fr N H H')(f:Fr M H H')(g:∀a,N a->H a≠none->y a)(s:∀a,M a->H a≠none->A a)(h:yI W N M H x v):yI W y A H' x v:=by
 cases x with
 |l E=>obtain⟨p,C,e,m,r,q⟩:=h;exact⟨p,C,e,g p m (by grind),j _ _ r (.inl m),q.gen f s⟩
 |d u=>obtain⟨p,w,e,m,r,q⟩:=h;exact⟨p,w,e,g p m (qY r),j.rd r m,q.gen f s⟩
 |sc D=>obtain⟨p,e,r⟩:=h;exact⟨p,e,r.elim (λz=>.inl ⟨g p z.1 (qY z.2),j.rd z.2 z.1⟩) .inr⟩
 |dt u=>obtain⟨p,e,m,r⟩:=h;exact⟨p,e,g p m (qY r),j.rd r m⟩
 |o c fs=>obtain⟨p,B,w,e,m,r,q⟩:=h;exact⟨p,B,w,e,g p m (by grind),j _ _ r (.inl m),q.gen f s⟩
 |i n=>exact Rep.gen f s h
 |s n=>exact Rep.gen f s h
 |b n=>exact Rep.gen f s h
 |n=>exact Rep.gen f s h
 |t n=>exact Rep.gen f s h
 |x c n=>exact Rep.gen f s h
def yI.same(h:yI W N M H x v)(s:zF H H'):yI W N M H' x v:=yI.gen s.fr s.fr (λ_ m _=>m) (λ_ m _=>m) h
def yI.sub(h:yI W N M H x v)(b:∀a,N a->H a≠none->N' a)(s:∀a,M a->H a≠none->M' a):yI W N' M' H x v:=yI.gen Fr.refl Fr.refl b s h
def Rep.weak(h:Rep W M H x v):yI W (λ_=>True) M H x v:=yI.sub (yI.iff.mpr h) (λ_ _ _=>trivial) (λ_ m _=>m)
def Ub(W:RC)(M:Ol)(H:Hp)(p:Addr):PV->Prop
 |.l f=>∃d,H p=some (.lst d)/\zX W M H f d
 |.d a=>∃b,H p=some (.dK b)/\y8 W M H a b
 |.dt a=>H p=some (.dT (dtV a))
 |.o c fs=>∃e b,H p=some (.ins (W.cls c) e b)/\Zg W M H fs b
 |_=>False
def Ub.IP(h:Ub W M H p x)(n:N p):yI W N M H x (.ref p):=by
 cases x with
 |l m=>obtain⟨j,e,q⟩:=h;exact⟨p,j,rfl,n,e,q⟩
 |d f=>obtain⟨a,e,q⟩:=h;exact⟨p,a,rfl,n,.inl e,q⟩
 |dt f=>exact⟨p,rfl,n,.inl h⟩
 |o c fs=>obtain⟨g,a,e,q⟩:=h;exact⟨p,g,a,rfl,n,e,q⟩
 |i n=>exact h.elim
 |s n=>exact h.elim
 |b n=>exact h.elim
 |n=>exact h.elim
 |t n=>exact h.elim
 |x c n=>exact h.elim
 |sc n=>exact h.elim
def Ub.gen(h:Ub W M H p x)(hp:H' p=H p)(f:Fr M H H')(s:∀a,M a->H a≠none->M' a):Ub W M' H' p x:=by
 cases x with
 |l u=>obtain⟨r,e,q⟩:=h;exact⟨r,hp.trans e,q.gen f s⟩
 |d j=>obtain⟨g,e,q⟩:=h;exact⟨g,hp.trans e,q.gen f s⟩
 |dt j=>exact hp.trans h
 |o c fs=>obtain⟨m,g,e,q⟩:=h;exact⟨m,g,hp.trans e,q.gen f s⟩
 |i n=>exact h.elim
 |s n=>exact h.elim
 |b n=>exact h.elim
 |n=>exact h.elim
 |t n=>exact h.elim
 |x c n=>exact h.elim
 |sc n=>exact h.elim
theorem Ub.some{W:RC}{M:Ol}{H:Hp}{p:Addr}{x:PV}(h:Ub W M H p x):∃o,H p=some o/\¬Imm o:=by
 cases x with
 |l j=>obtain⟨m,e,q⟩:=h;exact⟨_,e,id⟩
 |d a=>obtain⟨f,e,q⟩:=h;exact⟨_,e,id⟩
 |dt a=>exact⟨_,h,id⟩
 |o c fs=>obtain⟨g,f,e,q⟩:=h;exact⟨_,e,id⟩
 |i n=>exact h.elim
 |s n=>exact h.elim
 |b n=>exact h.elim
 |n=>exact h.elim
 |t n=>exact h.elim
 |x c n=>exact h.elim
 |sc n=>exact h.elim
def Ub.same(h:Ub W M H p x)(s:zF H H'):Ub W M H' p x:=by obtain⟨o,e,_⟩:=h.some;exact h.gen ((s _ _ e).trans e.symm) s.fr λ_ m _=>m
structure Bs where
 H0:Hp
 M0:Addr->Prop
 N0:Addr->Prop
 nz:∀a,N0 a->H0 a≠none
 pin:Option Addr
 xc:Addr->Prop
structure LC where
 W:RC
 E:XK
 fr:Bool
abbrev Sto:=List (Option PV)
def Bs.Mt(B:Bs):Addr->Prop:=λa=>B.M0 a\/B.H0 a=none
def Mof(B:Bs)(S:Og)(P:Oy):Addr->Prop:=λa=>(B.Mt a/\¬B.xc a)/\∀i,S[i]?=some 2->P i≠a
structure Rel(W:RC)(B:Bs)(S:Og)(P:Oy)(H:Hp)(σ:St)(ρ:Sto):Prop where
 same:zF B.H0 H
 len:σ.length=ρ.length
 var:∀(i:Nat) x,ρ[i]?=some (some x)->∃v,σ[i]?=some (some v)/\(S[i]?=some 2->v=.ref (P i)/\Ub W (Mof B S P) H (P i) x)/\(S[i]?=some 1->yI W B.N0 (Mof B S P) H x v)/\(S[i]?≠some 2->S[i]?≠some 1->Rep W (Mof B S P) H x v)
 act:∀i,S[i]?=some 2->B.H0 (P i)=none/\∃o,H (P i)=some o/\¬Imm o
 inj:∀i j,S[i]?=some 2->S[j]?=some 2->P i=P j->i=j
 pin:S[0]?=some 2->∀p,B.pin=some p->P 0=p
 exc:∀a,B.xc a->∃o,H a=some o/\¬Imm o/\B.H0 a=none
 axc:∀i,S[i]?=some 2->¬B.xc (P i)
def Rel.keep{W:RC}{B:Bs}{S:Og}{P:Oy}{H H':Hp}{σ:St}{ρ:Sto}(R:Rel W B S P H σ ρ)(s:zF H H'):Rel W B S P H' σ ρ where
 same:=R.same.trans s
 len:=R.len
 var:=λi x e=>by obtain⟨v,g,b,d,f⟩:=R.var i x e;exact⟨v,g,λz=>⟨(b z).1,(b z).2.same s⟩,λz=>(d z).same s,λz c=>(f z c).same s⟩
 act:=λi h=>⟨(R.act i h).1,let⟨o,e,n⟩:=(R.act i h).2;⟨o,s _ _ e,n⟩⟩
 inj:=R.inj
 pin:=R.pin
 exc:=λa h=>let⟨o,e,n⟩:=R.exc a h;⟨o,s _ _ e,n⟩
 axc:=R.axc
def Rel.wr(R:Rel W B S P H σ ρ)(c:S[i]?=some 2)(E:i<ρ.length)(n:σ[i]?=some (some (.ref (P i))))(r:¬Imm o)(D:Ub W (Mof B S P) (upd H (P i) o) (P i) x'):Rel W B S P (upd H (P i) o) σ (ρ.set i (some x')):=by
 obtain⟨f,J,t,s⟩:=R.act i c;have p:Fr (Mof B S P) H (upd H (P i) o):=λa q e m=>by
  have:a≠P i:=λz=>by
   rcases m with m|m
   .exact m.2 i c z.symm
   .rw[z,t]at e;cases e;exact s m
  rw[zj this];exact e
 have I:Fr B.N0 H (upd H (P i) o):=λa q e m=>by
  have:a≠P i:=λz=>by
   rcases m with m|m
   .exact B.nz a m (z▸f)
   .rw[z,t]at e;cases e;exact s m
  rw[zj this];exact e
 refine⟨λa q e=>?_,by rw[a0i];exact R.len,λj x e=>?_,λj u=>?_,R.inj,R.pin,λa h=>?_,R.axc⟩
 .have:a≠P i:=λz=>by rw[z,f]at e;cases e
  rw[zj this];exact R.same a q e
 .by_cases b:i=j
  .subst b;rw[T8 E]at e;cases e;exact⟨_,n,λ_=>⟨rfl,D⟩,(λz=>by rw[c]at z;cases z),λz=>absurd c z⟩
  .rw[S9 b]at e;obtain⟨v,C,w,y,F⟩:=R.var j x e;refine⟨v,C,λz=>⟨(w z).1,?_⟩,λz=>yI.gen I p (λ_ m _=>m) (λ_ m _=>m) (y z),λz G=>Rep.gen p (λ_ m _=>m) (F z G)⟩;have:P j≠P i:=λq=>b (R.inj i j c z q.symm);exact(w z).2.gen (zj this) p λ_ m _=>m
 .by_cases b:j=i
  .subst b;exact⟨f,o,zh,r⟩
  .obtain⟨A,g,l,d⟩:=R.act j u;have:P j≠P i:=λq=>b (R.inj j i u c q);exact⟨A,g,by rw[zj this];exact l,d⟩
 .obtain⟨g,l,d⟩:=R.exc a h;by_cases e:a=P i
  .subst e;exact⟨o,zh,r,d.2⟩
  .exact⟨g,by rw[zj e];exact l,d⟩
def yT{S:Og}{i j c:Nat}(h:(S.set i 0)[j]?=some 2):S[j]?=some 2/\j≠i:=by grind
def Rel.set(R:Rel W B S P H σ ρ)(r:Rep W (Mof B S P) H x v):Rel W B (S.set i 0) P H (σ.set i (some v)) (ρ.set i (some x)):=by
 have sM:∀a,Mof B S P a->H a≠none->Mof B (S.set i 0) P a:=λa m _=>⟨m.1,λj d=>m.2 j (yT (c:=0) d).1⟩;refine⟨R.same,by rw[a0i,a0i];exact R.len,λj y e=>?_,λj d=>R.act j (yT (c:=0) d).1,λj k d n=>R.inj j k (yT (c:=0) d).1 (yT (c:=0) n).1,λq=>R.pin (yT (c:=0) q).1,R.exc,λj d=>R.axc j (yT (c:=0) d).1⟩;by_cases b:i=j
 .subst b;have f:=by
   have:=(P5.mp e).1
   rwa [a0i]at this
  rw[T8 f]at e;cases e;refine⟨v,by rw[T8 (by rw[R.len];exact f)],λz=>absurd rfl (yT (c:=0) z).2,λz=>?_,λ_ _=>r.sub sM⟩;rw[List.getElem?_set,if_pos rfl]at z;split at z<;>cases z
 .rw[S9 b]at e;obtain⟨w,o,g,h,p⟩:=R.var j y e;rw[S9 b,S9 b];exact⟨w,o,λz=>⟨(g z).1,(g z).2.gen rfl Fr.refl sM⟩,λz=>(h z).sub (λ_ m _=>m) sM,λz l=>(p z l).sub sM⟩
def Rel.NV(R:Rel W B S P H σ ρ)(s:zF H H')(hp:H p=none)(K:i<S.length)(r:i≠0)(C:Ub W (λa=>Mof B S P a/\a≠p) H' p x):Rel W B (S.set i 2) (λj=>if j=i then p else P j) H' (σ.set i (some (.ref p))) (ρ.set i (some x)):=by
 have I:=zF.none R.same hp;have l:∀{j},(S.set i 2)[j]?=some 2->j≠i->S[j]?=some 2:=λ{j} h n=>by rwa [S9 (λz=>n z.symm)]at h
 have sM:∀a,Mof B S P a->a≠p->Mof B (S.set i 2) (λj=>if j=i then p else P j) a:=λa m t=>⟨m.1,λj c=>by
  by_cases e:j=i
  .simp only[e];exact λz=>t z.symm
  .simp only[e];exact m.2 j (l c e)⟩
 have g:∀a,Mof B S P a->H a≠none->Mof B (S.set i 2) (λj=>if j=i then p else P j) a:=λa m t=>sM a m λz=>t (z▸hp);have v:∀{j},S[j]?=some 2->P j≠p:=λ{j} c z=>by obtain⟨_,o,e,_⟩:=R.act j c;rw[z,hp]at e;cases e
 refine⟨R.same.trans s,by rw[a0i,a0i];exact R.len,λj y e=>?_,λj c=>?_,λj k c E e=>?_,λA q M=>?_,λa h=>let⟨o,e,n⟩:=R.exc a h;⟨o,s _ _ e,n⟩,λj c=>?_⟩
 .by_cases b:i=j
  .subst b;have D:=by
    have:=(P5.mp e).1
    rwa [a0i]at this
   rw[T8 D]at e;cases e;rw[T8 (by rw[R.len];exact D),T8 K];refine⟨.ref p,rfl,λ_=>⟨by simp,?_⟩,(λz=>by cases z),λz=>absurd rfl z⟩;simp only[if_true];exact C.gen rfl Fr.refl λa m _=>sM a m.1 m.2
  .rw[S9 b]at e;obtain⟨w,f,d,G,J⟩:=R.var j y e;rw[S9 b,S9 b];have u:¬j=i:=λz=>b z.symm;simp only[u];exact⟨w,f,λz=>⟨(d z).1,((d z).2.gen rfl Fr.refl g).same s⟩,λz=>((G z).sub (λ_ m _=>m) g).same s,λz L=>((J z L).sub g).same s⟩
 .by_cases b:j=i
  .subst b;simp only[if_true];exact⟨I,C.some⟩
  .simp only[b];obtain⟨F,o,e,n⟩:=R.act j (l c b);exact⟨F,o,s _ _ e,n⟩
 .by_cases f:j=i
  .by_cases d:k=i
   .rw[f,d]
   .simp only[f,d,if_true]at e;exact absurd e.symm (v (l E d))
  .by_cases d:k=i
   .simp only[f,d,if_true]at e;exact absurd e (v (l c f))
   .simp only[f,d]at e;exact R.inj j k (l c f) (l E d) e
 .rw[S9 r]at A;rw[if_neg (λz=>r z.symm)];exact R.pin A q M
 .by_cases e:j=i
  .rw[if_pos e];exact λz=>by obtain⟨o,q,_⟩:=R.exc p z;rw[hp]at q;cases q
  .rw[if_neg e];exact R.axc j (l c e)
def Rel.freeze(R:Rel W B S P H σ ρ)(f:S[i]?=some 2):Rel W B (S.set i 0) P H σ ρ:=by
 have sM:∀a,Mof B S P a->H a≠none->Mof B (S.set i 0) P a:=λa m _=>⟨m.1,λj b=>m.2 j (yT (c:=0) b).1⟩;refine⟨R.same,R.len,λj y e=>?_,λj b=>R.act j (yT (c:=0) b).1,λj k b u=>R.inj j k (yT (c:=0) b).1 (yT (c:=0) u).1,λq=>R.pin (yT (c:=0) q).1,R.exc,λj b=>R.axc j (yT (c:=0) b).1⟩;obtain⟨w,h,g,p,s⟩:=R.var j y e;by_cases d:i=j
 .subst d;obtain⟨rfl,l⟩:=g f;have r:=(P5.mp f).1;rw[T8 r];refine⟨_,h,(λz=>by cases z),(λz=>by cases z),λ_ _=>yI.iff.mp ((l.gen rfl Fr.refl sM).IP ⟨⟨.inr (R.act i f).1,λz=>?_⟩,λj b e=>?_⟩)⟩
  .exact R.axc i f z
  obtain⟨o,n⟩:=yT (c:=0) b;exact n (R.inj j i o f e)
 .rw[S9 d];exact⟨w,h,λz=>⟨(g z).1,(g z).2.gen rfl Fr.refl sM⟩,λz=>(p z).sub (λ_ m _=>m) sM,λz t=>(s z t).sub sM⟩
def Rel.wrx(R:Rel W B S P H σ ρ)(b:B.xc a)(w:¬Imm o):Rel W B S P (upd H a o) σ ρ:=by
 obtain⟨I,r,p,f⟩:=R.exc a b;have n:Fr (Mof B S P) H (upd H a o):=λc q e m=>by
  have:c≠a:=λz=>by
   rcases m with m|m
   .exact m.1.2 (z▸b)
   .rw[z,r]at e;cases e;exact p m
  rw[zj this];exact e
 have G:Fr B.N0 H (upd H a o):=λc q e m=>by
  have:c≠a:=λz=>by
   rcases m with m|m
   .exact B.nz c m (z▸f)
   .rw[z,r]at e;cases e;exact p m
  rw[zj this];exact e
 have t:∀{i},S[i]?=some 2->P i≠a:=λ{i} E z=>R.axc i E (z▸b);refine⟨λc q e=>?_,R.len,λj x e=>?_,λj s=>?_,R.inj,R.pin,λc h=>?_,R.axc⟩
 .have:c≠a:=λz=>by rw[z,f]at e;cases e
  rw[zj this];exact R.same c q e
 .obtain⟨v,C,u,y,D⟩:=R.var j x e;exact⟨v,C,λz=>⟨(u z).1,(u z).2.gen (zj (t z)) n λ_ m _=>m⟩,λz=>yI.gen G n (λ_ m _=>m) (λ_ m _=>m) (y z),λz F=>Rep.gen n (λ_ m _=>m) (D z F)⟩
 .obtain⟨A,g,l,d⟩:=R.act j s;exact⟨A,g,by rw[zj (t s)];exact l,d⟩
 .by_cases e:c=a
  .subst e;exact⟨o,zh,w,f⟩
  .obtain⟨g,l,d⟩:=R.exc c h;exact⟨g,by rw[zj e];exact l,d⟩
abbrev ME:=Sto->Out PV
abbrev MT:=Sto->Out Bool
abbrev MA:=Sto->Out (List PV)
inductive Fw where
 |nx (ρ:Sto)|rt (x:PV)|bk (ρ:Sto)|ct (ρ:Sto)
abbrev MS:=Sto->Out Fw
def XPo(C:LC)(B:Bs)(c:Nat)(fs:OK):Prop:=∀e b d a,zF B.H0 a->a e=some (XC e (C.W.cls c) b)->a b=some (XD b d)->Zg C.W B.Mt a fs d->C.E (.ref e) (some b) a
def z_(C:LC)(B:Bs)(H:Hp)(R:Hp->PV->V->Prop)(Q:VK):Out PV->Prop
 |.ok r=>∀v a,zF H a->R a r v->Q v a
 |.exc c fs=>XPo C B c fs
 |.wall=>False
def cO(C:LC)(B:Bs)(H:Hp)(Q:Bool->Hp->Prop):Out Bool->Prop
 |.ok r=>∀a,zF H a->Q r a
 |.exc c fs=>XPo C B c fs
 |.wall=>False
def RV(C:LC)(B:Bs)(S:Og)(P:Oy)(w:Bool)(H:Hp)(x:PV)(v:V):Prop:=yI C.W (if w=true then λ_=>True else Mof B S P) (Mof B S P) H x v
def RV.rep(h:RV C B S P false H x v):Rep C.W (Mof B S P) H x v:=yI.iff.mp h
def RV.of(h:Rep C.W (Mof B S P) H x v):RV C B S P false H x v:=yI.iff.mpr h
def RV.weak(h:RV C B S P w H x v):yI C.W (λ_=>True) (Mof B S P) H x v:=yI.sub h (λ_ _ _=>trivial) λ_ m _=>m
def RV.same(h:RV C B S P w H x v)(s:zF H H'):RV C B S P w H' x v:=yI.same h s
def LE(C:LC)(S:Og)(w:Bool)(c:TE)(m:ME):Prop:=∀B P H a b,Rel C.W B S P H a b->∀Q,z_ C B H (RV C B S P w) Q (m b)->c a H Q
def LT(C:LC)(S:Og)(c:TT)(m:MT):Prop:=∀B P H a b,Rel C.W B S P H a b->∀Q,cO C B H Q (m b)->c a H Q
def EM(X:Cx)(C:LC)(S:Og)(w:Bool)(e:Ot)(m:ME):Prop:=X.K=C.W.K->∃a,PE X e a/\LE C S w a m
def TM(X:Cx)(C:LC)(S:Og)(e:Ot)(m:MT):Prop:=X.K=C.W.K->∃a,PT X e a/\LT C S a m
def TWM(X:Cx)(C:LC)(S:Og)(e:Ot)(m:MT):Prop:=X.K=C.W.K->∃a,PW X e a/\LT C S a m
def z_.bind(h:z_ C B H R Q (o.bind f))(k:∀r,o=.ok r->∀v a,zF H a->R0 a r v->z_ C B a R Q (f r)->Q' v a)(i:∀a,zF H a->∀x v,R a x v->R a x v):z_ C B H R0 Q' o:=by
 cases o with
 |ok r=>exact λv a s b=>k r rfl v a s b (by
   have h:z_ C B H R Q (f r):=h;revert h;cases f r with
   |ok x=>exact λh v e d g=>h v e (s.trans d) g
   |exc c fs=>exact id
   |wall=>exact id)
 |exc c fs=>exact h
 |wall=>exact h
def zT(h:z_ C B H R Q (o.bind f))(k:∀r v a,zF H a->R0 a r v->z_ C B a R Q (f r)->Q' v a):z_ C B H R0 Q' o:=
 z_.bind h (λr _ v a s b hp=>k r v a s b hp) λ_ _ _ _ h=>h
def vg(h:z_ C B H R Q o)(s:zF H H2):z_ C B H2 R Q o:=by
 cases o with
 |ok x=>exact λv a b d=>h v a (s.trans b) d
 |exc c fs=>exact h
 |wall=>exact h
def W5(h:cO C B H Q o)(s:zF H H2):cO C B H2 Q o:=by
 cases o with
 |ok x=>exact λa b=>h a (s.trans b)
 |exc c fs=>exact h
 |wall=>exact h
def l_(h:cO C B H Q (o.bind f))(k:∀r v a,zF H a->R0 a r v->cO C B a Q (f r)->Q' v a):z_ C B H R0 Q' o:=by
 cases o with
 |ok r=>exact λv a s b=>k r v a s b (W5 h s)
 |exc c fs=>exact h
 |wall=>exact h
def Jp(h:cO C B H Q (o.bind f))(k:∀r a,zF H a->cO C B a Q (f r)->Q' r a):cO C B H Q' o:=by
 cases o with
 |ok r=>exact λa s=>k r a s (W5 h s)
 |exc c fs=>exact h
 |wall=>exact h
def zc(i:Nat):ME:=λa=>match a[i]? with|some (some x)=>.ok x|_=>.wall
def mC(x:PV):ME:=λ_=>.ok x
section
variable {X:Cx}{C:LC}{S:Og}{e a b:Ot}{w w1 w2:Bool}{m m1 m2:ME}
def EM.weak(h:EM X C S w e m):EM X C S true e m:=λo=>by
 obtain⟨f,l,n⟩:=h o;refine⟨f,l,λB P H i d R Q q=>n B P H i d R Q ?_⟩;revert q;cases m d with
 |ok r=>exact λq v j s g=>q v j s (by unfold RV;exact g.weak)
 |exc c fs=>exact id
 |wall=>exact id
def lv(R:Rel C.W B S P H σ ρ)(q:z_ C B H R' Q (zc i ρ))(k:∀x v,σ[i]?=some (some v)->ρ[i]?=some (some x)->R' H x v):UJ i σ H Q:=by
 unfold zc at q;cases e:ρ[i]? with
 |none=>rw[e]at q;exact q.elim
 |some o=>
  cases o with
  |none=>rw[e]at q;exact q.elim
  |some x=>rw[e]at q;obtain⟨v,c,_⟩:=R.var i x e;exact⟨v,c,q v H (zF.refl _) (k x v c e)⟩
def zt(h:PE X e (UJ i))(d:S[i]?≠some 2/\S[i]?≠some 1:=by decide):EM X C S false e (zc i):=λ_=>⟨_,h,λB P H j l R Q q=>lv R q λx v f e=>by
 obtain⟨n,c,_,_,g⟩:=R.var i x e;rw[f]at c;cases c;exact RV.of (g d.1 d.2)⟩
def Gd(h:PE X e (UJ i)):EM X C S true e (zc i):=λ_=>⟨_,h,λB P H r p R Q q=>lv R q λx v j e=>by
 obtain⟨o,c,n,g,l⟩:=R.var i x e;rw[j]at c;cases c;show yI C.W (if true=true then _ else _) _ _ _ _;by_cases d:S[i]?=some 2
 .obtain⟨rfl,z⟩:=n d;exact z.IP trivial
 .by_cases f:S[i]?=some 1
  .exact(g f).sub (λ_ _ _=>trivial) λ_ m _=>m
  .exact(l d f).weak⟩
def IQ(h:PE X e (tC v))(c:∀M H,Rep C.W M H x v):EM X C S false e (mC x):=λ_=>⟨_,h,λB P H d f R Q q=>q v H (zF.refl _) (RV.of (c _ _))⟩
def QB(h:PE X e (tC (.int i))):EM X C S false e (mC (.i i)):=IQ h λ_ _=>rfl
def vO(h:PE X e (tC (.str i))):EM X C S false e (mC (.s i)):=IQ h λ_ _=>rfl
def ju(h:PE X e (tC (.bl i))):EM X C S false e (mC (.b i)):=IQ h λ_ _=>rfl
def cQ(h:PE X e (tC .non)):EM X C S false e (mC .n):=IQ h λ_ _=>rfl
def mOp(p:Pl)(m1 m2:ME):ME:=λc=>(m1 c).bind λx=>(m2 c).bind λy=>p x y
def mUn(p:PV->Out PV)(m1:ME):ME:=λc=>(m1 c).bind p
def New(M:Ol)(H:Hp):Prop:=∀p,H p=none->M p
def Rel.new(R:Rel W B S P H σ ρ):New (Mof B S P) H:=λp h=>⟨⟨.inr (zF.none R.same h),λz=>by obtain⟨o,q,_⟩:=R.exc p z;rw[h]at q;cases q⟩,λi c e=>by obtain⟨_,o,q,_⟩:=R.act i c;rw[e,h]at q;cases q⟩
def RV.eq:RV C B S P false=Rep C.W (Mof B S P):=by
 funext H x v;exact propext yI.iff
def Lf2(W:RC)(r:R2)(p:Pl):Prop:=∀(M:Ol)(C:LC)(B:Bs) H x y v u Q,New M H->yI W (λ_=>True) M H x v->yI W (λ_=>True) M H y u->z_ C B H (Rep W M) Q (p x y)->r v u H Q
def Lf1(W:RC)(r:V->Hp->VK->Prop)(p:PV->Out PV):Prop:=∀(M:Ol)(C:LC)(B:Bs) H x v Q,New M H->yI W (λ_=>True) M H x v->z_ C B H (Rep W M) Q (p x)->r v H Q
def uW(L:Lf2 C.W r p)(j:LE C S w1 ta m1)(n:LE C S w2 tb m2):LE C S false (tOp r ta tb) (mOp p m1 m2):=λB P H f d R Q q=>
 j B P H f d R _ (zT q λx v h c i l=>n B P h f d (R.keep c) _ (zT l λy u g s2 o s=>L _ C B g x y v u Q ((R.keep c).keep s2).new (i.same s2).weak o.weak (RV.eq▸s)))
def zL(o:OpR X (binaryOp op) r)(L:Lf2 C.W r p)(h:EM X C S w1 a m1)(i:EM X C S w2 b m2):EM X C S false (.BinOp a op b pos) (mOp p m1 m2):=λc=>by obtain⟨l,j,g⟩:=h c;obtain⟨n,f,d⟩:=i c;exact⟨_,Lr o j f,uW L g d⟩
def mf(o:UnR X (unaryOp op) r)(L:Lf1 C.W r p)(i:EM X C S w1 a m1):EM X C S false (.UnaryOp op a pos) (mUn p m1):=λs=>by obtain⟨t,l,c⟩:=i s;exact⟨_,Ls o l,λB P H n g R Q q=>c B P H n g R _ (zT q λx v f d h j=>L _ C B f x v Q (R.keep d).new h.weak (RV.eq▸j))⟩
def QC(o:OpR X (compareOp op) r)(L:Lf2 C.W r p)(h:EM X C S w1 a m1)(j:EM X C S w2 b m2)(i:behindInMarks op b=false):EM X C S false (.Compare a [op] [b] pos) (mOp p m1 m2):=λc=>by obtain⟨n,l,g⟩:=h c;obtain⟨q,f,d⟩:=j c;exact⟨_,e_ o l f i,uW L g d⟩
def asB:PV->Out Bool
 |.b c=>.ok c
 |_=>.wall
def zQ(m:ME):MT:=λc=>(m c).bind asB
def fv(h:LE C S w te m):LT C S (Cp te) (zQ m):=λB P H g i R Q q=>
 h B P H g i R _ (l_ q λx v f l j d=>by
  cases x with
  |b c=>exact⟨c,j,d f (zF.refl _)⟩
  |_=>exact d.elim)
def yG(o:OpR X (compareOp op) r)(L:Lf2 C.W r p)(h:EM X C S w1 a m1)(j:EM X C S w2 b m2)(i:behindInMarks op b=false):TM X C S (.Compare a [op] [b] pos) (zQ (mOp p m1 m2)):=λc=>by obtain⟨n,l,g⟩:=h c;obtain⟨q,f,d⟩:=j c;exact⟨_,Cq o l f i,fv (uW L g d)⟩
def cR(p q:Pl)(m1 m2 d:ME):ME:=λc=>(m1 c).bind λx=>(m2 c).bind λy=>(p x y).bind λz=>(asB z).bind λk=>if k=true then(d c).bind λu=>q y u else .ok (.b false)
variable {c:Ot}{w3:Bool}{m3:ME}
def uX(L:Lf2 C.W r p)(U:Lf2 C.W r' p')(I:LE C S w1 ta m1)(O:LE C S w2 tb m2)(E:LE C S w3 tc m3):LE C S false (A4 r r' ta tb tc) (cR p p' m1 m2 m3):=λB P H i g R Q q=>
 I B P H i g R _ (zT q λx v F f G J=>O B P F i g (R.keep f) _ (zT J λy u s s2 n T=>L _ C B s x y v u _ ((R.keep f).keep s2).new (G.same s2).weak n.weak (zT T λz o j h D d=>by
  cases z with
  |b k=>
   refine⟨k,D,?_⟩;have d:=d;cases k with
   |true=>exact A_ (E B P j i g (((R.keep f).keep s2).keep h) _ (zT d λt M N l K A=>U _ C B N y t u M Q ((((R.keep f).keep s2).keep h).keep l).new ((n.same h).same l).weak K.weak (RV.eq▸A)))
   |false=>exact A9 (d (.bl false) j (zF.refl _) (RV.of rfl))
  |_=>exact d.elim)))
def uY(o:OpR X (compareOp op) r)(t:OpR X (compareOp op') r')(L:Lf2 C.W r p)(j:Lf2 C.W r' p')(q:EM X C S w1 a m1)(u:EM X C S w2 b m2)(g:EM X C S w3 c m3)
  (s:lastMarks [op,op'] [b,c]=false:=by with_unfolding_all rfl):EM X C S false (.Compare a [op,op'] [b,c] pos) (cR p p' m1 m2 m3):=λd=>by
 obtain⟨x,v,l⟩:=q d;obtain⟨y,h,f⟩:=u d;obtain⟨z,n,i⟩:=g d;exact⟨_,uz o t v h n s,uX L j l f i⟩
end
def pI(g:Int->Int->PV):PV->PV->Out PV
 |.i a,.i b=>.ok (g a b)
 |_,_=>.wall
def pU(g:Int->PV):PV->Out PV
 |.i a=>.ok (g a)
 |_=>.wall
def IS(c:∀a b M H,Rep W M H (g a b) (gv a b)):Lf2 W (rI0 gv) (pI g):=λM C B H x y v u Q f e d q=>by
 cases x with
 |i a=>
  cases y with
  |i b=>exact⟨a,b,e,d,q _ H (zF.refl _) (c a b _ _)⟩
  |_=>exact q.elim
 |_=>exact q.elim
def NW(b:∀a M H,Rep W M H (g a) (gv a)):Lf1 W (rU gv) (pU g):=λM C B H x v Q d c q=>by
 cases x with
 |i a=>exact⟨a,c,q _ H (zF.refl _) (b a _ _)⟩
 |_=>exact q.elim
abbrev m9:=pI λa b=>.i (a-b)
abbrev pLt:=pI λa b=>.b (decide (a<b))
abbrev pLe:=pI λa b=>.b (decide (a<=b))
abbrev pGt:=pI λa b=>.b (decide (b<a))
abbrev m_:=pU λa=>.i (-a)
def JQ:Lf2 W (rI0 λi j=>.int (i-j)) m9:=IS λ_ _ _ _=>rfl
def UO:Lf1 W (rU λi=>.int (-i)) m_:=NW λ_ _ _=>rfl
section
variable {W:RC}{M:Ol}{H:Hp}
def zX.nil:zX W M H [] []:=rfl
def zX.cons(h:Rep W M H x v)(t:zX W M H xs vs):zX W M H (x::xs) (v::vs):=⟨v,vs,rfl,h,t⟩
def zX.len:∀{a:OD}{b:Ow},zX W M H a b->b.length=a.length
 |[],_,h=>by cases h;rfl
 |x::a,_,h=>by obtain⟨v,r,rfl,_,c⟩:=h;rw[O1,O1,zX.len c]
def zX.get:∀{a:OD}{d:Ow}{i:Nat}{x:PV},zX W M H a d->a[i]?=some x->∃v,d[i]?=some v/\Rep W M H x v
 |[],_,_,_,_,e=>by simp at e
 |x::a,_,0,y,h,e=>by obtain⟨v,r,rfl,b,c⟩:=h;simp at e;subst e;exact⟨v,rfl,b⟩
 |x::a,_,i+1,y,h,e=>by obtain⟨v,r,rfl,b,c⟩:=h;simp only[List.getElem?_cons_succ]at e ⊢;exact zX.get c e
def zX.Bc:∀{a:OD}{d:Ow}{i:Nat}{v:V},zX W M H a d->d[i]?=some v->∃x,a[i]?=some x/\Rep W M H x v
 |[],_,_,_,h,e=>by cases h;simp at e
 |x::a,_,0,y,h,e=>by obtain⟨v,r,rfl,b,c⟩:=h;simp at e;subst e;exact⟨x,rfl,b⟩
 |x::a,_,i+1,y,h,e=>by obtain⟨v,r,rfl,b,c⟩:=h;simp only[List.getElem?_cons_succ]at e ⊢;exact zX.Bc c e
def zX.append:∀{a c:OD}{d b:Ow},zX W M H a d->zX W M H c b->zX W M H (a++c) (d++b)
 |[],_,_,_,h,k=>by cases h;exact k
 |x::a,_,_,_,h,k=>by obtain⟨v,r,rfl,e,f⟩:=h;exact⟨v,_,rfl,e,zX.append f k⟩
def zX.take:∀{a:OD}{b:Ow}(n:Nat),zX W M H a b->zX W M H (a.take n) (b.take n)
 |[],_,_,h=>by cases h;simp;exact zX.nil
 |x::a,_,0,h=>zX.nil
 |x::a,_,n+1,h=>by obtain⟨v,r,rfl,c,d⟩:=h;exact⟨v,_,rfl,c,zX.take n d⟩
def zX.drop:∀{a:OD}{b:Ow}(n:Nat),zX W M H a b->zX W M H (a.drop n) (b.drop n)
 |[],_,_,h=>by cases h;simp;exact zX.nil
 |x::a,_,0,h=>h
 |x::a,_,n+1,h=>by obtain⟨v,r,rfl,d,c⟩:=h;exact zX.drop n c
def zX.set{x:PV}{v:V}(d:Rep W M H x v):∀{a:OD}{e:Ow}(n:Nat),zX W M H a e->zX W M H (a.set n x) (e.set n v)
 |[],_,_,h=>by cases h;simp;exact zX.nil
 |y::a,_,0,h=>by obtain⟨v,r,rfl,c,b⟩:=h;exact⟨_,_,rfl,d,b⟩
 |y::a,_,n+1,h=>by obtain⟨v,r,rfl,c,b⟩:=h;exact⟨v,_,rfl,c,zX.set d n b⟩
def zX.ints:∀{a:OC},zX W M H (a.map PV.i) (a.map V.int)
 |[]=>rfl
 |n::a=>⟨_,_,rfl,rfl,zX.ints⟩
theorem zX.at(h:zX W M H xs vs)(e:atI xs i=some x):∃v,atI vs i=some v/\Rep W M H x v:=by
 unfold atI at e ⊢;rw[h.len];cases q:ixN xs.length i with
 |none=>rw[q]at e;cases e
 |some j=>rw[q]at e;exact h.get e
def zX.cut{xs:OD}{vs:Ow}{a b:OT}(h:zX W M H xs vs):zX W M H ((xs.drop (HT.sIx xs.length 0 a)).take (HT.sIx xs.length xs.length b-HT.sIx xs.length 0 a)) (nW vs a b):=by unfold nW;rw[h.len];exact(h.drop _).take _
def y8.iff:∀{c:Oz}{b:Ov},y8 W M H c b↔b.map (·.1)=c.map (·.1)/\zX W M H (c.map (·.2)) (b.map (·.2))
 |[],b=>⟨λh=>by cases h;exact⟨rfl,rfl⟩,λh=>by cases b with|nil=>rfl|cons a r=>cases h.1⟩
 |i::r,b=>by
  constructor
  .rintro ⟨v,q,rfl,f,g⟩
   obtain⟨e,t⟩:=y8.iff.mp g;exact⟨by simp only[List.map_cons,e],v,_,rfl,f,t⟩
  .rintro ⟨e,v,q,d,f,g⟩
   cases b with
   |nil=>cases d
   |cons a b=>simp only[List.map_cons,List.cons.injEq]at e d;refine⟨a.2,b,by rw[<- e.1],by rw[d.1];exact f,y8.iff.mpr ⟨e.2,by rw[d.2];exact g⟩⟩
def Zg.lookup:∀{a:OK}{b:OU}{f:Str}{x:PV},Zg W M H a b->a.lookup f=some x->∃v,b.lookup f=some v/\Rep W M H x v
 |[],_,_,_,_,e=>by cases e
 |d::r,_,f,x,h,e=>by
  obtain⟨v,q,rfl,g,i⟩:=h;rw[a0o]at e ⊢;by_cases c:(f==d.1)=true
  .simp only[c]at e ⊢;cases e;exact⟨v,rfl,g⟩
  .simp only[c]at e ⊢;exact Zg.lookup i e
def oB(n:New M H)(hp:H p=none)(h:zX W M H xs vs):Rep W M (upd H p (.lst vs)) (.l xs) (.ref p):=⟨p,vs,rfl,n p hp,zh,h.same (zF.upd hp)⟩
def oC(hp:H p=none)(h:zX W M H xs vs):Rep W M (upd H p (.tup vs)) (.t xs) (.ref p):=⟨p,vs,rfl,SqT.of zh,h.same (zF.upd hp)⟩
end
def Ge:R2:=λx y H Q=>(rI0 (λi j=>.int (i+j)) x y H Q\/∃i j,x=.str i/\y=.str j/\i.length+j.length<=sizeLine/\Q (.str (i++j)) H)\/M3 x y H Q
def zC:OpR X (binaryOp .Add) Ge:=(FA.or lO).or FR
def zA:PV->PV->Out PV
 |.i a,.i b=>.ok (.i (a+b))
 |.s a,.s b=>if a.length+b.length<=sizeLine then .ok (.s (a++b))else .wall
 |.l a,.l b=>if a.length+b.length<=sizeLine then .ok (.l (a++b))else .wall
 |_,_=>.wall
def zD:Lf2 W Ge zA:=λM C B H x y v u Q n a c q=>by
 unfold zA at q;split at q
 .exact .inl (.inl ⟨_,_,a,c,q _ H (zF.refl _) rfl⟩)
 .split at q
  .rename_i h;exact .inl (.inr ⟨_,_,a,c,h,q _ H (zF.refl _) rfl⟩)
  .exact q.elim
 .split at q
  .rename_i h;obtain⟨p,i,rfl,_,e,r⟩:=a;obtain⟨g,b,rfl,_,f,d⟩:=c;exact .inr ⟨p,g,i,b,rfl,rfl,e,f,by rw[r.len,d.len];exact h,λz hz=>q _ _ (zF.upd hz) (oB n hz (r.append d))⟩
  .exact q.elim
 .exact q.elim
def Gf:R2:=λx y H Q=>(rI uy (λi j=>.int (i*j)) x y H Q\/rI uQ (λi j=>.int (i*j)) x y H Q)\/(F_ x y H Q\/M6 x y H Q)
def jx:OpR X (binaryOp .Mult) Gf:=(FC.or CG).or (l9.or FT)
instance{i j:Int}:Decidable (uy i j):=by unfold uy;infer_instance
instance{i j:Int}:Decidable (E6 i j):=by unfold E6;infer_instance
instance{i j:Int}:Decidable (E7 i j):=by unfold E7;infer_instance
def jS:PV->PV->Out PV
 |.i a,.i b=>if uy a b\/(a.natAbs<2 ^ 8192/\b.natAbs<2 ^ 8192)then .ok (.i (a*b))else .wall
 |.s a,.i b=>if a.length<=16/\-2 ^ 63<=b/\b<=1048576 then .ok (.s (Txt.mul a b))else .wall
 |.l a,.i b=>if -(2 ^ 63)<=b/\b<2 ^ 63/\a.length*b.toNat<=sizeLine then .ok (.l (List.replicate b.toNat a).flatten)else .wall
 |_,_=>.wall
def zX.rep{W:RC}{M:Ol}{H:Hp}{xs:OD}{vs:Ow}(h:zX W M H xs vs):∀n,zX W M H (List.replicate n xs).flatten (List.replicate n vs).flatten
 |0=>rfl
 |n+1=>by exact h.append (h.rep n)
def jA:Lf2 W Gf jS:=λM C B H x y v u Q n b a q=>by
 unfold jS at q;split at q
 .split at q
  .rename_i h;rcases h with h|h
   .exact .inl (.inl ⟨_,_,b,a,h,q _ H (zF.refl _) rfl⟩)
   .exact .inl (.inr ⟨_,_,b,a,h,q _ H (zF.refl _) rfl⟩)
  .exact q.elim
 .split at q
  .rename_i h;exact .inr (.inl ⟨_,_,b,a,h.1,h.2.1,h.2.2,q _ H (zF.refl _) rfl⟩)
  .exact q.elim
 .split at q
  .rename_i h;obtain⟨p,c,rfl,_,e,r⟩:=b;exact .inr (.inr ⟨p,_,c,rfl,a,e,h.1,h.2.1,by rw[r.len];exact h.2.2,λz hz=>q _ _ (zF.upd hz) (oB n hz (r.rep _))⟩)
  .exact q.elim
 .exact q.elim
def Gg:R2:=λx y H Q=>rI E6 (λi j=>.int (i / j)) x y H Q\/rI Ga (λi j=>.int (i.fdiv j)) x y H Q
def oE:OpR X (binaryOp .FloorDiv) Gg:=Cm.or uV
def cU:PV->PV->Out PV
 |.i a,.i b=>if E6 a b then .ok (.i (a / b))else if b≠0/\b.natAbs<2 ^ 8192 then .ok (.i (a.fdiv b))else .wall
 |_,_=>.wall
def oF:Lf2 W Gg cU:=λM C B H x y v u Q n b a q=>by
 unfold cU at q;split at q
 .split at q
  .rename_i h;exact .inl ⟨_,_,b,a,h,q _ H (zF.refl _) rfl⟩
  .split at q
   .rename_i h;exact .inr ⟨_,_,b,a,h,q _ H (zF.refl _) rfl⟩
   .exact q.elim
 .exact q.elim
def Gh:R2:=λx y H Q=>rI (λ_ j=>0<j) (λi j=>.int (i % j)) x y H Q\/rI (λ_ j=>j≠0) (λi j=>.int (i.fmod j)) x y H Q
def W6:OpR X (binaryOp .Mod) Gh:=FD.or Cn
def W7:PV->PV->Out PV
 |.i a,.i b=>if 0<b then .ok (.i (a % b))else if b≠0 then .ok (.i (a.fmod b))else .wall
 |_,_=>.wall
def W8:Lf2 W Gh W7:=λM C B H x y v u Q n b a q=>by
 unfold W7 at q;split at q
 .split at q
  .rename_i h;exact .inl ⟨_,_,b,a,h,q _ H (zF.refl _) rfl⟩
  .split at q
   .rename_i h;exact .inr ⟨_,_,b,a,h,q _ H (zF.refl _) rfl⟩
   .exact q.elim
 .exact q.elim
def vN:PV->PV->Out PV
 |.i a,.i b=>if E7 a b then .ok (.i (a ^ b.toNat))else .wall
 |_,_=>.wall
def Jq:Lf2 W (rI E7 λi j=>.int (i ^ j.toNat)) vN:=λM C B H x y v u Q n b a q=>by
 unfold vN at q;split at q
 .split at q
  .rename_i h;exact⟨_,_,b,a,h,q _ H (zF.refl _) rfl⟩
  .exact q.elim
 .exact q.elim
def cV:Lf2 W (rI0 λi j=>.bl (decide (i<j))) pLt:=IS λ_ _ _ _=>rfl
def JR:Lf2 W (rI0 λi j=>.bl (decide (i<=j))) pLe:=IS λ_ _ _ _=>rfl
def Jr:Lf2 W (rI0 λi j=>.bl (decide (j<i))) pGt:=IS λ_ _ _ _=>rfl
def isN:PV->Bool
 |.n=>true
 |_=>false
def Be(a:Bool):PV->PV->Out PV
 |x,.n=>.ok (.b (xor a (isN x)))
 |_,_=>.wall
def Gi(h:yI W N M H x v):decide (v=.non)=isN x:=by
 cases x with
 |n=>cases h;rfl
 |i a=>cases h;rfl
 |s a=>cases h;rfl
 |b a=>cases h;rfl
 |l a=>obtain⟨p,_,rfl,_⟩:=h;rfl
 |t a=>obtain⟨p,_,rfl,_⟩:=h;rfl
 |d a=>obtain⟨p,_,rfl,_⟩:=h;rfl
 |o c a=>obtain⟨p,_,_,rfl,_⟩:=h;rfl
 |x c a=>obtain⟨p,_,_,rfl,_⟩:=h;rfl
 |sc a=>obtain⟨p,rfl,_⟩:=h;rfl
 |dt a=>obtain⟨p,rfl,_⟩:=h;rfl
def Gj:Lf2 W (λx y H Q=>y=.non/\Q (.bl (decide (x=.non))) H) (Be false):=λM C B H x y v u Q n b a q=>by
 unfold Be at q;split at q
 .refine⟨a,?_⟩;rw[Gi b];exact q _ H (zF.refl _) (by rw[a0K];rfl)
 .exact q.elim
def CM:Lf2 W (λx y H Q=>y=.non/\Q (.bl (!decide (x=.non))) H) (Be true):=λM C B H x y v u Q n b a q=>by
 unfold Be at q;split at q
 .refine⟨a,?_⟩;rw[Gi b];exact q _ H (zF.refl _) (by rw[a1Z];rfl)
 .exact q.elim
def m8.rk(e:Rd H a (.dK kvs)):m8 H a (kV k) (Ui kvs k):=.inl ⟨kvs,k,e,rfl,rfl⟩
def RFr(W:RC)(M:Ol)(H:Hp)(b:Hp)(x:PV)(v:V):Prop:=∃p,v=.ref p/\H p=none/\Ub W (λa=>M a/\a≠p) b p x
def RFr.rep(n:New M H)(h:RFr W M H H2 x v):Rep W M H2 x v:=by obtain⟨p,rfl,hp,h⟩:=h;exact yI.iff.mp ((h.IP (n p hp)).sub (λ_ m _=>m) λ_ m _=>m.1)
def LFr(C:LC)(S:Og)(c:TE)(m:ME):Prop:=∀B P H a b,Rel C.W B S P H a b->∀Q,z_ C B H (RFr C.W (Mof B S P) H) Q (m b)->c a H Q
def FM(X:Cx)(C:LC)(S:Og)(e:Ot)(m:ME):Prop:=X.K=C.W.K->∃a,PE X e a/\LFr C S a m
def Zj(h:z_ C B H R Q o)(k:∀x v a,zF H a->R' a x v->R a x v):z_ C B H R' Q o:=by
 cases o with
 |ok r=>exact λv a s b=>h v a s (k _ _ _ s b)
 |exc c fs=>exact h
 |wall=>exact h
def FM.em(h:FM X C S e m):EM X C S false e m:=λi=>by obtain⟨f,d,g⟩:=h i;exact⟨f,d,λB P H b c R Q q=>g B P H b c R Q (Zj q λx v j s a=>RV.of (a.rep R.new))⟩
def RVs(C:LC)(B:Bs)(S:Og)(P:Oy)(H:Hp):List Bool->List PV->List V->Prop
 |[],a,b=>a=[]/\b=[]
 |w::ws,a,b=>∃x v d c,a=x::d/\b=v::c/\RV C B S P w H x v/\RVs C B S P H ws d c
def cW(C:LC)(B:Bs)(H:Hp)(R:Hp->List PV->List V->Prop)(Q:List V->Hp->Prop):Out (List PV)->Prop
 |.ok r=>∀v a,zF H a->R a r v->Q v a
 |.exc c fs=>XPo C B c fs
 |.wall=>False
def LA(C:LC)(S:Og)(ws:Ou)(c:TA)(m:MA):Prop:=∀B P H a b,Rel C.W B S P H a b->∀Q,cW C B H (λd=>RVs C B S P d ws) Q (m b)->c a H Q
def AM(X:Cx)(C:LC)(S:Og)(ws:Ou)(es:Oq)(m:MA):Prop:=X.K=C.W.K->∃a,PA X es a/\LA C S ws a m
def zk:MA:=λ_=>.ok []
def zb(m:ME)(ms:MA):MA:=λa=>(m a).bind λx=>(ms a).bind λb=>.ok (x::b)
def mj{b:Type}{f:PV->Out b}{T:Hp->Out b->Prop}(e:∀H a o,zF H a->T H o->T a o)(i:∀c fs,T H (.exc c fs)->XPo C B c fs)(g:T H .wall->False)
  (h:T H (o.bind f)) (k:∀r v a,zF H a->R a r v->T a (f r)->Q' v a):z_ C B H R Q' o:=by
 cases o with
 |ok r=>exact λv a s d=>k r v a s d (e _ _ _ s h)
 |exc c fs=>exact i _ _ h
 |wall=>exact g h
def fB(s:zF H H2)(h:cW C B H R Q o):cW C B H2 R Q o:=by
 cases o with
 |ok x=>exact λv a b d=>h v a (s.trans b) d
 |exc c fs=>exact h
 |wall=>exact h
def qL(h:z_ C B H R Q (o.bind f))(k:∀r v a,zF H a->R' a r v->z_ C B a R Q (f r)->Q' v a):cW C B H R' Q' o:=by
 cases o with
 |ok r=>exact λv a s b=>k r v a s b (vg h s)
 |exc c fs=>exact h
 |wall=>exact h
section
variable {X:Cx}{C:LC}{S:Og}{e a b:Ot}{es:Oq}{w w1:Bool}{ws:Ou}{m m1 m2:ME}{ms:MA}{t1 t2:MT}{pos:Pos}
def ze:AM X C S [] [] zk:=λ_=>⟨_,JO,λB P H c d R Q q=>q [] H (zF.refl _) ⟨rfl,rfl⟩⟩
def za(h:EM X C S w e m)(D:AM X C S ws es ms)(F:starEach (e::es) X.env=(false,eval e X.env)::starEach es X.env:=by rfl):AM X C S (w::ws) (e::es) (zb m ms):=λl=>by
 obtain⟨I,z,n⟩:=h l;obtain⟨G,t,A⟩:=D l;refine⟨_,vi z t F,λB P H i f R Q q=>n B P H i f R _ (mj (T:=λH o=>cW C B H (λd=>RVs C B S P d (w::ws)) Q o) (λ_ _ _ s h=>fB s h) (λ_ _ h=>h) (λh=>h) q λx v r p u g=>?_)⟩;refine A B P r i f (R.keep p) _ ?_;revert g;cases ms f with
 |ok y=>exact λg j d s2 E=>g (v::j) d s2 ⟨x,v,y,j,rfl,rfl,u.same s2,E⟩
 |exc c fs=>exact id
 |wall=>exact id
def RVs.IT{B:Bs}{P:Oy}{H:Hp}:∀{ws:Ou}{h:OD}{i:Ow},RVs C B S P H ws h i->ws.all (!·)=true->zX C.W (Mof B S P) H h i
 |[],_,_,⟨f,c⟩,_=>by subst f;subst c;rfl
 |w::ws,_,_,⟨x,v,n,j,f,c,g,l⟩,d=>by subst f;subst c;simp only[List.all_cons,Bool.and_eq_true,Bool.not_eq_true']at d;rw[d.1]at g;exact⟨v,j,rfl,g.rep,RVs.IT l d.2⟩
def kH(ms:MA):ME:=λd=>(ms d).bind λc=>if c.length<=sizeLine then .ok (.l c)else .wall
def mq(ms:MA):ME:=λd=>(ms d).bind λc=>if c.length<=sizeLine then .ok (.t c)else .wall
def qh(h:AM X C S ws es ms)(f:ws.all (!·)=true:=by rfl):FM X C S (.List es pos) (kH ms):=λu=>by
 obtain⟨y,o,g⟩:=h u;refine⟨_,A5 o,λB P H s j R Q q=>g B P H s j R _ (qL q λx t v i l c=>?_)⟩;have d:=l.IT f;split at c
 .rename_i r;exact⟨by rw[d.len];exact r,λp hp=>c _ _ (zF.upd hp) ⟨p,rfl,zF.none i hp,t,zh,(d.sub λa m n=>⟨m,λz=>n (z▸hp)⟩).same (zF.upd hp)⟩⟩
 .exact c.elim
def Vw{x1}(h:AM X C S ws es ms)(f:ws.all (!·)=true:=by rfl):EM X C S false (.Tuple es x1 pos) (mq ms):=λr=>by
 obtain⟨v,l,g⟩:=h r;refine⟨_,FF l,λB P H o i R Q q=>g B P H o i R _ (qL q λu x t s j c=>?_)⟩;have d:=j.IT f;split at c
 .rename_i n;exact⟨by rw[d.len];exact n,λp hp=>c _ _ (zF.upd hp) (RV.of (oC hp d))⟩
 .exact c.elim
def eV(t u:MT):MT:=λd=>(t d).bind λc=>if c=true then u d else .ok false
def mOr(t u:MT):MT:=λd=>(t d).bind λc=>if c=true then .ok true else u d
def V9(t:MT):MT:=λd=>(t d).bind λc=>.ok (!c)
def V_(m1 m2:ME):ME:=λd=>(m1 d).bind λx=>(asB x).bind λc=>if c=true then m2 d else .ok (.b false)
def TWM.tm(h:TWM X C S e t1):TM X C S e t1:=λc=>let⟨tt,a1,a2⟩:=h c;⟨tt,a1.pt,a2⟩
def Zw(h:TM X C S a t1):TWM X C S (.BoolOp .And [a] pos) t1:=λc=>let⟨tt,a1,a2⟩:=h c;⟨tt,pw_and1 a1,a2⟩
def JS(h:TM X C S a t1):TWM X C S (.BoolOp .Or [a] pos) t1:=λc=>let⟨tt,a1,a2⟩:=h c;⟨tt,pw_or1 a1,a2⟩
variable {rest:Oq}
def JT(h:TM X C S a t1)(s:TWM X C S (.BoolOp .And (b::rest) pos) t2):TWM X C S (.BoolOp .And (a::b::rest) pos) (eV t1 t2):=λj=>by
 obtain⟨t,p,l⟩:=h j;obtain⟨u,o,r⟩:=s j;refine⟨_,pw_and p o,λB P H i f R Q q=>l B P H i f R _ (Jp q λc d n g=>?_)⟩;cases c with
 |true=>exact A_ (r B P d i f (R.keep n) _ g)
 |false=>exact A9 (g d (zF.refl _))
def Uj(h:TM X C S a t1)(s:TWM X C S (.BoolOp .Or (b::rest) pos) t2):TWM X C S (.BoolOp .Or (a::b::rest) pos) (mOr t1 t2):=λj=>by
 obtain⟨t,p,l⟩:=h j;obtain⟨u,o,r⟩:=s j;refine⟨_,pw_or p o,λB P H i f R Q q=>l B P H i f R _ (Jp q λc d n g=>?_)⟩;cases c with
 |true=>exact A_ (g d (zF.refl _))
 |false=>exact A9 (r B P d i f (R.keep n) _ g)
def kI(h:TM X C S a t1):TM X C S (.UnaryOp .Not a pos) (V9 t1):=λl=>by obtain⟨o,n,i⟩:=h l;exact⟨_,Fs n,λB P H f g R Q q=>i B P H f g R _ (Jp q λc d p j=>j d (zF.refl _))⟩
def qP(h:EM X C S w e m)(he:∀c,isTrue e X.env c=(do let v<-c;standAt e.pos;holding [v] (truthy v)):=by intro _;rfl):TM X C S e (zQ m):=λf=>by obtain⟨i,g,d⟩:=h f;exact⟨_,Fq g he,fv d⟩
def UP{op}(h:EM X C S w a m):EM X C S w (.BoolOp op [a] pos) m:=λc=>let⟨tt,a1,a2⟩:=h c;⟨tt,Ft a1,a2⟩
def Vx(h:EM X C S w1 a m1)(t:EM X C S false (.BoolOp .And (b::rest) pos) m2):EM X C S false (.BoolOp .And (a::b::rest) pos) (V_ m1 m2):=λj=>by
 obtain⟨u,r,l⟩:=h j;obtain⟨y,o,s⟩:=t j;refine⟨_,Fu r o,λB P H i g R Q q=>l B P H i g R _ (zT q λx v f n p d=>?_)⟩;cases x with
 |b c=>
  refine⟨c,p,?_⟩;cases c with
  |true=>exact A_ (s B P f i g (R.keep n) _ d)
  |false=>exact A9 (d _ f (zF.refl _) (RV.of rfl))
 |_=>exact d.elim
end
def qB{a b:Type}[DecidableEq a](kvs:List (a×b))(k:a):Option b:=(kvs.find? λc=>decide (c.1=k)).map (·.2)
def y8.get{W:RC}{M:Ol}{H:Hp}:∀{a:Oz}{b:Ov}{k:Key}{x:PV},y8 W M H a b->qB a k=some x->∃v,Ui b k=some v/\Rep W M H x v
 |[],_,_,_,_,e=>by cases e
 |d::r,_,k,x,h,e=>by
  obtain⟨v,q,rfl,f,g⟩:=h;unfold qB at e;unfold Ui;rw[a3z]at e ⊢;by_cases c:d.1=k
  .simp only[c]at e ⊢;cases e;exact⟨v,rfl,f⟩
  .simp only[c]at e ⊢;exact y8.get g e
def y8.IU{W:RC}{M:Ol}{H:Hp}:∀{a:Oz}{b:Ov}{k:Key},y8 W M H a b->qB a k=none->Ui b k=none
 |[],_,_,h,_=>by cases h;rfl
 |d::r,_,k,h,e=>by
  obtain⟨v,q,rfl,g,f⟩:=h;unfold qB at e;unfold Ui;rw[a3z]at e ⊢;by_cases c:d.1=k
  .simp only[c]at e;cases e
  .simp only[c]at e ⊢;exact y8.IU f e
def y8.NX(h:y8 W M H kvs es):(Ui es k).isSome=(qB kvs k).isSome:=by
 cases e:qB kvs k with
 |none=>rw[h.IU e];rfl
 |some x=>obtain⟨v,q,_⟩:=h.get e;rw[q];rfl
def pk:PV->Option Key
 |.i n=>some (.inl n)
 |.s x=>some (.inr x)
 |_=>none
def fC(h:yI W N M H x v)(e:pk x=some k):v=kV k:=by
 cases x with
 |i n=>cases e;exact h
 |s n=>cases e;exact h
 |_=>cases e
def M9:R2:=λx y H Q=>∃a v,x=.ref a/\m8 H a y (some v)/\Q v H
def CN(n:X.A.units+1<cLine):IxR X M9:=by
 intro d e f s w H x y v u Q I t p h z;obtain⟨a,o,rfl,g,q⟩:=h;cases t;have l:=fh I g;refine f8 ?_;refine f8 (wpAny_specialOf l PySem.F.slot_dict_getitem.lookup ?_);have c:wpAny (Px X) X.A (subscripted e false (.ref a) u) (λr b=>wpAny (Px X) X.A (letTemporaryGo d (.ref a) r >>= λ_=>pure r) (EP X f w Q) X.xe b) X.xe s:=by rw[z];exact wpAny_operating (a0f (n6 n I g p λo A m j=>⟨_,H,m,j,q⟩) (λr b i=>f8 (wpAny_letTemporaryGo (v4 i))) λ_ _ x=>x)
 first
  |exact v4 (f8 c)
  |exact f8 (v4 (f8 c))
  |exact f8 c
def NY(K:OL):R2:=λx y H Q=>rIx K x y H Q\/M9 x y H Q
def wD{b:Type}:Option b->Out b
 |some a=>.ok a
 |none=>.wall
def pIx:PV->PV->Out PV
 |.l a,.i k=>wD (atI a k)
 |.t a,.i k=>wD (atI a k)
 |.sc d,.i k=>wD ((atI d k).map PV.i)
 |.s z,.i k=>if z.length<=sizeLine then wD ((atI z.cps.toList k).map λc=>.s ⟨#[c]⟩)else .wall
 |.d b,y=>wD ((pk y).bind λk=>qB b k)
 |_,_=>.wall
def yU(h:z_ C B H R Q (wD o)):∃x,o=some x/\∀v a,zF H a->R a x v->Q v a:=by
 cases o with
 |none=>exact h.elim
 |some x=>exact⟨x,rfl,h⟩
def LW:Lf2 W (NY W.K) pIx:=λM C B H x y v u Q n b g q=>by
 unfold pIx at q;split at q
 .obtain⟨x,e,q⟩:=yU q;obtain⟨p,h,rfl,_,a,r⟩:=b;obtain⟨v,d,f⟩:=r.at e;exact .inl (.inl ⟨p,h,_,v,rfl,g,SqL.of a,d,q v H (zF.refl _) f⟩)
 .obtain⟨x,e,q⟩:=yU q;obtain⟨p,h,rfl,a,r⟩:=b;obtain⟨v,d,f⟩:=r.at e;exact .inl (.inr (.inl ⟨p,h,_,v,rfl,g,a,d,q v H (zF.refl _) f⟩))
 .obtain⟨x,e,q⟩:=yU q;obtain⟨p,rfl,a⟩:=b;obtain⟨z,hz,rfl⟩:=v1.mp e;refine .inl (.inl ⟨p,_,_,.int z,rfl,g,a.sq,?_,q _ H (zF.refl _) rfl⟩);unfold atI at hz ⊢;rw[u8];cases c:ixN _ _ with
  |none=>rw[c]at hz;cases hz
  |some j=>rw[c,a1U]at hz;show(List.map V.int _)[j]?=_;rw[S5,hz];rfl
 .split at q
  .rename_i a;obtain⟨x,e,q⟩:=yU q;obtain⟨z,hz,rfl⟩:=v1.mp e;exact .inl (.inr (.inr ⟨_,_,z,b,g,a,hz,q _ H (zF.refl _) rfl⟩))
  .exact q.elim
 .obtain⟨x,e,q⟩:=yU q;obtain⟨p,l,rfl,_,a,r⟩:=b;obtain⟨k,i,e⟩:=S7.mp e;obtain⟨v,d,f⟩:=r.get e;exact .inr ⟨p,v,rfl,by rw[fC g i,<- d];exact m8.rk a,q v H (zF.refl _) f⟩
 .exact q.elim
def LX(h:X.A.units+1<cLine)(i:EM X C S w1 a m1)(j:EM X C S w2 b m2)(e:fe b:=by intro _ _;rfl):EM X C S false (.Subscript a b pos) (mOp pIx m1 m2):=λc=>by obtain⟨m,l,g⟩:=i c;obtain⟨n,f,d⟩:=j c;exact⟨_,Lz (FL.or (CN h)) l f e,uW (by rw[c];exact LW) g d⟩
def toV:PV->Option V
 |.i a=>some (.int a)
 |.s a=>some (.str a)
 |.b a=>some (.bl a)
 |.n=>some .non
 |_=>none
def JU(h:yI W N M H x v)(e:toV x=some u):v=u/\Qy u=true:=by cases x<;>first|(cases e;exact⟨h,rfl⟩)|cases e
def Gk:Option Bool->Option Bool->Option Bool
 |some a,some b=>some (a&&b)
 |_,_=>none
def cX(f:Pc):List PV->List PV->Option Bool
 |[],[]=>some true
 |x::b,y::a=>Gk (f x y) (cX f b a)
 |_,_=>some false
def E9(f:Pc)(b:Oz):List (Key×PV)->Option Bool
 |[]=>some true
 |a::r=>match qB b a.1 with
  |none=>some false
  |some y=>Gk (f a.2 y) (E9 f b r)
def Gm(x y:PV):Option Bool:=match toV x,toV y with|some a,some b=>some (eqV a b)|_,_=>none
def Wa:Nat->PV->PV->Option Bool
 |n+1,.l b,.l a=>cX (Wa n) b a
 |n+1,.t b,.t a=>cX (Wa n) b a
 |_,x,y=>Gm x y
def IV(n:Nat):PV->PV->Option Bool
 |.d a,.d b=>if a.length=b.length then E9 (Wa n) b a else some false
 |x,y=>Wa n x y
def JV(h:Gk a b=some c):∃p q,a=some p/\b=some q/\c=(p&&q):=by cases a<;>cases b<;>first|(cases h;done)|(cases h;exact⟨_,_,rfl,rfl,rfl⟩)
theorem hV{f:Pc}:∀{a c:OD}{b:Bool},cX f a c=some b->a.length≠c.length->b=false
 |[],[],_,_,h=>absurd rfl h
 |[],_::_,_,h,_=>by cases h;rfl
 |_::_,[],_,h,_=>by cases h;rfl
 |x::a,y::c,b,h,n=>by obtain⟨p,q,_,d,rfl⟩:=JV h;rw[hV d (λz=>n (by rw[O1,O1,z])),a08]
theorem fD{f:Pc}:∀{d g:OD}{b:Bool},cX f d g=some b->∃e:Nat->Bool,(∀j x y,d[j]?=some x->g[j]?=some y->f x y=some (e j))/\b=((List.range (min d.length g.length)).all e&&d.length==g.length)
 |[],[],b,h=>⟨λ_=>true,(λj x y h=>by simp at h),by cases h;rfl⟩
 |[],_::_,b,h=>⟨λ_=>true,(λj x y h=>by simp at h),by cases h;simp⟩
 |_::_,[],b,h=>⟨λ_=>true,(λj x y _ h=>by simp at h),by cases h;simp⟩
 |x::d,y::g,b,h=>by
  obtain⟨p,q,n,o,rfl⟩:=JV h;obtain⟨e,m,rfl⟩:=fD o;refine⟨λj=>match j with|0=>p|j+1=>e j,λj a c i l=>?_,?_⟩
  .cases j with
   |zero=>simp only[List.getElem?_cons_zero,Option.some.injEq]at i l;subst i;subst l;exact n
   |succ j=>simp only[List.getElem?_cons_succ]at i l;exact m j a c i l
  .simp only[List.length_cons,Nat.add_min_add_right,List.range_succ_eq_map,List.all_cons,Bool.and_assoc];simp[Function.comp_def]
section
variable {X:Cx}{pins:Oh}{σ:St}{H:Hp}{s:Om}{W:RC}
def CO(I:Inv X pins σ H s)(S:W.K=X.K):∀{n:Nat}{x y:PV}{b:Bool}{v:V}{N M o g:Ol},Wa n x y=some b->yI W N M H x v->yI W o g H y v->b=true:=by
 have fl:∀{x y:PV}{b:Bool}{v:V}{N M o g:Ol},Gm x y=some b->yI W N M H x v->yI W o g H y v->b=true:=by
  intro x y b v N M o g h f d;unfold Gm at h;cases A:toV x with
  |none=>rw[A]at h;cases h
  |some a=>
   cases D:toV y with
   |none=>rw[A,D]at h;cases h
   |some c=>rw[A,D]at h;obtain⟨P,G⟩:=JU f A;obtain⟨u,_⟩:=JU d D;cases h;rw[<- P]at G ⊢;rw[<- u];cases v<;>first|rfl|(cases G;done)|(simp[eqV];done)
 intro n
 induction n with
 |zero=>intro x y b v N M o g h;exact fl (by cases x<;>cases y<;>exact h)
 |succ n J=>
  have z:∀{j i:OD}{m:Ow}{b:Bool}{M g:Ol},cX (Wa n) j i=some b->zX W M H j m->zX W g H i m->b=true:=by
   intro j
   induction j with
   |nil=>intro i m b M g h f d;cases f;cases i with
    |nil=>cases h;rfl
    |cons y i=>obtain⟨_,_,e,_⟩:=d;cases e
   |cons x j F=>
    intro i m b M g h f d;obtain⟨v,r,rfl,L,O⟩:=f;cases i with
    |nil=>cases d
    |cons y i=>obtain⟨T,B,e,Q,C⟩:=d;cases e;obtain⟨p,q,hp,R,rfl⟩:=JV h;rw[J hp (yI.iff.mpr L) (yI.iff.mpr Q),F R O C];rfl
  intro x y b v N M o g h f d;cases x with
  |l j=>
   cases y with
   |l i=>obtain⟨p,m,rfl,_,e,r⟩:=f;obtain⟨K,E,u,_,w,B⟩:=d;cases u;rw[e]at w;cases w;exact z h r B
   |_=>exact fl h f d
  |t j=>
   cases y with
   |t i=>obtain⟨p,m,rfl,e,r⟩:=f;obtain⟨K,E,u,w,B⟩:=d;cases u;rw[S]at e w;cases I.b_ e w;exact z h r B
   |_=>exact fl h f d
  |_=>exact fl (by cases y<;>exact h) f d
def Bf(e:RelV y u)(d:RelV x v)(g:Qy y=true)(f:Qy x=true):SeqAt.RcAt A s u v (eqV y x)/\SeqAt.RcNeAt A s u v (!eqV y x):=by
 cases y with
 |non=>
  cases e;cases x with
  |non=>cases d;exact⟨SeqAt.RcAt.none_none,SeqAt.RcNeAt.none_none⟩
  |bl b=>cases d;exact⟨SeqAt.RcAt.none_bool b,SeqAt.RcNeAt.none_bool b⟩
  |int b=>obtain⟨t,rfl⟩:=d;exact⟨SeqAt.RcAt.none_int b t,SeqAt.RcNeAt.none_int b t⟩
  |str b=>obtain⟨t,rfl⟩:=d;exact⟨SeqAt.RcAt.none_str b t,SeqAt.RcNeAt.none_str b t⟩
  |_=>exact absurd f P0
 |bl a=>
  cases e;cases x with
  |non=>cases d;exact⟨SeqAt.RcAt.bool_none a,SeqAt.RcNeAt.bool_none a⟩
  |bl b=>cases d;exact⟨SeqAt.RcAt.bool_bool a b,SeqAt.RcNeAt.bool_bool a b⟩
  |int b=>obtain⟨t,rfl⟩:=d;exact⟨SeqAt.RcAt.bool_int a b t,SeqAt.RcNeAt.bool_int a b t⟩
  |str b=>obtain⟨t,rfl⟩:=d;exact⟨SeqAt.RcAt.bool_str a b t,SeqAt.RcNeAt.bool_str a b t⟩
  |_=>exact absurd f P0
 |int a=>
  obtain⟨c,rfl⟩:=e;cases x with
  |non=>cases d;exact⟨SeqAt.RcAt.int_none a c,SeqAt.RcNeAt.int_none a c⟩
  |bl b=>cases d;exact⟨SeqAt.RcAt.int_bool a c b,SeqAt.RcNeAt.int_bool a c b⟩
  |int b=>obtain⟨t,rfl⟩:=d;exact⟨SeqAt.RcAt.int_int a c b t,SeqAt.RcNeAt.int_int a c b t⟩
  |str b=>obtain⟨t,rfl⟩:=d;exact⟨SeqAt.RcAt.int_str a c b t,SeqAt.RcNeAt.int_str a c b t⟩
  |_=>exact absurd f P0
 |str a=>
  obtain⟨c,rfl⟩:=e;cases x with
  |non=>cases d;exact⟨SeqAt.RcAt.str_none a c,SeqAt.RcNeAt.str_none a c⟩
  |bl b=>cases d;exact⟨SeqAt.RcAt.str_bool a c b,SeqAt.RcNeAt.str_bool a c b⟩
  |int b=>obtain⟨t,rfl⟩:=d;exact⟨SeqAt.RcAt.str_int a c b t,SeqAt.RcNeAt.str_int a c b t⟩
  |str b=>obtain⟨t,rfl⟩:=d;exact⟨SeqAt.RcAt.str_str a c b t,SeqAt.RcNeAt.str_str a c b t⟩
  |_=>exact absurd f P0
 |_=>exact absurd g P0
def aF(h:Gm x y=some b)(l:yI W N M H x xv)(m:yI W N' M' H y yv)(e:RelV xv u)(g:RelV yv v):
  SeqAt.EqAt A s u v b/\SeqAt.RcAt A s u v b/\SeqAt.RcNeAt A s u v (!b):=by
 unfold Gm at h;cases d:toV x with
 |none=>rw[d]at h;cases h
 |some a=>
  cases j:toV y with
  |none=>rw[d,j]at h;cases h
  |some c=>rw[d,j]at h;cases h;obtain⟨rfl,f⟩:=JU l d;obtain⟨rfl,i⟩:=JU m j;exact⟨A6 e g f i,(Bf e g f i).1,(Bf e g f i).2⟩
def uZ(I:Inv X pins σ H s)(hK:W.K=X.K):∀(n:Nat){A:OG}{x y:PV}{b:Bool}{G P:V}{u v:Value}{N M N' Y:Ol},Wa n x y=some b->yI W N M H x G->yI W N' Y H y P->RelV G u->RelV P v->A.units+n<cLine->
  SeqAt.EqAt A s u v b/\SeqAt.RcAt A s u v b/\SeqAt.RcNeAt A s u v (!b):=by
 intro n
 induction n with
 |zero=>intro A x y b G P u v N M N' Y h g i a d _;exact aF (by cases x<;>cases y<;>exact h) g i a d
 |succ n ih=>
  intro A x y b G P u v N M N' Y h g i a d hu;have top:∀{p q:Addr},u=.ref p->v=.ref q->G=.ref p->P=.ref q->SeqAt.RcAt A s u v b/\SeqAt.RcNeAt A s u v (!b)->SeqAt.EqAt A s u v b/\SeqAt.RcAt A s u v b/\SeqAt.RcNeAt A s u v (!b):=λ{p q} e1 e2 e3 e4 hr=>by
   refine⟨?_,hr⟩;by_cases c:p=q
   .subst c;rw[e1,e2];rw[CO I hK h (e3▸g) (e4▸i)];exact a3w _
   .rw[e1,e2]at hr ⊢;exact SeqAt.EqAt.of_refs c hr.1
  cases x with
  |l R=>
   cases y with
   |l S=>
    obtain⟨p,vs,rfl,_,e,r⟩:=g;obtain⟨p',vs',rfl,_,Q,K⟩:=i;cases a;cases d;refine top rfl rfl rfl rfl ?_;obtain⟨T,J,D,_⟩:=I.list (SqL.of e);obtain⟨ws,O,C,_⟩:=I.list (SqL.of Q);have m:T.toArray.size=R.length:=by rw[P4,<- J.length,r.len]
    have F:ws.toArray.size=S.length:=by rw[P4,<- O.length,K.len]
    by_cases o:R.length=S.length
    .obtain⟨f,hf,rfl⟩:=fD h;rw[o,a1B,a10,Nat.min_self,<- o,<- m];have L:=hU (A:=A.in1) (e:=f) (s:=s) J O λj x y u v hx hy a d=>by obtain⟨Z,w,z⟩:=r.Bc hx;obtain⟨U,E,B⟩:=K.Bc hy;exact(ih (A:=A.in1) (hf j Z U w E) (yI.iff.mpr z) (yI.iff.mpr B) a d (by grind)).1
     exact⟨SeqAt.RcAt.lists D.isList C.isList (by rw[m,F,o]) (by omega) L,SeqAt.RcNeAt.lists D.isList C.isList (by rw[m,F,o]) (by omega) L⟩
    .rw[hV h o];exact⟨SeqAt.RcAt.lists_lengths D.isList C.isList (by rw[m,F];simpa using o) (by omega),SeqAt.RcNeAt.lists_lengths D.isList C.isList (by rw[m,F];simpa using o) (by omega)⟩
   |_=>exact aF h g i a d
  |t R=>
   cases y with
   |t S=>
    obtain⟨p,vs,rfl,e,r⟩:=g;obtain⟨p',vs',rfl,Q,K⟩:=i;cases a;cases d;refine top rfl rfl rfl rfl ?_;rw[hK]at e Q;obtain⟨T,J,D,_⟩:=I.tuple e;obtain⟨ws,O,C,_⟩:=I.tuple Q;have m:T.toArray.size=R.length:=by rw[P4,<- J.length,r.len]
    have F:ws.toArray.size=S.length:=by rw[P4,<- O.length,K.len]
    obtain⟨f,hf,rfl⟩:=fD h;have L:=hU (A:=A.in1) (e:=f) (s:=s) J O λj x y u v hx hy a d=>by obtain⟨Z,w,z⟩:=r.Bc hx;obtain⟨U,E,B⟩:=K.Bc hy;exact(ih (A:=A.in1) (hf j Z U w E) (yI.iff.mpr z) (yI.iff.mpr B) a d (by grind)).1
    rw[<- m,<- F];exact⟨SeqAt.RcAt.tuples D C (by omega) L,SeqAt.RcNeAt.tuples D C (by omega) L⟩
   |_=>exact aF h g i a d
  |_=>exact aF (by cases y<;>exact h) g i a d
def Bg{es:Ov}{vs:OZ}(r:KV es vs){k:Key}{v:V}(h:Ui es k=some v):∃u,valueAt vs k=some u/\RelV v u:=Uh.some_of (by rw[<- h];exact KV.val r k)
def CP{es:Ov}{vs:OZ}(r:KV es vs){k:Key}(h:Ui es k=none):valueAt vs k=none:=by
 have:=KV.val r k;rw[h]at this;cases e:valueAt vs k with
 |none=>rfl
 |some u=>rw[e]at this;exact this.elim
theorem fE(I:Inv X pins σ H s)(x:W.K=X.K){n:Nat}{A:OG}(l:A.units+n<cLine){b:Oz}{w:Ov}{t:OZ}{M C:Ol}(g:y8 W C H b w)(j:KV w t):
  ∀{a:Oz}{o:Ov}{m:OZ}{r:Bool},y8 W M H a o->KV o m->E9 (Wa n) b a=some r->KeqHits A s t m r
 |[],_,_,_,h,k,e=>by cases h;cases k;cases e;exact .nil
 |F::a,_,_,r,h,k,e=>by
  obtain⟨v,q,rfl,E,J⟩:=h;cases k with
  |@cons _ u _ N z kk=>
   obtain⟨L,u⟩:=u;obtain⟨G,B⟩:=z;cases G;unfold E9 at e;cases c:qB b F.1 with
   |none=>rw[c]at e;cases e;exact .miss (CP j (g.IU c))
   |some y=>rw[c]at e;obtain⟨p,q,hp,K,rfl⟩:=JV e;obtain⟨P,f,D⟩:=g.get c;obtain⟨O,i,d⟩:=Bg j f;exact .hit i (uZ I x n hp (yI.iff.mpr E) (yI.iff.mpr D) B d l).1 (fE I x l g j J kk K)
end
def LY(W:RC)(a:Bool):R2:=λc d H Q=>∃M x y b,yI W (λ_=>True) M H x c/\yI W (λ_=>True) M H y d/\IV 8 x y=some b/\Q (.bl (xor a b)) H
def oG:(∃a b,x=.d a/\y=.d b)\/IV n x y=Wa n x y:=by
 cases x with
 |d a=>cases y with
  |d b=>exact .inl ⟨a,b,rfl,rfl⟩
  |_=>exact .inr rfl
 |_=>exact .inr rfl
def Bh(F:W.K=X.K)(R:X.A.units+64<cLine):OpR X (compareOp .Eq) (LY W false):=by
 intro D s U H P Y u v Q I f l h;obtain⟨M,x,y,b,i,w,e,q⟩:=h;rw[a0K]at q;rcases oG (x:=x) (y:=y)with⟨a,c,rfl,rfl⟩|z
 .obtain⟨p,S,rfl,_,J,B⟩:=i;obtain⟨T,O,rfl,_,L,t⟩:=w;cases f;cases l;obtain⟨_,na,K,C,E⟩:=wC I.hok J;obtain⟨_,g,N,G,m⟩:=wC I.hok L;have j:K.length=a.length:=by rw[<- a0I C];have:=R9 List.length (y8.iff.mp B).1;simpa using this
  have o:N.length=c.length:=by rw[<- a0I G];have:=R9 List.length (y8.iff.mp t).1;simpa using this
  have e:(if a.length=c.length then E9 (Wa 8) c a else some false)=some b:=e;by_cases d:a.length=c.length
  .rw[if_pos d]at e;refine keq_eq na g E m (by omega) (λ_=>fE I F (by grind) t G B C e) ?_;rw[j,o,d,a1B];exact⟨.bl b,H,I,rfl,q⟩
  .rw[if_neg d]at e;cases e;refine keq_eq (r:=false) na g E m (by omega) (λz=>absurd (by omega) d) ?_;rw[a08];exact⟨.bl false,H,I,rfl,q⟩
 .rw[z]at e;exact(uZ I F 8 e i w f l (by omega)).2.1 _ _ _ _ ⟨.bl b,H,I,rfl,q⟩
def Gn(F:W.K=X.K)(R:X.A.units+64<cLine):OpR X (compareOp .NotEq) (LY W true):=by
 intro D s U H P Y u v Q I f l h;obtain⟨M,x,y,b,i,w,e,q⟩:=h;rw[a1Z]at q;rcases oG (x:=x) (y:=y)with⟨a,c,rfl,rfl⟩|z
 .obtain⟨p,S,rfl,_,J,B⟩:=i;obtain⟨T,O,rfl,_,L,t⟩:=w;cases f;cases l;obtain⟨_,na,K,C,E⟩:=wC I.hok J;obtain⟨_,g,N,G,m⟩:=wC I.hok L;have j:K.length=a.length:=by rw[<- a0I C];have:=R9 List.length (y8.iff.mp B).1;simpa using this
  have o:N.length=c.length:=by rw[<- a0I G];have:=R9 List.length (y8.iff.mp t).1;simpa using this
  have e:(if a.length=c.length then E9 (Wa 8) c a else some false)=some b:=e;by_cases d:a.length=c.length
  .rw[if_pos d]at e;refine keq_ne na g E m (by omega) (λ_=>fE I F (by grind) t G B C e) ?_;rw[j,o,d,a1B];exact⟨.bl (!b),H,I,rfl,q⟩
  .rw[if_neg d]at e;cases e;refine keq_ne (r:=false) na g E m (by omega) (λz=>absurd (by omega) d) ?_;rw[a08];exact⟨.bl (!false),H,I,rfl,q⟩
 .rw[z]at e;exact(uZ I F 8 e i w f l (by omega)).2.2 _ _ _ _ ⟨.bl (!b),H,I,rfl,q⟩
def yQ(a:Bool)(x y:PV):Out PV:=match IV 8 x y with|some b=>.ok (.b (xor a b))|none=>.wall
def oH:Lf2 W (LY W neg) (yQ neg):=λM C B H x y v u Q n c a q=>by
 unfold yQ at q;cases e:IV 8 x y with
 |none=>rw[e]at q;exact q.elim
 |some b=>rw[e]at q;exact⟨M,x,y,b,c,a,e,q _ H (zF.refl _) rfl⟩
def cY(d:X.A.units+64<cLine)(e:EM X C S w1 a m1)(f:EM X C S w2 b m2):EM X C S false (.Compare a [.Eq] [b] pos) (mOp (yQ false) m1 m2):=λc=>QC (Bh c.symm d) oH e f (Ww _ (by decide) (by decide)) c
def vj(d:X.A.units+64<cLine)(e:EM X C S w1 a m1)(f:EM X C S w2 b m2):TM X C S (.Compare a [.Eq] [b] pos) (zQ (mOp (yQ false) m1 m2)):=λc=>yG (Bh c.symm d) oH e f (Ww _ (by decide) (by decide)) c
def fF(d:X.A.units+64<cLine)(e:EM X C S w1 a m1)(f:EM X C S w2 b m2):TM X C S (.Compare a [.NotEq] [b] pos) (zQ (mOp (yQ true) m1 m2)):=λc=>yG (Gn c.symm d) oH e f (Ww _ (by decide) (by decide)) c
def inP(v:V):List PV->Option Bool
 |[]=>some false
 |y::r=>match toV y,inP v r with
  |some u,some b=>some (eqV u v||b)
  |_,_=>none
theorem oJ{W:RC}{M:Ol}{H:Hp}{v:V}:∀{c:OD}{g:Ow}{b:Bool},zX W M H c g->inP v c=some b->g.all Qy=true/\inV v g=b
 |[],_,_,h,e=>by cases h;cases e;exact⟨rfl,rfl⟩
 |y::c,_,b,h,e=>by
  obtain⟨u,r,rfl,l,m⟩:=h;unfold inP at e;cases a:toV y with
  |none=>rw[a]at e;cases e
  |some o=>
   cases d:inP v c with
   |none=>rw[a,d]at e;cases e
   |some n=>rw[a,d]at e;cases e;obtain⟨rfl,f⟩:=JU (yI.iff.mpr l) a;obtain⟨j,i⟩:=oJ m d;exact⟨by rw[a0W,f,j];rfl,by unfold inV at i ⊢;rw[a0X,i]⟩
def LZ(K:OL)(b:Bool):R2:=λx y H Q=>(rIn K b x y H Q\/∃i j,x=.str i/\y=.str j/\Q (.bl (xor b (!(Builtin.Str.occurrences j i 0 j.length 1).isEmpty))) H)\/∃a o,y=.ref a/\m8 H a x o/\Q (.bl (xor b o.isSome)) H
def Bi(l:X.A.units+1<cLine):OpR X (compareOp .In) (LZ X.K false):=by
 intro b s e H x y v u Q I d c h;rcases h with(h|⟨i,j,e1,e2,q⟩)|⟨a,o,rfl,g,q⟩
 .exact n5 b s e H x y v u Q I d c h
 .exact nM b s e H x y v u Q I d c ⟨i,j,e1,e2,by rw[a0K]at q;exact q⟩
 .obtain rfl:u=Value.ref a:=c;exact NQ l I g d λm f=>⟨.bl o.isSome,H,f,rfl,by rw[a0K]at q;exact q⟩
def oK(l:X.A.units+1<cLine):OpR X (compareOp .NotIn) (LZ X.K true):=by
 intro b s e H x y v u Q I d c h;rcases h with(h|⟨i,j,e1,e2,q⟩)|⟨a,o,rfl,g,q⟩
 .exact cA b s e H x y v u Q I d c h
 .exact cB b s e H x y v u Q I d c ⟨i,j,e1,e2,by rw[a1Z]at q;exact q⟩
 .obtain rfl:u=Value.ref a:=c;exact Cz l I g d λm f=>⟨.bl (!o.isSome),H,f,rfl,by rw[a1Z]at q;exact q⟩
def pIn(a:Bool):PV->PV->Out PV
 |x,.l c=>wD (((toV x).bind λv=>inP v c).map λb=>.b (xor a b))
 |x,.t c=>wD (((toV x).bind λv=>inP v c).map λb=>.b (xor a b))
 |.s i,.s j=>.ok (.b (xor a (!(Builtin.Str.occurrences j i 0 j.length 1).isEmpty)))
 |x,.d d=>wD ((pk x).map λk=>.b (xor a (qB d k).isSome))
 |_,_=>.wall
def oM:(if neg=true then !b else b)=xor neg b:=by cases neg<;>simp
def CQ:Lf2 W (LZ W.K neg) (pIn neg):=λM C B H x y v u Q n g h q=>by
 unfold pIn at q;split at q
 .obtain⟨z,e,q⟩:=yU q;obtain⟨b,c,rfl⟩:=v1.mp e;obtain⟨m,a,c⟩:=S7.mp c;obtain⟨p,l,rfl,_,d,r⟩:=h;obtain⟨rfl,f⟩:=JU g a;obtain⟨i,j⟩:=oJ r c;exact .inl (.inl ⟨p,l,rfl,.inl (SqL.of d),f,i,by rw[j,oM];exact q _ H (zF.refl _) rfl⟩)
 .obtain⟨z,e,q⟩:=yU q;obtain⟨b,c,rfl⟩:=v1.mp e;obtain⟨m,a,c⟩:=S7.mp c;obtain⟨p,l,rfl,d,r⟩:=h;obtain⟨rfl,f⟩:=JU g a;obtain⟨i,j⟩:=oJ r c;exact .inl (.inl ⟨p,l,rfl,.inr d,f,i,by rw[j,oM];exact q _ H (zF.refl _) rfl⟩)
 .exact .inl (.inr ⟨_,_,g,h,q _ H (zF.refl _) rfl⟩)
 .obtain⟨z,e,q⟩:=yU q;obtain⟨k,o,rfl⟩:=v1.mp e;obtain⟨p,s,rfl,_,d,r⟩:=h;exact .inr ⟨p,_,rfl,by rw[fC g o];exact m8.rk d,by rw[r.NX];exact q _ H (zF.refl _) rfl⟩
 .exact q.elim
section
variable {X:Cx}{C:LC}{S:Og}{e a b:Ot}{es:Oq}{w w1 w2:Bool}{ws:Ou}{m1 m2:ME}{ms:MA}{pos p:Pos}{x:Str}
def Gp(d:X.A.units+1<cLine)(f:EM X C S w1 a m1)(h:EM X C S w2 b m2)(g:behindInMarks .In b=false:=by with_unfolding_all rfl):EM X C S false (.Compare a [.In] [b] pos) (mOp (pIn false) m1 m2):=λc=>QC (Bi d) (by rw[c];exact CQ) f h g c
def CT(d:X.A.units+1<cLine)(f:EM X C S w1 a m1)(h:EM X C S w2 b m2)(g:behindInMarks .In b=false:=by with_unfolding_all rfl):TM X C S (.Compare a [.In] [b] pos) (zQ (mOp (pIn false) m1 m2)):=λc=>yG (Bi d) (by rw[c];exact CQ) f h g c
def WB(d:X.A.units+1<cLine)(f:EM X C S w1 a m1)(h:EM X C S w2 b m2)(g:behindInMarks .NotIn b=false:=by with_unfolding_all rfl):TM X C S (.Compare a [.NotIn] [b] pos) (zQ (mOp (pIn true) m1 m2)):=λc=>yG (oK d) (by rw[c];exact CQ) f h g c
def oN(W:RC)(M:Ol)(H:Hp):List PV->List V->Prop
 |[],c=>c=[]
 |x::d,c=>∃v r,c=v::r/\yI W (λ_=>True) M H x v/\oN W M H d r
def RVs.weak{B:Bs}{P:Oy}{H:Hp}:∀{ws:Ou}{f:OD}{g:Ow},RVs C B S P H ws f g->oN C.W (Mof B S P) H f g
 |[],_,_,⟨d,c⟩=>by subst d;subst c;rfl
 |w::ws,_,_,⟨x,v,l,h,d,c,i,j⟩=>by subst d;subst c;exact⟨v,h,rfl,i.weak,RVs.weak j⟩
def LfC(W:RC)(r:List V->Hp->VK->Prop)(p:OB):Prop:=∀(M:Ol)(C:LC)(B:Bs) H xs vs Q,New M H->oN W M H xs vs->z_ C B H (Rep W M) Q (p xs)->r vs H Q
def LfF(W:RC)(r:List V->Hp->VK->Prop)(p:OB):Prop:=∀(M:Ol)(C:LC)(B:Bs) H xs vs Q,New M H->oN W M H xs vs->z_ C B H (RFr W M H) Q (p xs)->r vs H Q
def zf(g:OB)(ms:MA):ME:=λc=>(ms c).bind g
def CU(L:LfC C.W r g)(h:LA C S ws ta ms):LE C S false (tCB r ta) (zf g ms):=λB P H d f R Q q=>
 h B P H d f R _ (qL q λn o c l i j=>L _ C B c n o Q (R.keep l).new i.weak (RV.eq▸j))
def W9(h:z_ C B H (RFr W M H) Q o)(s:zF H H2):z_ C B H2 (RFr W M H2) Q o:=by
 cases o with
 |ok x=>exact λv d f g=>h v d (s.trans f) (let⟨p,e,hp,hr⟩:=g;⟨p,e,zF.none s hp,hr⟩)
 |exc c fs=>exact h
 |wall=>exact h
def W_(h:z_ C B H (RFr W M H) Q (o.bind f))(k:∀r v d,zF H d->R' d r v->z_ C B d (RFr W M d) Q (f r)->Q' v d):cW C B H R' Q' o:=by
 cases o with
 |ok r=>exact λv d s g=>k r v d s g (W9 h s)
 |exc c fs=>exact h
 |wall=>exact h
def fG(h:z_ C B H (RFr W M H) Q (o.bind f))(k:∀r v d,zF H d->R' d r v->z_ C B d (RFr W M d) Q (f r)->Q' v d):z_ C B H R' Q' o:=by
 cases o with
 |ok r=>exact λv d s g=>k r v d s g (W9 h s)
 |exc c fs=>exact h
 |wall=>exact h
def Gq(L:LfF C.W r g)(h:LA C S ws ta ms):LFr C S (tCB r ta) (zf g ms):=λB P H d f R Q q=>
 h B P H d f R _ (W_ q λn o c l i j=>L _ C B c n o Q (R.keep l).new i.weak j)
def WC{id:String}{r:List V->Hp->VK->Prop}{g:OB}(i:X.K=C.W.K->jR X (.builtin id) r)(L:LfC C.W r g)(n:Gl X x)(l:X.mg x=none)(f:bootBuiltins x=some (.builtin id))(h:AM X C S ws (e::es) ms)(o:x≠"__name__":=by decide)(c:(x==("__debug__":Str))=false:=by decide)
  (he:starEach (e::es) X.env=(false,eval e X.env)::starEach es X.env:=by rfl) (hpl:(backTo pos (starEach es X.env)).any (·.1)=false:=by rfl):EM X C S false (.Call (.Name x p) (e::es) [] pos) (zf g ms):=λd=>by
 obtain⟨s,q,j⟩:=h d;exact⟨_,Wy (i d) n l f q o c he hpl,CU L j⟩
def u6{id:String}{r:List V->Hp->VK->Prop}{g:OB}(i:X.K=C.W.K->jR X (.type id) r)(L:LfC C.W r g)(n:Gl X x)(l:X.mg x=none)(f:bootBuiltins x=some (.type id))(h:AM X C S ws (e::es) ms)(o:x≠"__name__":=by decide)(c:(x==("__debug__":Str))=false:=by decide)
  (he:starEach (e::es) X.env=(false,eval e X.env)::starEach es X.env:=by rfl) (hpl:(backTo pos (starEach es X.env)).any (·.1)=false:=by rfl):EM X C S false (.Call (.Name x p) (e::es) [] pos) (zf g ms):=λd=>by
 obtain⟨s,q,j⟩:=h d;exact⟨_,Yq (i d) n l f q o c he hpl,CU L j⟩
def hX{id:String}{r:List V->Hp->VK->Prop}{g:OB}(i:X.K=C.W.K->jR X (.type id) r)(L:LfF C.W r g)(n:Gl X x)(l:X.mg x=none)(f:bootBuiltins x=some (.type id))(h:AM X C S ws (e::es) ms)(o:x≠"__name__":=by decide)(c:(x==("__debug__":Str))=false:=by decide)
  (he:starEach (e::es) X.env=(false,eval e X.env)::starEach es X.env:=by rfl) (hpl:(backTo pos (starEach es X.env)).any (·.1)=false:=by rfl):FM X C S (.Call (.Name x p) (e::es) [] pos) (zf g ms):=λd=>by
 obtain⟨s,q,j⟩:=h d;exact⟨_,Yq (i d) n l f q o c he hpl,Gq L j⟩
end
def qZ:List PV->Out PV
 |[.l a]=>.ok (.i a.length)
 |[.t a]=>.ok (.i a.length)
 |[.sc a]=>.ok (.i a.length)
 |[.d a]=>.ok (.i a.length)
 |[.s z]=>if z.length<=sizeLine then .ok (.i z.length)else .wall
 |_=>.wall
def y8.len(h:y8 W M H a es):es.length=a.length:=by have:=R9 List.length (y8.iff.mp h).1;simpa using this
def Gr(K:OL):List V->Hp->VK->Prop:=λc H Q=>(∃x n,c=[x]/\MW K x H n/\Q (.int n) H)\/∃a b,c=[V.ref a]/\Rd H a (.dK b)/\Q (.int b.length) H
def oO:jR X (.builtin "len") (λc H Q=>∃a b,c=[V.ref a]/\Rd H a (.dK b)/\Q (.int b.length) H):=by intro d s l H c j Q I r h;obtain⟨a,b,rfl,e,q⟩:=h;obtain⟨u,rfl,f⟩:=vals1 r;cases f;exact LK I e λt i g=>⟨.int _,H,g,⟨t,rfl⟩,q⟩
def Gs:LfC W (Gr W.K) qZ:=λM C B H g c Q n h q=>by
 unfold qZ at q;split at q
 .obtain⟨v,r,rfl,⟨p,c,rfl,_,b,d⟩,a⟩:=h;cases a;exact .inl ⟨_,c.length,rfl,.inl ⟨c,SqL.of b,rfl⟩,q _ H (zF.refl _) (by rw[d.len];rfl)⟩
 .obtain⟨v,r,rfl,⟨p,c,rfl,b,d⟩,a⟩:=h;cases a;exact .inl ⟨_,c.length,rfl,.inr ⟨c,b,rfl⟩,q _ H (zF.refl _) (by rw[d.len];rfl)⟩
 .obtain⟨v,r,rfl,⟨p,rfl,b⟩,a⟩:=h;cases a;exact .inl ⟨_,_,rfl,.inl ⟨_,b.sq,rfl⟩,q _ H (zF.refl _) (by rw[u8];rfl)⟩
 .obtain⟨v,r,rfl,⟨p,e,rfl,_,b,d⟩,a⟩:=h;cases a;exact .inr ⟨_,e,rfl,b,q _ H (zF.refl _) (by rw[d.len];rfl)⟩
 .split at q
  .rename_i hz;obtain⟨v,r,rfl,f,a⟩:=h;cases a;cases f;exact .inl ⟨_,_,rfl,⟨hz,rfl⟩,q _ H (zF.refl _) rfl⟩
  .exact q.elim
 .exact q.elim
def qC(a:Gl X "len")(d:X.mg "len"=none)(c:AM X C S ws [e] ms)(he:starEach [e] X.env=[(false,eval e X.env)]:=by rfl):EM X C S false (.Call (.Name "len" p) [e] [] pos) (zf qZ ms):=
 WC (λb=>b▸uA.or oO) Gs a d PySem.boot_len c (he:=he)
def CV:List PV->Out PV
 |[.l a]=>.ok (.l a)
 |[.t a]=>.ok (.l a)
 |[.sc a]=>.ok (.l (a.map PV.i))
 |_=>.wall
def JW(r:zX W M H xs vs)(b:H l=none):RFr W M H (upd H l (.lst vs)) (.l xs) (.ref l):=
 ⟨l,rfl,b,vs,zh,(r.sub λa m n=>⟨m,λz=>n (z▸b)⟩).same (zF.upd b)⟩
def CW(r:y8 W M H xs vs)(b:H l=none):RFr W M H (upd H l (.dK vs)) (.d xs) (.ref l):=
 ⟨l,rfl,b,vs,zh,(r.sub λa m n=>⟨m,λz=>n (z▸b)⟩).same (zF.upd b)⟩
def CY:LfF W (λf H Q=>∃p e,f=[.ref p]/\(SqL W.K H p e\/SqT W.K H p e)/\∀l,H l=none->Q (.ref l) (upd H l (.lst e))) CV:=λM C B H f c Q n h q=>by
 unfold CV at q;split at q
 .obtain⟨v,r,rfl,⟨p,c,rfl,_,a,d⟩,b⟩:=h;cases b;exact⟨p,c,rfl,.inl (SqL.of a),λl a=>q _ _ (zF.upd a) (JW d a)⟩
 .obtain⟨v,r,rfl,⟨p,c,rfl,a,d⟩,b⟩:=h;cases b;exact⟨p,c,rfl,.inr a,λl a=>q _ _ (zF.upd a) (JW d a)⟩
 .obtain⟨v,r,rfl,⟨p,rfl,a⟩,b⟩:=h;cases b;exact⟨p,_,rfl,.inl a.sq,λl a=>q _ _ (zF.upd a) (JW zX.ints a)⟩
 .exact q.elim
def toI:PV->Option Int
 |.i a=>some a
 |_=>none
def ud:List PV->Option (List Int)
 |[]=>some []
 |x::r=>match toI x,ud r with|some a,some b=>some (a::b)|_,_=>none
theorem fH{W:RC}{M:Ol}{H:Hp}:∀{c:OD}{g:Ow}{d:OC},zX W M H c g->ud c=some d->g=d.map V.int
 |[],_,_,h,e=>by cases h;cases e;rfl
 |x::c,_,d,h,e=>by
  obtain⟨v,r,rfl,j,l⟩:=h;unfold ud at e;cases x with
  |i a=>
   cases f:ud c with
   |none=>rw[f]at e;cases e
   |some b=>rw[f]at e;cases e;rw[R7,<- fH l f,j]
  |_=>cases e
theorem aG:∀{c:OC},ud (c.map PV.i)=some c
 |[]=>rfl
 |n::c=>by show(match toI (.i n),ud (c.map PV.i)with|some a,some b=>some (a::b)|_,_=>none)=_;rw[aG];rfl
def ng:List Int->Int
 |[]=>0
 |[a]=>a
 |a::r=>max a (ng r)
theorem aH:∀{ns:OC},ns≠[]->ng ns∈ns
 |[],h=>absurd rfl h
 |[a],_=>by simp[ng]
 |a::b::r,_=>by
  have ih:=aH (ns:=b::r) (by simp);show max a (ng (b::r))∈_;rcases Int.le_total a (ng (b::r))with h|h
  .rw[Int.max_eq_right h];exact O6 _ ih
  .rw[Int.max_eq_left h];exact O7
theorem fI:∀{d:OC}{a:Int},a∈d->a<=ng d
 |[],_,h=>by cases h
 |[b],a,h=>by simp at h;subst h;exact a2N _
 |b::c::r,a,h=>by
  rcases P7.mp h with rfl|h
  .exact Int.le_max_left ..
  .exact a4n (fI h) (Int.le_max_right ..)
def ue:List PV->Out PV
 |[.i a,.i b]=>.ok (.i (max a b))
 |[.l d]=>wD ((ud d).bind λc=>if c=[]then none else some (.i (ng c)))
 |_=>.wall
def Wb:List PV->Out PV
 |[.l b]=>wD ((ud b).map λa=>.i a.sum)
 |_=>.wall
def Gu:LfC W (λc H Q=>(∃i j,c=[.int i,.int j]/\Q (.int (if j>i then j else i)) H)\/Gb W.K c H Q) ue:=λM C B H c t Q n h q=>by
 unfold ue at q;split at q
 .obtain⟨v,r,rfl,o,u,w,rfl,b,f⟩:=h;cases f;cases o;cases b;exact .inl ⟨_,_,rfl,q _ H (zF.refl _) (by congr 1;omega)⟩
 .obtain⟨z,e,q⟩:=yU q;obtain⟨a,m,e⟩:=S7.mp e;by_cases hz:a=[]
  .rw[if_pos hz]at e;cases e
  .rw[if_neg hz]at e;cases e;obtain⟨v,r,rfl,⟨p,t,rfl,_,g,l⟩,f⟩:=h;cases f;rw[fH l m]at g;refine .inr ⟨p,a,rfl,SqL.of g,hz,λM s d=>?_⟩;have:M=ng a:=Int.le_antisymm (fI s) (d _ (aH hz));rw[this];exact q _ H (zF.refl _) rfl
 .exact q.elim
def Gv:LfC W (M8 W.K) Wb:=λM C B H i g Q n h q=>by
 unfold Wb at q;split at q
 .obtain⟨z,e,q⟩:=yU q;obtain⟨c,d,rfl⟩:=v1.mp e;obtain⟨v,r,rfl,⟨p,g,rfl,_,a,b⟩,f⟩:=h;cases f;rw[fH b d]at a;exact⟨p,c,rfl,SqL.of a,q _ H (zF.refl _) rfl⟩
 .exact q.elim
def u7:List PV->Option (List Bool)
 |[]=>some []
 |x::r=>match x,u7 r with | .b a,some b=>some (a::b)|_,_=>none
theorem oP{W:RC}{M:Ol}{H:Hp}:∀{c:OD}{g:Ow}{d:Ou},zX W M H c g->u7 c=some d->g=d.map V.bl
 |[],_,_,h,e=>by cases h;cases e;rfl
 |x::c,_,d,h,e=>by
  obtain⟨v,r,rfl,i,j⟩:=h;unfold u7 at e;cases x with
  |b a=>
   cases f:u7 c with
   |none=>rw[f]at e;cases e
   |some b=>rw[f]at e;cases e;rw[R7,<- oP j f,i]
  |_=>cases e
theorem h9:∀{ns:Ou},u7 (ns.map PV.b)=some ns
 |[]=>rfl
 |n::ns=>by unfold u7;rw[R7];simp only[h9]
def uf:List PV->Out PV
 |[.l b]=>wD ((u7 b).map λa=>.b (a.all id))
 |_=>.wall
def Gw:LfC W (M7 W.K) uf:=λM C B H i g Q n h q=>by
 unfold uf at q;split at q
 .obtain⟨z,e,q⟩:=yU q;obtain⟨c,d,rfl⟩:=v1.mp e;obtain⟨v,r,rfl,⟨p,g,rfl,_,a,b⟩,f⟩:=h;cases f;rw[oP b d]at a;exact⟨p,c,rfl,SqL.of a,q _ H (zF.refl _) rfl⟩
 .exact q.elim
def h_(a:X.calm=true)(d:Gl X "max")(c:X.mg "max"=none)(b:AM X C S ws (e::es) ms)(he:starEach (e::es) X.env=(false,eval e X.env)::starEach es X.env:=by rfl)(hpl:(backTo pos (starEach es X.env)).any (·.1)=false:=by rfl):EM X C S false (.Call (.Name "max" p) (e::es) [] pos) (zf ue ms):=
 WC (λf=>f▸(nN a).or (oA a)) Gu d c PyProof.Rows.boot_max b (he:=he) (hpl:=hpl)
def Yt(b:X.calm=true)(d:Gl X "sum")(c:X.mg "sum"=none)(a:AM X C S ws [e] ms)(he:starEach [e] X.env=[(false,eval e X.env)]:=by rfl):EM X C S false (.Call (.Name "sum" p) [e] [] pos) (zf Wb ms):=
 WC (λf=>f▸oz b) Gv d c PyProof.Rows.boot_sum a (he:=he)
def ia(b:X.calm=true)(d:Gl X "all")(c:X.mg "all"=none)(a:AM X C S ws [e] ms)(he:starEach [e] X.env=[(false,eval e X.env)]:=by rfl):EM X C S false (.Call (.Name "all" p) [e] [] pos) (zf uf ms):=
 WC (λf=>f▸uU b) Gw d c PyProof.Rows.boot_all a (he:=he)
def Yu(W:RC)(M:Ol)(H:Hp):List Bool->List PV->List V->Prop
 |[],a,b=>a=[]/\b=[]
 |w::ws,a,b=>∃x v d c,a=x::d/\b=v::c/\yI W (if w=true then λ_=>True else M) M H x v/\Yu W M H ws d c
def RVs.args{C:LC}{B:Bs}{S:Og}{P:Oy}{H:Hp}:∀{ws:Ou}{a:OD}{b:Ow},RVs C B S P H ws a b->Yu C.W (Mof B S P) H ws a b
 |[],_,_,h=>h
 |w::ws,_,_,⟨x,v,e,d,f,c,g,i⟩=>⟨x,v,e,d,f,c,g,RVs.args i⟩
def Yu.len{W:RC}{M:Ol}{H:Hp}:∀{ws:Ou}{c:OD}{e:Ow},Yu W M H ws c e->e.length=ws.length/\c.length=ws.length
 |[],_,_,⟨b,a⟩=>by subst b;subst a;exact⟨rfl,rfl⟩
 |w::ws,_,_,⟨x,v,g,f,b,a,h,d⟩=>by subst b;subst a;exact⟨by rw[O1,O1,(Yu.len d).1],by rw[O1,O1,(Yu.len d).2]⟩
def RtV(W:RC)(fr:Bool)(M:Ol)(H b:Hp)(r:PV)(v:V):Prop:=if fr=true then RFr W (λa=>M a\/H a=none) H b r v else Rep W (λa=>M a\/H a=none) b r v
def L6(W:RC)(fr:Bool)(M:Ol)(H:Hp)(Q:VK)(E:XK):Out PV->Prop
 |.ok r=>∀v b,zF H b->RtV W fr M H b r v->Q v b
 |.exc c fs=>∀e d f b,zF H b->b e=some (XC e (W.cls c) d)->b d=some (XD d f)->Zg W (λa=>M a\/H a=none) b fs f->E (.ref e) (some d) b
 |.wall=>False
def lsp(W:RC)(fr:Bool)(ws:Ou)(g:OB):Sp:=λb H Q E=>∃M a,Yu W M H ws a b/\L6 W fr M H Q E (g a)
def CZ{W:RC}{fr:Bool}{ws:Ou}{g:OB}{n:Nat}(h:ws.length=n):∀b H Q E,lsp W fr ws g b H Q E->b.length=n:=λb H Q E ⟨M,c,a,_⟩=>a.len.1.trans h
def RFr.sub(h:RFr W M H H2 x v)(s:∀a,M a->M' a):RFr W M' H H2 x v:=by obtain⟨p,e,hp,h⟩:=h;exact⟨p,e,hp,h.gen rfl Fr.refl λa m _=>⟨s a m.1,m.2⟩⟩
section
variable {X:Cx}{C:LC}{S:Og}{e a b o:Ot}{es:Oq}{w fr:Bool}{ws:Ou}{m:ME}{ms:MA}{pos p:Pos}{x:Str}{k:Nat}{f:Addr}{fd:OH}{ps:Oj}{g:OB}
def oQ(R:Rel C.W B S P H σ ρ)(q:XPo C B c fs):∀e h es d,zF H d->d e=some (XC e (C.W.cls c) h)->d h=some (XD h es)->Zg C.W (λa=>Mof B S P a\/H a=none) d fs es->C.E (.ref e) (some h) d:=
 λe h es d s j l i=>q e h es d (R.same.trans s) j l (i.sub λa m _=>m.elim (λm=>m.1.1) λn=>.inr (zF.none R.same n))
def Gx{B:Bs}{P:Oy}{H:Hp}{σ:St}{ρ:Sto}{Q:VK}{o:Out PV}(R:Rel C.W B S P H σ ρ)(q:z_ C B H (RV C B S P false) Q o):L6 C.W fr (Mof B S P) H Q C.E o:=by
 have sM:∀a,(Mof B S P a\/H a=none)->Mof B S P a:=λa m=>m.elim id λn=>R.new a n;cases o with
 |ok r=>
  intro v h s d;refine q v h s (RV.of ?_);unfold RtV at d;cases fr with
  |true=>exact(d.sub sM).rep R.new
  |false=>exact d.sub λa m _=>sM a m
 |exc c fs=>exact oQ R q
 |wall=>exact q
def C0{B:Bs}{P:Oy}{H:Hp}{σ:St}{ρ:Sto}{Q:VK}{o:Out PV}(R:Rel C.W B S P H σ ρ)(q:z_ C B H (RFr C.W (Mof B S P) H) Q o):L6 C.W true (Mof B S P) H Q C.E o:=by
 have sM:∀a,(Mof B S P a\/H a=none)->Mof B S P a:=λa m=>m.elim id λn=>R.new a n;cases o with
 |ok r=>intro v h s d;unfold RtV at d;exact q v h s (d.sub sM)
 |exc c fs=>exact oQ R q
 |wall=>exact q
def C1(F:qz X.prog X.w X.K X.mg X.base (CXe X.prog X.w) k f fd ps (lsp C.W fr ws g))(y:j7 k X.A)(l:Gl X x)(i:X.mg x=some (.ref f))(A:keepIn X.K (.ref f)=true)(D:Binds X.K fd ps [])(u:Passes (CXe X.prog X.w) X C.E)(d:AM X C S ws (e::es) ms)
  (c:(x==("__debug__":Str))=false:=by decide) (he:starEach (e::es) X.env=(false,eval e X.env)::starEach es X.env:=by rfl) (hpl:(backTo pos (starEach es X.env)).any (·.1)=false:=by rfl):EM X C S false (.Call (.Name x p) (e::es) [] pos) (zf g ms):=λE=>by
 obtain⟨I,v,h⟩:=d E;refine⟨_,fb F y l i A D .nil u v c he hpl,λB P H z n R Q q=>h B P H z n R _ (qL q λt J G j r s=>?_)⟩;rw[a0h];exact⟨_,t,r.args,Gx (R.keep j) s⟩
def vk(F:qz X.prog X.w X.K X.mg X.base (CXe X.prog X.w) k f fd ps (lsp C.W true ws g))(y:j7 k X.A)(l:Gl X x)(i:X.mg x=some (.ref f))(A:keepIn X.K (.ref f)=true)(D:Binds X.K fd ps [])(u:Passes (CXe X.prog X.w) X C.E)(d:AM X C S ws (e::es) ms)
  (c:(x==("__debug__":Str))=false:=by decide) (he:starEach (e::es) X.env=(false,eval e X.env)::starEach es X.env:=by rfl) (hpl:(backTo pos (starEach es X.env)).any (·.1)=false:=by rfl):FM X C S (.Call (.Name x p) (e::es) [] pos) (zf g ms):=λE=>by
 obtain⟨I,v,h⟩:=d E;refine⟨_,fb F y l i A D .nil u v c he hpl,λB P H z n R Q q=>h B P H z n R _ (W_ q λt J G j r s=>?_)⟩;rw[a0h];exact⟨_,t,r.args,C0 (R.keep j) s⟩
def u9(cs:Og)(f:Str)(m:ME):ME:=λd=>(m d).bind λx=>match x with
 |.x c fs=>if c∈cs then wD (fs.lookup f)else .wall
 |_=>.wall
def fJ(h:EM X C S w e m)(l:∀c∈cs,JP X.K (C.W.cls c)/\findIn X.K (.ref (C.W.cls c)) fn=some none)(E:attributeBase e fn X.env (eval e X.env)=eval e X.env:=by rfl):EM X C S false (.Attribute e fn pos) (u9 cs fn m):=λG=>by
 obtain⟨J,u,r⟩:=h G;refine⟨_,CB u E,λB P H A s R Q q=>r B P H A s R _ (zT q λx v j I t d=>?_)⟩;cases x with
 |x c fs=>
  obtain⟨p,n,es,rfl,hp,F,hf⟩:=t;by_cases i:c∈cs
  .have d:z_ C B j (RV C B S P false) Q (if c∈cs then wD (fs.lookup fn)else .wall):=d;rw[if_pos i]at d;obtain⟨y,e,d⟩:=yU d;obtain⟨v,z,D⟩:=hf.lookup e;exact⟨p,_,n,es,v,rfl,(l c i).1,(l c i).2,.inl hp,F,z,d v j (zF.refl _) (RV.of D)⟩
  .have d:z_ C B j (RV C B S P false) Q (if c∈cs then wD (fs.lookup fn)else .wall):=d;rw[if_neg i]at d;exact d.elim
 |_=>exact d.elim
inductive Kd where
 |int|str|bool|none|list|tuple|dict|obj (c:Nat)|exc (c:Nat)
 deriving DecidableEq
def kd:PV->Option Kd
 |.i _=>some .int | .s _=>some .str | .b _=>some .bool | .n=>some .none | .l _=>some .list | .t _=>some .tuple | .d _=>some .dict | .o c _=>some (.obj c) | .x c _=>some (.exc c)
 |.sc _=>Option.none
 |.dt _=>Option.none
def tyK(W:RC):Kd->Value
 |.int=>.type "int" | .str=>.type "str" | .bool=>.type "bool" | .none=>.type "NoneType" | .list=>.type "list" | .tuple=>.type "tuple" | .dict=>.type "dict" | .obj c=>.ref (W.cls c) | .exc c=>.ref (W.cls c)
def IW(W:RC):Kd->Prop
 |.obj c=>Cls W.K (W.cls c)/\findIn W.K (.ref (W.cls c)) "__class__"=some (some (.builtin "object.__class__"))/\specialIn W.K (.builtin "object.__class__") "__get__"=some (some (.builtin "getset_descriptor.__get__"))/\takesIn W.K (.builtin "object.__class__")=some true/\mroIn W.K (W.cls c) (.type "object")=some true
 |.exc c=>JP W.K (W.cls c)/\XIs W.K (W.cls c)
 |_=>True
def oR(W:RC)(f:Po):List (Kd×Bool)->Prop
 |[]=>True
 |q::r=>(IW W q.1/\f (tyK W q.1)=some q.2)/\oR W f r
def oR.get{W:RC}{f:Po}:∀{c:List (Kd×Bool)}{k:Kd}{b:Bool},oR W f c->c.lookup k=some b->IW W k/\f (tyK W k)=some b
 |[],_,_,_,h=>by cases h
 |q::r,k,b,t,h=>by
  rw[a0o]at h;by_cases e:(k==q.1)=true
  .simp only[e]at h;cases h;rw[a0b.mp e];exact t.1
  .simp only[e]at h;exact oR.get t.2 h
def L7(c:List (Kd×Bool))(x:PV):Out PV:=wD (((kd x).bind λk=>c.lookup k).map PV.b)
def NZ(W:RC)(f:Po)(cv:V):List V->Hp->VK->Prop:=λc H Q=>∃(M:Ol)(x:PV)(v:V)(k:Kd)(b:Bool),c=[v,cv]/\yI W (λ_=>True) M H x v/\kd x=some k/\IW W k/\f (tyK W k)=some b/\Q (.bl b) H
def Gy{pins:Oh}{σ:St}{H:Hp}{s:Om}{W:RC}{N M:Ol}{x:PV}{v:V}{u:Value}{k:Kd}(E:X.K=W.K)(I:Inv X pins σ H s)(h:yI W N M H x v)(r:RelV v u)(j:kd x=some k)(ok:IW W k):∃P,KitX X.K u (tyK W k) P/\P s.heap/\u≠.builtin "__main__.__loader__#opaque":=by
 cases x with
 |i a=>cases j;exact fj I r (.inl (by rw[h];exact .int a))
 |s a=>cases j;exact fj I r (.inl (by rw[h];exact .str a))
 |b a=>cases j;exact fj I r (.inl (by rw[h];exact .bl a))
 |n=>cases j;exact fj I r (.inl (by rw[h];exact .non))
 |l a=>cases j;obtain⟨p,L,rfl,_,q,_⟩:=h;exact fj I r (.inl (.lst q))
 |t a=>cases j;obtain⟨p,L,rfl,q,_⟩:=h;cases r;rw[<- E]at q;obtain⟨Q,_,⟨o,B,D,_⟩,_⟩:=I.tuple q;exact⟨_,kitx_tuple,⟨o,B,D⟩,λz=>nomatch z⟩
 |d a=>cases j;obtain⟨p,L,rfl,_,q,_⟩:=h;cases r;obtain⟨_,_,ws,_,O⟩:=wC I.hok q;obtain⟨o,es,T,B,D,_⟩:=O;exact⟨_,kitx_dict,⟨o,B,D.1⟩,λz=>nomatch z⟩
 |o c a=>cases j;obtain⟨p,F,es,rfl,_,q,_⟩:=h;obtain⟨y,A,G,J,K⟩:=ok;rw[<- E]at y A G J K;exact fj I r (.inl (.ins q y A G J K))
 |x c a=>cases j;obtain⟨p,F,es,rfl,q,R,_⟩:=h;obtain⟨y,A⟩:=ok;rw[<- E]at y A;exact fj I r (.inr ⟨p,_,F,es,rfl,rfl,y,A,.inl q,R⟩)
 |sc a=>cases j
 |dt a=>cases j
def u_(hK:X.K=W.K)(hc:LV cv=some cl):jR X (.builtin "isinstance") (NZ W (λt=>kitOne W.K t cl) cv):=by intro pins s σ H xs us Q I r h;obtain⟨M,x,v,k,b,rfl,hx,hk,ok,hb,q⟩:=h;obtain⟨u,c,rfl,rx,rc⟩:=vals2 r;obtain⟨P,kx,hP,hne⟩:=Gy hK I hx rx hk ok;rw[uP rc hc];rw[<- hK]at hb;exact a0g (n:=X.m) (by ac_rfl)<|kia_one kx I.kIn hP hb hne λtk hn=>⟨.bl b,H,I.tok _ hn,rfl,q⟩
def Bj(s:Gl X "isinstance")(r:X.mg "isinstance"=none)(h:EM X C S w e m)(u:PE X ce (tC cv))(i:LV cv=some cl)(K:oR C.W (λt=>kitOne C.W.K t cl) tab)
  (he:starEach [e,ce] X.env=[(false,eval e X.env),(false,eval ce X.env)]:=by rfl) (c:starEach [ce] X.env=[(false,eval ce X.env)]:=by rfl):EM X C S false (.Call (.Name "isinstance" p) [e,ce] [] pos) (mUn (L7 tab) m):=λl=>by
 obtain⟨M,F,n⟩:=h l;refine⟨_,Wy (u_ l i) s r PyProof.Rows.boot_isinstance (vi F (vi u JO c) (by rw[he,c])) (by decide) (by decide) (by rw[he,c]) (by rw[c];rfl),λB P H I y R Q q=>n B P H I y R _ (zT q λx v A L D d=>?_)⟩;obtain⟨z,E,d⟩:=yU d;obtain⟨b,j,rfl⟩:=v1.mp E;obtain⟨k,J,j⟩:=S7.mp j;obtain⟨ok,G⟩:=K.get j;exact⟨_,x,v,k,b,rfl,D.weak,J,ok,G,d _ A (zF.refl _) (RV.of rfl)⟩
abbrev MO:=Sto->Out (Option Int)
def LO(C:LC)(S:Og)(j:TO)(m:MO):Prop:=∀B P H d h,Rel C.W B S P H d h->∀Q:Option Int->Hp->Prop,(match m h with | .ok r=>∀i,zF H i->Q r i | .exc c fs=>XPo C B c fs | .wall=>False)->j d H Q
def OM(X:Cx)(C:LC)(S:Og)(e:Pe)(m:MO):Prop:=X.K=C.W.K->∃c,PO X e c/\LO C S c m
def Wc:MO:=λ_=>.ok none
def asI:PV->Out (Option Int)
 |.i a=>.ok (some a)
 |_=>.wall
def qW(m:ME):MO:=λc=>(m c).bind asI
def wF:OM X C S none Wc:=λ_=>⟨_,nU,λB P H c d R Q q=>q H (zF.refl _)⟩
def wG(h:EM X C S w e m):OM X C S (some e) (qW m):=λt=>by
 obtain⟨y,u,n⟩:=h t;refine⟨_,nV u,λB P H j d R Q q=>n B P H j d R _ ?_⟩;unfold qW at q;revert q;cases m d with
 |ok x=>
  intro q v l s r;cases x with
  |i a=>exact⟨a,r,q l s⟩
  |_=>exact q.elim
 |exc c fs=>exact id
 |wall=>exact id
def Uc{d:Type}(xs:List d)(c h:OT):List d:=(xs.drop (HT.sIx xs.length 0 c)).take (HT.sIx xs.length xs.length h-HT.sIx xs.length 0 c)
def pSl:PV->Option Int->Option Int->Out PV
 |.l i,c,d=>.ok (.l (Uc i c d))
 |.sc h,c,d=>.ok (.l ((Uc h c d).map PV.i))
 |.s z,c,d=>if z.length<=sizeLine then .ok (.s (Txt.slice z c d))else .wall
 |_,_,_=>.wall
def mSl(d:PV->Option Int->Option Int->Out PV)(m:ME)(i j:MO):ME:=λc=>(m c).bind λx=>(i c).bind λl=>(j c).bind λh=>d x l h
def xa{ns:OC}{c d:OT}:nW (ns.map V.int) c d=(Uc ns c d).map V.int:=by unfold nW Uc;rw[u8,a2m,a4b]
variable {lo hi:Pe}{ml mh:MO}{p2:Pos}
def kW(h:EM X C S w e m)(L:OM X C S lo ml)(E:OM X C S hi mh):EM X C S false (.Subscript e (.Slice lo hi none p2) pos) (mSl pSl m ml mh):=λj=>by
 obtain⟨te,K,G⟩:=h j;obtain⟨Y,I,M⟩:=L j;obtain⟨Z,O,N⟩:=E j;refine⟨_,ax (nZ.or F7) K I O,λB P H u i R Q q=>G B P H u i R _ (zT q λx v y t J d=>M B P y u i (R.keep t) _ ?_)⟩;revert d;cases ml i with
 |exc c fs=>exact id
 |wall=>exact id
 |ok l=>
  intro d F s2;refine N B P F u i ((R.keep t).keep s2) _ ?_;have d:z_ C B y (RV C B S P false) Q ((mh i).bind λh=>pSl x l h):=d;have d:=vg d s2;revert d;cases mh i with
  |exc c fs=>exact id
  |wall=>exact id
  |ok h=>
   intro d U n;have d:=vg (o:=pSl x l h) d n;have r:=(J.same s2).same n;have A:=(((R.keep t).keep s2).keep n).new;cases x with
   |l xs=>obtain⟨p,T,rfl,_,hp,D⟩:=r;exact .inl ⟨p,T,rfl,SqL.of hp,λz hz=>d _ _ (zF.upd hz) (RV.of ((JW D.cut hz).rep A))⟩
   |sc W=>obtain⟨p,rfl,hp⟩:=r;exact .inl ⟨p,_,rfl,j▸hp.sq,λz hz=>d _ _ (zF.upd hz) (by rw[xa];exact RV.of ((JW zX.ints hz).rep A))⟩
   |s z=>
    unfold pSl at d;by_cases hz:z.length<=sizeLine
    .simp only[hz,if_true]at d;exact .inr ⟨z,r,hz,d _ U (zF.refl _) (RV.of rfl)⟩
    .simp only[hz,if_false]at d;exact d.elim
   |_=>exact d.elim
end
def xb(C:LC)(B:Bs)(H:Hp)(x:PV)(v:V):Prop:=if C.fr=true then RFr C.W B.Mt B.H0 H x v else Rep C.W B.Mt H x v
def wH(C:LC)(B:Bs)(S' Sb Sc:Og)(D:Ends):Out Fw->Prop
 |.ok (.nx d)=>∀e b a,Rel C.W B S' e b a d->D.nx a b
 |.ok (.rt x)=>∀v b,zF B.H0 b->xb C B b x v->D.rt v b
 |.ok (.bk d)=>∀e b a,Rel C.W B Sb e b a d->D.bk a b
 |.ok (.ct d)=>∀e b a,Rel C.W B Sc e b a d->D.ct a b
 |.exc c fs=>XPo C B c fs
 |.wall=>False
def LS(C:LC)(S S' Sb Sc:Og)(ts:TS)(m:MS):Prop:=∀B P H a b,Rel C.W B S P H a b->∀D,wH C B S' Sb Sc D (m b)->ts D a H
def SM(X:Cx)(C:LC)(S S' Sb Sc:Og)(st:OY)(m:MS):Prop:=X.K=C.W.K->∃a,PS X st a/\LS C S S' Sb Sc a m
def SsM(X:Cx)(C:LC)(S S' Sb Sc:Og)(st:ON)(m:MS):Prop:=X.K=C.W.K->∃a,PSs X st a/\LS C S S' Sb Sc a m
def zG:MS:=λa=>.ok (.nx a)
def zZ(a b:MS):MS:=λd=>(a d).bind λf=>match f with
 |.nx c=>b c
 |.rt x=>.ok (.rt x)
 |.bk c=>.ok (.bk c)
 |.ct c=>.ok (.ct c)
def yH(i:Nat)(m:ME):MS:=λa=>(m a).bind λx=>.ok (.nx (a.set i (some x)))
def We(m:ME):MS:=λa=>(m a).bind λ_=>.ok (.nx a)
def jM(m:ME):MS:=λa=>(m a).bind λx=>.ok (.rt x)
def sIf(t:MT)(a b:MS):MS:=λd=>(t d).bind λc=>if c=true then a d else b d
section
variable {X:Cx}{C:LC}{S S' S1 Sb Sc:Og}{e a o:Ot}{w:Bool}{m:ME}{t1:MT}{s1 s2:MS}{pos p pos':Pos}{x:Str}{st:OY}{sts stt:ON}{i:Nat}
def zS:SsM X C S S Sb Sc [] zG:=λ_=>⟨_,nD,λB P H c d R D q=>q P H c R⟩
def Gz(r:LS C S S1 Sb Sc t s1)(v:LS C S1 S' Sb Sc u s2):LS C S S' Sb Sc (Lj t u) (zZ s1 s2):=λB P H j h R D q=>by
 refine r B P H j h R _ ?_;unfold zZ at q;revert q;cases s1 h with
 |ok f=>
  cases f with
  |nx d=>exact λq s l g n=>v B s l g d n D q
  |rt x=>exact id
  |bk d=>exact id
  |ct d=>exact id
 |exc c fs=>exact id
 |wall=>exact id
def zi(h:SM X C S S1 Sb Sc st s1)(j:SsM X C S1 S' Sb Sc sts s2):SsM X C S S' Sb Sc (st::sts) (zZ s1 s2):=λc=>by obtain⟨t,l,g⟩:=h c;obtain⟨u,f,d⟩:=j c;exact⟨_,Wx l f,Gz g d⟩
def zo(d:SM X C S S' Sb Sc st s1):SsM X C S S' Sb Sc [st] s1:=λf=>by obtain⟨t,g,c⟩:=d f;exact⟨_,Yp g,c⟩
def cZ(i:Nat)(h:SsM X C (S.set i 0) S' Sb Sc sts s1)(g:S[i]?=some 2:=by rfl):SsM X C S S' Sb Sc sts s1:=λj=>by obtain⟨t,l,f⟩:=h j;exact⟨t,l,λB P H c d R D q=>f B P H c d (R.freeze g) D q⟩
def Bk(h:LE C S false te m):LS C S (S.set i 0) Sb Sc (AY te (aw i)) (yH i m):=λB P H f d R D q=>by
 refine h B P H f d R _ ?_;unfold yH at q;revert q;cases m d with
 |ok x=>exact λq v g s r=>q P g _ ((R.keep s).set r.rep)
 |exc c fs=>exact id
 |wall=>exact id
def QD(g:X.N.Nodup)(f:X.N[i]?=some x)(l:Loc X.env.scope x)(h:EM X C S false e m)(c:swapsWith e (some (.Name x pos')) pos.line X.env=pure false:=by rfl)(hf:X.fn x=true\/X.env.scope.names.lookup x=some .local:=by first|exact .inl rfl|exact .inr rfl|assumption):
  SM X C S (S.set i 0) Sb Sc (.Assign [.Name x pos'] e pos) (yH i m):=λj=>by
 obtain⟨q,n,d⟩:=h j;exact⟨_,gQ g f l n c hf,Bk d⟩
def oS(h:LFr C S te m)(f:i<S.length)(l:i≠0):LS C S (S.set i 2) Sb Sc (AY te (aw i)) (yH i m):=λB P H g d R D q=>by
 refine h B P H g d R _ ?_;unfold yH at q;revert q;cases m d with
 |ok x=>exact λq v j s ⟨p,e,hp,r⟩=>by subst e;exact q _ j _ (R.NV s hp f l r)
 |exc c fs=>exact id
 |wall=>exact id
def wI(l:X.N.Nodup)(j:X.N[i]?=some x)(q:Loc X.env.scope x)(h:FM X C S e m)(c:i<S.length:=by decide)(g:i≠0:=by decide)(d:swapsWith e (some (.Name x pos')) pos.line X.env=pure false:=by rfl)(hf:X.fn x=true\/X.env.scope.names.lookup x=some .local:=by first|exact .inl rfl|exact .inr rfl|assumption):
  SM X C S (S.set i 2) Sb Sc (.Assign [.Name x pos'] e pos) (yH i m):=λn=>by
 obtain⟨s,r,f⟩:=h n;exact⟨_,gQ l j q r d hf,oS f c g⟩
def K7(h:EM X C S w e m)(g:swapsWith e none pos.line X.env=pure false:=by rfl):SM X C S S Sb Sc (.Expr e pos) (We m):=λn=>by
 obtain⟨u,t,l⟩:=h n;refine⟨_,K5 t g,λB P H d f R D q=>l B P H d f R _ ?_⟩;unfold We at q;revert q;cases m f with
 |ok x=>exact λq v j s r=>q P j d (R.keep s)
 |exc c fs=>exact id
 |wall=>exact id
def z4(h:EM X C S false e m)(hf:C.fr=false:=by rfl):SM X C S S' Sb Sc (.Return (some e) pos) (jM m):=λl=>by
 obtain⟨t,n,j⟩:=h l;refine⟨_,gO n,λB P H f d R D q=>j B P H f d R _ ?_⟩;unfold jM at q;revert q;cases m d with
 |ok x=>exact λq v g s r=>q v g (R.same.trans s) (by unfold xb;rw[hf];exact r.rep.sub λa m _=>m.1.1)
 |exc c fs=>exact id
 |wall=>exact id
def oU(h:FM X C S e m)(hf:C.fr=true:=by rfl):SM X C S S' Sb Sc (.Return (some e) pos) (jM m):=λl=>by
 obtain⟨t,n,j⟩:=h l;refine⟨_,gO n,λB P H f d R D q=>j B P H f d R _ ?_⟩;unfold jM at q;revert q;cases m d with
 |ok x=>exact λq v g s r=>q v g (R.same.trans s) (by
   unfold xb;rw[if_pos hf];obtain⟨p,e,hp,r⟩:=r;exact⟨p,e,zF.none R.same hp,r.gen rfl Fr.refl λa m _=>⟨m.1.1.1,m.2⟩⟩)
 |exc c fs=>exact id
 |wall=>exact id
def fK(h:PE X e (UJ i))(d:S[i]?=some 2:=by rfl)(hf:C.fr=true:=by rfl):SM X C S S' Sb Sc (.Return (some e) pos) (jM (zc i)):=λr=>by
 refine⟨_,gO h,λB P H n j R D q=>?_⟩;unfold jM zc at q;cases c:j[i]? with
 |none=>rw[c]at q;exact q.elim
 |some o=>
  cases o with
  |none=>rw[c]at q;exact q.elim
  |some y=>rw[c]at q;obtain⟨v,g,l,_,_⟩:=R.var i y c;obtain⟨rfl,f⟩:=l d;refine⟨_,g,q _ H R.same ?_⟩;unfold xb;rw[if_pos hf];exact⟨P i,rfl,(R.act i d).1,f.gen rfl Fr.refl λa m _=>⟨m.1.1,λz=>m.2 i d z.symm⟩⟩
def yz(h:TM X C S c t1)(r:SsM X C S S' Sb Sc sts s1)(E:SsM X C S S' Sb Sc stt s2):SM X C S S' Sb Sc (.If c sts stt pos) (sIf t1 s1 s2):=λg=>by
 obtain⟨F,v,l⟩:=h g;obtain⟨t,n,y⟩:=r g;obtain⟨u,A,z⟩:=E g;refine⟨_,Fv v n A,λB P H f d R D q=>l B P H f d R _ ?_⟩;unfold sIf at q;revert q;cases t1 d with
 |ok k=>
  intro q j s;cases k with
  |true=>exact A_ (y B P j f d (R.keep s) D q)
  |false=>exact A9 (z B P j f d (R.keep s) D q)
 |exc c fs=>exact id
 |wall=>exact id
def Rel.at2(R:Rel W B S P H σ ρ)(f:S[i]?=some 2)(e:ρ[i]?=some (some y)):σ[i]?=some (some (.ref (P i)))/\Ub W (Mof B S P) H (P i) y/\i<ρ.length:=by obtain⟨v,d,g,_,_⟩:=R.var i y e;obtain⟨rfl,c⟩:=g f;exact⟨d,c,(P5.mp e).1⟩
def Mof.wr{W:RC}{B:Bs}{P:Oy}{H:Hp}{σ:St}{ρ:Sto}{o:HO}(R:Rel W B S P H σ ρ)(c:S[i]?=some 2):Fr (Mof B S P) H (upd H (P i) o):=λa q e m=>by
 obtain⟨_,g,f,d⟩:=R.act i c;have:a≠P i:=λz=>by
  rcases m with m|m
  .exact m.2 i c z.symm
  .rw[z,f]at e;cases e;exact d m
 rw[zj this];exact e
def nk(i:Nat)(m:ME):MS:=λc=>match c[i]? with
 |some (some (.l d))=>(m c).bind λy=>if d.length<sizeLine then .ok (.nx (c.set i (some (.l (d++[y])))))else .wall
 |_=>.wall
def JX(M:PE X o (UJ i))(h:EM X C S false e m)(l:S[i]?=some 2:=by rfl)(F:attributeBase o "append" X.env (eval o X.env)=eval o X.env:=by rfl)
  (G:((backTo p (starEach [e] X.env)).all (λx=>!x.1)&&(backToKw p (keywordEach [] X.env)).all (λx=>x.1.isSome)&&decide ([e].length+([]:List Keyword).length+(if([]:List Keyword).isEmpty then 0 else 1)<30))=true:=by rfl)
  (L:(qO.endLine==p.line)=true:=by rfl) (A:starEach [e] X.env=[(false,eval e X.env)]:=by rfl) (g:swapsWith (.Call (.Attribute o "append" qO) [e] [] p) none pos.line X.env=pure false:=by rfl):
  SM X C S S Sb Sc (.Expr (.Call (.Attribute o "append" qO) [e] [] p) pos) (nk i m):=λN=>by
 obtain⟨Q,J,E⟩:=h N;refine⟨_,K5 (uC a1d PySem.F.slot_list_append PySem.F.type_list_append cE M (vi J JO A) F G L A rfl) g,λB P H u j R D q=>?_⟩;unfold nk at q;split at q
 .rename_i t I;obtain⟨d,⟨z,hp,n⟩,K⟩:=R.at2 l I;refine⟨_,d,.inl ⟨rfl,_,SqL.of hp⟩,E B P H u j R _ ?_⟩;revert q;cases m j with
  |ok y=>
   intro q v O s r;have q:=q;split at q
   .rename_i hz;have R2:=R.keep s;refine⟨_,z,v,rfl,rfl,s _ _ hp,by rw[n.len];exact hz,q P _ u (R2.wr l K d (by exact id) ?_)⟩;have f:=Mof.wr (o:=.lst (z++[v])) R2 l;exact⟨_,zh,((n.same s).append (.cons r.rep .nil)).gen f λ_ m _=>m⟩
   .exact q.elim
  |exc c fs=>exact id
  |wall=>exact id
 .exact q.elim
def dput{d f:Type}[DecidableEq d](kvs:List (d×f))(k:d)(v:f):List (d×f):=
 if kvs.any (λc=>decide (c.1=k))=true then kvs.map (λc=>if c.1=k then(c.1,v)else c)else kvs++[(k,v)]
end
def y8.put(h:y8 W M H a c)(l:Rep W M H x v):y8 W M H (dput a k x) (putK c k v):=by
 have f:∀{a:Oz}{c:Ov},y8 W M H a c->a.any (λb=>decide (b.1=k))=c.any (λb=>decide (b.1=k))/\y8 W M H (a.map λb=>if b.1=k then(b.1,x)else b) (c.map λb=>if b.1=k then(b.1,v)else b)/\y8 W M H (a++[(k,x)]) (c++[(k,v)]):=by
  intro a
  induction a with
  |nil=>intro c h;cases h;exact⟨rfl,rfl,v,[],rfl,l,rfl⟩
  |cons m a n=>
   intro c h;obtain⟨u,q,rfl,j,o⟩:=h;obtain⟨i,d,g⟩:=n o;refine⟨by rw[a0X,a0X,i],?_,⟨u,_,rfl,j,g⟩⟩;rw[R7,R7];by_cases e:m.1=k
   .rw[if_pos e,if_pos e];exact⟨v,_,rfl,l,d⟩
   .rw[if_neg e,if_neg e];exact⟨u,_,rfl,j,d⟩
 obtain⟨i,d,g⟩:=f h;unfold dput putK;rw[i];split
 .exact d
 .exact g
section
variable {X:Cx}{C:LC}{S Sb Sc:Og}{e a o:Ot}{es:Oq}{w:Bool}{m m1 m2:ME}{pos p pos':Pos}{i:Nat}
def c5(i:Nat)(mk f:ME):MS:=λd=>(f d).bind λv=>match d[i]? with
 |some (some (.d c))=>(mk d).bind λy=>match pk y with
  |some k=>if c.length<sizeLine then .ok (.nx (d.set i (some (.d (dput c k v)))))else .wall
  |none=>.wall
 |_=>.wall
def UQ(J:X.A.units+1<cLine)(Y:PE X o (UJ i))(t:EM X C S w a m1)(T:EM X C S false e m2)(r:S[i]?=some 2:=by rfl)(W:swapsWith e (some (.Subscript o a pos')) pos.line X.env=pure false:=by rfl):
  SM X C S S Sb Sc (.Assign [.Subscript o a pos'] e pos) (c5 i m1 m2):=λF=>by
 obtain⟨ta,N,I⟩:=t F;obtain⟨tv,K,O⟩:=T F;refine⟨_,n_ J Y N K W,λB P H n h R D q=>O B P H n h R _ ?_⟩;unfold c5 at q;revert q;cases m2 h with
 |ok y=>
  intro q v L s U;have l:=R.keep s;have q:wH C B S Sb Sc D (match h[i]? with
   |some (some (.d d))=>(m1 h).bind λz=>match pk z with
    |some k=>if d.length<sizeLine then .ok (.nx (h.set i (some (.d (dput d k y)))))else .wall
    |none=>.wall
   |_=>.wall):=q
  split at q
  .rename_i d M;obtain⟨j,⟨es,hp,E⟩,Q⟩:=l.at2 r M;refine⟨_,j,I B P L n h l _ ?_⟩;revert q;cases m1 h with
   |ok z=>
    intro q u Z g G;have R2:=l.keep g;have q:wH C B S Sb Sc D (match pk z with
     |some k=>if d.length<sizeLine then .ok (.nx (h.set i (some (.d (dput d k y)))))else .wall
     |none=>.wall):=q
    split at q
    .rename_i k t;split at q
     .rename_i hz;have A:=g _ _ hp;refine⟨_,_,rfl,by rw[fC G.weak t];exact E8.k A (by rw[y8.len E];exact hz),q P _ n (R2.wr r Q j (by exact id) ?_)⟩;have f:=Mof.wr (o:=.dK (putK es k v)) R2 r;exact⟨_,zh,((E.same g).put (U.rep.same g)).gen f λ_ m _=>m⟩
     .exact q.elim
    .exact q.elim
   |exc c fs=>exact id
   |wall=>exact id
  .exact q.elim
 |exc c fs=>exact id
 |wall=>exact id
def Uk(i:Nat)(mk f:ME):MS:=λc=>(f c).bind λv=>match c[i]? with
 |some (some (.l d))=>(mk c).bind λy=>match y with
  |.i k=>match ixN d.length k with
   |some j=>.ok (.nx (c.set i (some (.l (d.set j v)))))
   |none=>.wall
  |_=>.wall
 |_=>.wall
def fL(ho:PE X o (UJ i))(hk:EM X C S w a m1)(W:EM X C S false e m2)(s:S[i]?=some 2:=by rfl)
  (G:∀v,assign (.Subscript o a p) X.env v=(do
   let ov<-holding [v] (eval o X.env)
   let iv<-holding [v,ov] (eval a X.env)
   standAt p
   holding [v,ov,iv] (setItem ov iv v)
   release [v,ov,iv] []):=by intro _;rfl)
  (hs:swapsWithSole [.Subscript o a p] e pos.line X.env=pure false:=by rfl) (J:swappedStores [.Subscript o a p] e X.env=pure none:=by rfl) (N:(assignEach [.Subscript o a p] X.env).map (·.2)=[assign (.Subscript o a p) X.env]:=by rfl):
  SM X C S S Sb Sc (.Assign [.Subscript o a p] e pos) (Uk i m1 m2):=λF=>by
 obtain⟨ta,Q,K⟩:=hk F;obtain⟨tv,L,T⟩:=W F;refine⟨_,AZ L (Fy ho Q set_list G) hs J N,λB P H r g R D q=>T B P H r g R _ ?_⟩;unfold Uk at q;revert q;cases m2 g with
 |ok y=>
  intro q v M t Z;have n:=R.keep t;have q:wH C B S Sb Sc D (match g[i]? with
   |some (some (.l h))=>(m1 g).bind λz=>match z with
    |.i k=>match ixN h.length k with
     |some j=>.ok (.nx (g.set i (some (.l (h.set j y)))))
     |none=>.wall
    |_=>.wall
   |_=>.wall):=q
  split at q
  .rename_i h O;obtain⟨l,⟨E,hp,A⟩,U⟩:=n.at2 s O;refine⟨_,l,K B P M r g n _ ?_⟩;revert q;cases m1 g with
   |ok z=>
    intro q u H2 d I;have R2:=n.keep d;cases z with
    |i k=>
     have q:wH C B S Sb Sc D (match ixN h.length k with
      |some j=>.ok (.nx (g.set i (some (.l (h.set j y)))))
      |none=>.wall):=q
     split at q
     .rename_i j Y;refine⟨_,E,k,j,rfl,I,d _ _ hp,by rw[A.len];exact Y,q P _ r (R2.wr s U l (by exact id) ?_)⟩;have f:=Mof.wr (o:=.lst (E.set j v)) R2 s;exact⟨_,zh,(zX.set (Z.rep.same d) j (A.same d)).gen f λ_ m _=>m⟩
     .exact q.elim
    |_=>exact q.elim
   |exc c fs=>exact id
   |wall=>exact id
  .exact q.elim
 |exc c fs=>exact id
 |wall=>exact id
end
section
variable {X:Cx}{C:LC}{S S' S1 Sb Sc:Og}{e a b:Ot}{es:Oq}{m:ME}{pos p:Pos}{x:Str}{i:Nat}
abbrev MG:=PV->Sto->Option Sto
def LG(C:LC)(S S':Og)(g:TG)(mg:MG):Prop:=∀B P H f h x v,Rel C.W B S P H f h->Rep C.W (Mof B S P) H x v->∀Q:St->Hp->Prop,(∃d,mg x h=some d/\∀c,Rel C.W B S' P H c d->Q c H)->g v f H Q
def GM(X:Cx)(C:LC)(S S':Og)(tg:Ot)(mg:MG):Prop:=X.K=C.W.K->∃g,PG X tg g/\LG C S S' g mg
def gNm(i:Nat):MG:=λx c=>some (c.set i (some x))
def zW(d:X.N.Nodup)(c:X.N[i]?=some x)(f:Loc X.env.scope x)(hf:X.fn x=true\/X.env.scope.names.lookup x=some .local:=by first|exact .inl rfl|exact .inr rfl|assumption):GM X C S (S.set i 0) (.Name x pos) (gNm i):=
 λ_=>⟨_,nE d c f hf,λB P H h j x v R r Q ⟨g,e,k⟩=>by cases e;exact k _ (R.set r)⟩
abbrev MGs:=List PV->Sto->Option Sto
def LGs(C:LC)(S S':Og)(g:TGs)(mg:MGs):Prop:=∀B P H f h l j,Rel C.W B S P H f h->zX C.W (Mof B S P) H l j->∀Q:St->Hp->Prop,(∃d,mg l h=some d/\∀c,Rel C.W B S' P H c d->Q c H)->g j f H Q
def GsM(X:Cx)(C:LC)(S S':Og)(c:Oq)(mg:MGs):Prop:=X.K=C.W.K->∃g,PGs X c g/\LGs C S S' g mg
def Wf:MGs:=λc d=>match c with
 |[]=>some d
 |_=>none
def zY(g:MG)(f:MGs):MGs:=λh d=>match h with
 |x::r=>(g x d).bind λc=>f r c
 |[]=>none
def JY:GsM X C S S [] Wf:=λ_=>⟨_,Ck,λB P H f g c h R r Q ⟨d,e,k⟩=>by
 cases c with
 |nil=>cases e;cases r;exact⟨rfl,k _ R⟩
 |cons x c=>cases e⟩
def Mof.le{B:Bs}{S S':Og}{P:Oy}(h:∀j:Nat,S'[j]?=some 2->S[j]?=some 2){a:Addr}(m:Mof B S P a):Mof B S' P a:=⟨m.1,λj c=>m.2 j (h j c)⟩
def zU(E:GM X C S S1 e g)(L:GsM X C S1 S' es gs)(K:∀j:Nat,S1[j]?=some 2->S[j]?=some 2)(M:(assignEach (e::es) X.env).map (·.2)=assign e X.env::(assignEach es X.env).map (·.2):=by rfl):GsM X C S S' (e::es) (zY g gs):=λs=>by
 obtain⟨t,G,A⟩:=E s;obtain⟨u,D,I⟩:=L s;refine⟨_,uv G D M,λB P H J n f N R r Q ⟨c,e,k⟩=>?_⟩;cases f with
 |nil=>cases e
 |cons x f=>
  obtain⟨v,q,rfl,F,y⟩:=r;have e:(g x n).bind (λc=>gs f c)=some c:=e;cases l:g x n with
  |none=>rw[l]at e;cases e
  |some d=>rw[l]at e;exact⟨v,q,rfl,A B P H J n x v R F _ ⟨d,l,λh z=>I B P H h d f q z (y.sub λa m _=>Mof.le K m) Q ⟨c,e,k⟩⟩⟩
def gTp(n:Nat)(d:MGs):MG:=λx f=>match x with
 |.t c=>if c.length=n then d c f else none
 |_=>none
def JZ(z:X.calm=true)(h:GsM X C S S' es gs)(y:(assignEach es X.env).length=n:=by rfl)(g:(assignEach es X.env).findIdx? (·.1)=none:=by rfl):GM X C S S' (.Tuple es k pos) (gTp n gs):=λs=>by
 obtain⟨t,A,u⟩:=h s;refine⟨_,Fx z A y g,λB P H D l x v R r Q ⟨c,e,k⟩=>?_⟩;cases x with
 |t d=>
  obtain⟨p,q,rfl,hp,j⟩:=r;have e:(if d.length=n then gs d l else none)=some c:=e;by_cases f:d.length=n
  .rw[if_pos f]at e;exact⟨p,q,rfl,s▸hp,by rw[j.len];exact f,u B P H D l d q R j Q ⟨c,e,k⟩⟩
  .rw[if_neg f]at e;cases e
 |_=>cases e
def xf(g:MG)(m:ME):MS:=λd=>(m d).bind λx=>(wD (g x d)).bind λc=>.ok (.nx c)
def oV(h:EM X C S false e m)(G:GM X C S S' tg g)(M:swapsWithSole [tg] e pos.line X.env=pure false:=by rfl)(A:swappedStores [tg] e X.env=pure none:=by rfl)(J:(assignEach [tg] X.env).map (·.2)=[assign tg X.env]:=by rfl):SM X C S S' Sb Sc (.Assign [tg] e pos) (xf g m):=λz=>by
 obtain⟨N,K,F⟩:=h z;obtain⟨t,I,L⟩:=G z;refine⟨_,AZ K I M A J,λB P H y f R D q=>F B P H y f R _ ?_⟩;unfold xf at q;revert q;cases m f with
 |ok x=>
  intro q v u s r;have q:wH C B S' Sb Sc D ((wD (g x f)).bind λn=>.ok (.nx n)):=q;cases d:g x f with
  |some l=>rw[d]at q;exact L B P u y f x v (R.keep s) r.rep _ ⟨l,d,λj E=>q P u j E⟩
  |none=>rw[d]at q;exact q.elim
 |exc c fs=>exact id
 |wall=>exact id
def NA(B:Bs)(S:Og)(P:Oy):Addr->Prop:=λa=>¬B.xc a/\∀i,S[i]?=some 2->P i≠a
def C2(W:RC)(M N:Ol)(f:Hp)(J:It)(xs:OD):Prop:=∀d,Fr N f d->
 (∀i x,xs[i]?=some x->J.go i d/\∀v c,J.yld i d v c->zF d c/\∀g:Addr->Prop,(∀a,M a->f a≠none->g a)->Rep W g c x v)/\J.stop xs.length d
abbrev MI:=Sto->Out (List PV)
def NAc(c:Bool)(B:Bs)(S:Og)(P:Oy):Addr->Prop:=if c=true then λ_=>True else NA B S P
def oW(C:LC)(B:Bs)(S:Og)(P:Oy)(c:Bool)(H:Hp)(R:It->Hp->Prop):Out (List PV)->Prop
 |.ok f=>∀J d,zF H d->C2 C.W (Mof B S P) (NAc c B S P) d J f->R J d
 |.exc c fs=>XPo C B c fs
 |.wall=>False
def LI(C:LC)(S:Og)(c:Bool)(g:TI)(mi:MI):Prop:=∀B P H d f,Rel C.W B S P H d f->∀R:It->Hp->Prop,oW C B S P c H R (mi f)->g d H R
def IM(X:Cx)(C:LC)(S:Og)(c:Bool)(tg f:Ot)(mi:MI):Prop:=X.K=C.W.K->∃d,PI X tg f d/\LI C S c d mi
def j9(g:MG)(b:MS):List PV->Sto->Out Fw
 |[],d=>.ok (.nx d)
 |x::j,d=>(wD (g x d)).bind λh=>(b h).bind λf=>match f with
  |.nx c=>j9 g b j c
  |.ct c=>j9 g b j c
  |.bk c=>.ok (.nx c)
  |.rt v=>.ok (.rt v)
def Yk(mi:MI)(g:MG)(b:MS):MS:=λc=>(mi c).bind λd=>j9 g b d c
end
open Classical in
def Bs.loop(B:Bs)(S:Og)(P:Oy)(H:Hp)(hz:∀a,B.N0 a->(¬((∃i,S[i]?=some 2/\P i=a)\/B.xc a))/\H a≠none):Bs where
 H0:=λa=>if(∃i,S[i]?=some 2/\P i=a)\/B.xc a then none else H a
 M0:=B.Mt
 N0:=B.N0
 nz:=λa h=>by rw[if_neg (hz a h).1];exact(hz a h).2
 pin:=B.pin
 xc:=B.xc
section
variable {W:RC}{B:Bs}{S S':Og}{P P':Oy}{H H':Hp}{σ σ':St}{ρ ρ':Sto}
def Rel.hz(R:Rel W B S P H σ ρ):∀a,B.N0 a->(¬((∃i,S[i]?=some 2/\P i=a)\/B.xc a))/\H a≠none:=λa h=>by
 have b:=B.nz a h;refine⟨λz=>z.elim (λ⟨i,c,e⟩=>b (e▸(R.act i c).1)) (λz=>b (R.exc a z).choose_spec.2.2),λz=>?_⟩;cases q:B.H0 a with
 |none=>exact b q
 |some o=>rw[R.same a o q]at z;cases z
def J3(R:Rel W B S P H σ ρ)(h:(B.loop S P H R.hz).H0 a=none):B.H0 a=none:=by
 cases q:B.H0 a with
 |none=>rfl
 |some o=>have n:¬((∃i,S[i]?=some 2/\P i=a)\/B.xc a):=λz=>z.elim (λ⟨i,b,e⟩=>by rw[<- e,(R.act i b).1]at q;cases q) (λz=>by rw[(R.exc a z).choose_spec.2.2]at q;cases q);unfold Bs.loop at h;dsimp only at h;rw[if_neg n,R.same a o q]at h;cases h
def J6(R:Rel W B S P H σ ρ):zF B.H0 (B.loop S P H R.hz).H0:=λa o h=>by have n:¬((∃i,S[i]?=some 2/\P i=a)\/B.xc a):=λz=>z.elim (λ⟨i,b,e⟩=>by rw[<- e,(R.act i b).1]at h;cases h) (λz=>by rw[(R.exc a z).choose_spec.2.2]at h;cases h);unfold Bs.loop;dsimp only;rw[if_neg n];exact R.same a o h
def Xa(R:Rel W B S P H σ ρ)(h:(B.loop S P H R.hz).Mt a):B.Mt a:=h.elim id λz=>.inr (J3 R z)
def Rel.loop(R:Rel W B S P H σ ρ):Rel W (B.loop S P H R.hz) S P H σ ρ:=by
 have sM:∀a,Mof B S P a->H a≠none->Mof (B.loop S P H R.hz) S P a:=λa m _=>⟨⟨.inl m.1.1,m.1.2⟩,m.2⟩;refine⟨λa o h=>?_,R.len,λi x e=>?_,λi b=>⟨?_,(R.act i b).2⟩,R.inj,R.pin,λa h=>?_,R.axc⟩
 .unfold Bs.loop at h;dsimp only at h;split at h
  .cases h
  .exact h
 .obtain⟨v,j,c,f,g⟩:=R.var i x e;exact⟨v,j,λz=>⟨(c z).1,(c z).2.gen rfl Fr.refl sM⟩,λz=>(f z).sub (λ_ m _=>m) sM,λz d=>(g z d).sub sM⟩
 .unfold Bs.loop;dsimp only;rw[if_pos (.inl ⟨i,b,rfl⟩)]
 .obtain⟨o,e,n,_⟩:=R.exc a h;exact⟨o,e,n,by unfold Bs.loop;dsimp only;rw[if_pos (.inr h)]⟩
def Rel.c7(R:Rel W B S P H σ ρ)(b:Rel W (B.loop S P H R.hz) S' P' H' σ' ρ'):Rel W B S' P' H' σ' ρ':=by have sM:∀a,Mof (B.loop S P H R.hz) S' P' a->H' a≠none->Mof B S' P' a:=λa m _=>⟨⟨Xa R m.1.1,m.1.2⟩,m.2⟩;refine⟨(J6 R).trans b.same,b.len,λi x e=>?_,λi c=>⟨J3 R (b.act i c).1,(b.act i c).2⟩,b.inj,b.pin,λa h=>let⟨o,e,n⟩:=b.exc a h;⟨o,e,n.1,J3 R n.2⟩,b.axc⟩;obtain⟨v,l,d,g,j⟩:=b.var i x e;exact⟨v,l,λz=>⟨(d z).1,(d z).2.gen rfl Fr.refl sM⟩,λz=>(g z).sub (λ_ m _=>m) sM,λz f=>(j z f).sub sM⟩
def C3(R:Rel W B S P H σ ρ)(s:zF (B.loop S P H R.hz).H0 H'):Fr (NA B S P) H H':=λa o h m=>by
 have n:¬((∃i,S[i]?=some 2/\P i=a)\/B.xc a):=λz=>by
  rcases z with⟨i,d,e⟩|z
  .rcases m with m|m
   .exact m.2 i d e
   .obtain⟨_,f,b,c⟩:=R.act i d;rw[e,h]at b;cases b;exact c m
  .rcases m with m|m
   .exact m.1 z
   .obtain⟨f,b,c,_⟩:=R.exc a z;rw[h]at b;cases b;exact c m
 refine s a o ?_;unfold Bs.loop;dsimp only;rw[if_neg n];exact h
def ib(hW:C.W=W)(R:Rel W B S P H σ ρ)(q:XPo C B c fs):XPo C (B.loop S P H R.hz) c fs:=λe g f d s h i b=>q e g f d ((J6 R).trans s) h i (b.sub λa m _=>Xa R m)
def oX(hW:C.W=W)(R:Rel W B S P H σ ρ)(h:xb C (B.loop S P H R.hz) H' x v):xb C B H' x v:=by
 unfold xb at h ⊢;by_cases f:C.fr=true
 .rw[if_pos f]at h ⊢;obtain⟨p,e,hp,r⟩:=h;exact⟨p,e,J3 R hp,r.gen rfl Fr.refl λa m _=>⟨Xa R m.1,m.2⟩⟩
 .rw[if_neg f]at h ⊢;exact h.sub λa m _=>Xa R m
end
def aI(hi:∀R:It->Hp->Prop,oW C B S P false H R (mi ρ)->wi σ H R)(T:LG C S S1 g mg)(hb:LS C S1 S S S tb mb)(R:Rel C.W B S P H σ ρ)(D:Ends)(q:wH C B S Sb Sc D (Yk mi mg mb ρ)):Fz wi g tb D σ H:=by
 refine hi _ ?_;unfold Yk at q;revert q;cases mi ρ with
 |exc c fs=>exact id
 |wall=>exact id
 |ok o=>
  intro q J N s2 io;have R2:=R.keep s2;have q:=q;refine⟨λi n r M=>n=o.length-i/\i<=o.length/\∃l t,Rel C.W (B.loop S P N R2.hz) S t M r l/\wH C B S Sb Sc D (j9 mg mb (o.drop i) l),⟨_,rfl,a0c _,ρ,P,R2.loop,q⟩,?_⟩
  rintro i n r M ⟨rfl,W,l,t,L,d⟩
  have K:=io M (C3 R2 L.same);by_cases s:i<o.length
  .have hx:=O3 s;obtain⟨go,yl⟩:=K.1 i _ hx;refine .inr ⟨go,λF G=>i+1<=o.length/\∃l t,Rel C.W (B.loop S P N R2.hz) S t G F l/\wH C B S Sb Sc D (j9 mg mb (o.drop (i+1)) l),λF G h=>⟨o.length-(i+1),by omega,rfl,h.1,h.2⟩,λv u hy=>?_⟩;obtain⟨X,ry⟩:=yl v u hy;have Ry:=L.keep X;have rx:=ry (Mof (B.loop S P N R2.hz) S t) λa m U=>⟨⟨.inl m.1.1,m.1.2⟩,λj hj e=>by
    have z:=(L.act j hj).1;rw[e]at z;unfold Bs.loop at z;dsimp only at z;rw[if_neg (λz=>z.elim (λ⟨k,hk,ek⟩=>m.2 k hk ek) m.1.2)]at z;exact U z⟩
   rw[a0G s]at d;have d:wH C B S Sb Sc D ((wD (mg o[i] l)).bind λp=>(mb p).bind λf=>match f with
    |.nx b=>j9 mg mb (o.drop (i+1)) b
    |.ct b=>j9 mg mb (o.drop (i+1)) b
    |.bk b=>.ok (.nx b)
    |.rt v=>.ok (.rt v)):=d
   cases w:mg o[i] l with
   |none=>rw[w]at d;exact d.elim
   |some p=>
    rw[w]at d;refine T _ t u r l _ v Ry rx _ ⟨p,w,λO Z=>hb _ t u O p Z _ ?_⟩;have d:wH C B S Sb Sc D ((mb p).bind λf=>match f with
     |.nx b=>j9 mg mb (o.drop (i+1)) b
     |.ct b=>j9 mg mb (o.drop (i+1)) b
     |.bk b=>.ok (.nx b)
     |.rt v=>.ok (.rt v)):=d
    revert d;cases mb p with
    |exc c fs=>exact λd=>ib rfl R2 d
    |wall=>exact id
    |ok f=>
     cases f with
     |nx b=>exact λd E I y A=>⟨s,b,E,A,d⟩
     |ct b=>exact λd E I y A=>⟨s,b,E,A,d⟩
     |bk b=>exact λd E I y A=>d E I y (R2.c7 A)
     |rt x=>exact λd v I Q Y=>d v I ((J6 R2).trans Q) (oX rfl R2 Y)
  .have e:i=o.length:=by omega
   subst e;rw[a1W]at d;exact .inl ⟨K.2,d t M r (R2.c7 L)⟩
def GA(d:LI C S false wi mi)(e:LG C S S1 g mg)(b:LS C S1 S S S tb mb):LS C S S Sb Sc (Fz wi g tb) (Yk mi mg mb):=λB P H a c R D q=>aI (d B P H a c R) e b R D q
def ZW(hp:PassesOwn (Px X) X.A X.env X.xe)(e:X.calm=true)(l:IM X C S false tg qd mi)(m:GM X C S S1 tg mg)(h:SsM X C S1 S S S body mb)(c:∀x,foldedSetIterable qd X.env x=pure x:=by intro _;rfl):
  SM X C S S Sb Sc (.For tg qd body [] pos) (Yk mi mg mb):=λa=>by
 obtain⟨p,n,i⟩:=l a;obtain⟨g,d,b⟩:=m a;obtain⟨o,j,f⟩:=h a;exact⟨_,gS hp e n d j c,GA i b f⟩
def LEn(C:LC)(S:Og)(c:TE)(m:ME):Prop:=∀B P H a b,Rel C.W B S P H a b->∀Q,z_ C B H (λd=>yI C.W (NA B S P) (Mof B S P) d) Q (m b)->c a H Q
def EN(X:Cx)(C:LC)(S:Og)(e:Ot)(m:ME):Prop:=X.K=C.W.K->∃a,PE X e a/\LEn C S a m
section
variable {X:Cx}{C:LC}{S:Og}{e a b o tg:Ot}{w:Bool}{ws:Ou}{m:ME}{ms:MA}{s1:MS}{pos p:Pos}{x:Str}{i:Nat}
def Mof.na{B:Bs}{P:Oy}{a:Addr}(m:Mof B S P a):NA B S P a:=⟨m.1.2,m.2⟩
def EM.en(h:EM X C S false e m):EN X C S e m:=λl=>by obtain⟨j,n,g⟩:=h l;exact⟨j,n,λB P H d f R Q q=>g B P H d f R Q (Zj q λx v r s c=>yI.sub c (λa m _=>Mof.na m) λ_ m _=>m)⟩
def oY(h:PE X e (UJ i))(r:S[i]?=some 1:=by rfl):EN X C S e (zc i):=λ_=>⟨_,h,λB P H u t R Q q=>lv R q λx v g e=>by
 obtain⟨s,c,_,f,_⟩:=R.var i x e;rw[g]at c;cases c;refine yI.sub (f r) (λa n _=>?_) λ_ m _=>m;have d:=B.nz a n;exact⟨λz=>d (R.exc a z).choose_spec.2.2,λj l e=>d (e▸(R.act j l).1)⟩⟩
def M_(K:OL)(g:TE):TI:=λf H R=>g f H λx c=>(∃a,x=.ref a/\(∃d,SqL K c a d)/\R (Itl K a) c)\/∃a,x=.ref a/\(∃d,SqT K c a d)/\R (Itt K a) c
def oZ(y:PE X l tl):PI X tg l (M_ X.K tl):=by
 intro f s z H R I h;refine thn (y f s z H _ I h) λv s1 ⟨x,n,c,r,t⟩=>?_;rcases t with⟨a,e,⟨u,j⟩,q⟩|⟨a,e,⟨u,j⟩,q⟩
 .subst e;cases r;obtain⟨d,A,p,hz⟩:=c.list j;refine a2j p.isList ?_;refine⟨s1.heap.objs.size,[s1.heap.objs.size],_,_,n,rfl,c.kept (t':=s1.toks) λb o e=>O0 _ e,nF a _,⟨_,P9 _ rfl,rfl,rfl⟩,λb g=>?_,q⟩;have e:b=s1.heap.objs.size:=by simpa using g
  subst e;exact c.E5 (O2 _) (c.hok.fresh (O2 _))
 .subst e;cases r;obtain⟨d,A,p,hz⟩:=c.tuple j;refine wpAny_pyIter_tuple (show s1.heap.IsTuple a d.toArray from p) ?_;refine⟨s1.heap.objs.size,[s1.heap.objs.size],_,_,n,rfl,c.kept (t':=s1.toks) λb o e=>O0 _ e,lM a _,⟨_,P9 _ rfl,rfl,rfl⟩,λb g=>?_,q⟩;have e:b=s1.heap.objs.size:=by simpa using g
  subst e;exact c.E5 (O2 _) (c.hok.fresh (O2 _))
def o8{W:RC}{K:OL}{M N:Ol}{d:Hp}{a:Addr}{xs:OD}{vs:Ow}(g:∀a,M a->N a)(h:∀c,Fr N d c->SqL K c a vs)(r:zX W M d xs vs):C2 W M N d (Itl K a) xs:=λc f=>by refine⟨λi x t=>?_,vs,h c f,by rw[r.len];exact O2 _⟩;obtain⟨v,j,q⟩:=r.get t;refine⟨⟨vs,v,h c f,j⟩,λu l s=>?_⟩;obtain⟨rfl,y⟩:=s;have:=y vs (h _ f);rw[j]at this;cases this;exact⟨zF.refl _,λz sM=>Rep.gen (λa o h m=>f a o h (m.imp (g a) id)) (λa m n=>sM a m n) q⟩
def GB{W:RC}{K:OL}{M N:Ol}{d:Hp}{a:Addr}{xs:OD}{vs:Ow}(g:∀a,M a->N a)(h:∀c,Fr N d c->SqT K c a vs)(r:zX W M d xs vs):C2 W M N d (Itt K a) xs:=λc f=>by refine⟨λi x t=>?_,vs,h c f,by rw[r.len];exact O2 _⟩;obtain⟨v,j,q⟩:=r.get t;refine⟨⟨vs,v,h c f,j⟩,λu l s=>?_⟩;obtain⟨rfl,y⟩:=s;have:=y vs (h _ f);rw[j]at this;cases this;exact⟨zF.refl _,λz sM=>Rep.gen (λa o h m=>f a o h (m.imp (g a) id)) (λa m n=>sM a m n) q⟩
def items:PV->Out (List PV)
 |.l c=>.ok c
 |.t c=>.ok c
 |.sc d=>.ok (d.map PV.i)
 |_=>.wall
def z8(m:ME):MI:=λc=>(m c).bind items
variable {cc:Bool}
def Mof.nac{B:Bs}{P:Oy}{a:Addr}(m:Mof B S P a):NAc cc B S P a:=by
 unfold NAc;cases cc with
 |true=>trivial
 |false=>exact Mof.na m
def o_(A:X.K=C.W.K)(E:∀B P H h g,Rel C.W B S P H h g->∀Q,z_ C B H (λd=>yI C.W (NAc cc B S P) (Mof B S P) d) Q (m g)->te h H Q):LI C S cc (M_ X.K te) (z8 m):=λB P H h g R Q q=>by
 refine E B P H h g R _ ?_;unfold z8 at q;revert q;cases m g with
 |exc c fs=>exact id
 |wall=>exact id
 |ok y=>
  intro q v d s r;cases y with
  |l F=>obtain⟨p,j,rfl,n,hp,u⟩:=r;exact .inl ⟨p,rfl,⟨j,SqL.of hp⟩,q _ d s (o8 (λa m=>Mof.nac m) (λz f=>SqL.of (f _ _ hp (.inl n))) u)⟩
  |t F=>obtain⟨p,j,rfl,hp,u⟩:=r;rw[<- A]at hp;exact .inr ⟨p,rfl,⟨j,hp⟩,q _ d s (GB (λa m=>Mof.nac m) (λz f=>f.sqT hp) u)⟩
  |sc D=>obtain⟨p,rfl,hp⟩:=r;rw[<- A]at hp;exact .inl ⟨p,rfl,⟨_,hp.sq⟩,q _ d s (o8 (λa m=>Mof.nac m) (λz f=>(hp.frame f).sq) zX.ints)⟩
  |_=>exact q.elim
def c8(h:EN X C S e m):IM X C S false tg e (z8 m):=λc=>by obtain⟨g,f,d⟩:=h c;exact⟨_,oZ f,o_ c d⟩
def q_(h:EM X C S w e m):IM X C S true tg e (z8 m):=λc=>by obtain⟨n,j,g⟩:=h c;exact⟨_,oZ j,o_ c λB P H d f R Q q=>g B P H d f R Q (Zj q λx v l s r=>r.weak)⟩
def ic(c:Int)(n:Nat):List PV:=(List.range n).map λk=>.i (c+(k:Nat))
def C4{g:Int}{n i:Nat}{x:PV}(h:(ic g n)[i]?=some x):i<n/\x=.i (g+i):=by unfold ic at h;rw[S5]at h;obtain⟨k,d,rfl⟩:=v1.mp h;rw[P5]at d;obtain⟨c,f⟩:=d;rw[a0p]at c;rw[a2a]at f;subst f;exact⟨c,rfl⟩
def C5{c:Int}{n:Nat}:(ic c n).length=n:=by unfold ic;rw[u8,a0p]
def Bl{W:RC}{M N:Ol}{g:Hp}{c:Int}{n:Nat}:C2 W M N g (Itr c n) (ic c n):=λq f=>by refine⟨λi x l=>?_,by rw[C5];exact O2 _⟩;obtain⟨h,rfl⟩:=C4 l;refine⟨h,λv d j=>?_⟩;obtain⟨rfl,rfl⟩:=j;exact⟨zF.refl _,λ_ _=>rfl⟩
def pd:List PV->Out (List PV)
 |[.i n]=>if -(2 ^ 62)<=n/\n<2 ^ 62 then .ok (ic 0 n.toNat)else .wall
 |_=>.wall
def pe:List PV->Out (List PV)
 |[.i a,.i b]=>if -(2 ^ 62)<=a/\a<2 ^ 62/\-(2 ^ 62)<=b/\b<2 ^ 62 then .ok (ic a (b-a).toNat)else .wall
 |_=>.wall
def Yl(ms:MA):MI:=λc=>(ms c).bind pd
def pf(ms:MA):MI:=λc=>(ms c).bind pe
def Zy(n:Gl X "range")(l:X.mg "range"=none)(g:AM X C S ws [a] ms)(D:starEach [a] X.env=[(false,eval a X.env)]:=by rfl):IM X C S cc tg (.Call (.Name "range" p) [a] [] pos) (Yl ms):=λE=>by
 obtain⟨F,y,j⟩:=g E;refine⟨_,nG n l y D,λB P H A f R Q q=>j B P H A f R _ ?_⟩;unfold Yl at q;revert q;cases ms f with
 |exc c fs=>exact id
 |wall=>exact id
 |ok t=>
  intro q I h s r;have r:=r.weak;have q:oW C B S P cc H Q (pd t):=q;unfold pd at q;split at q
  .split at q
   .rename_i d;obtain⟨v,G,rfl,u,z⟩:=r;cases z;cases u;exact⟨_,rfl,d.1,d.2,q _ h s Bl⟩
   .exact q.elim
  .exact q.elim
def C6(t:Gl X "range")(n:X.mg "range"=none)(h:AM X C S ws [a,b] ms)(F:starEach [a,b] X.env=[(false,eval a X.env),(false,eval b X.env)]:=by rfl)(f:starEach [b] X.env=[(false,eval b X.env)]:=by rfl):IM X C S cc tg (.Call (.Name "range" p) [a,b] [] pos) (pf ms):=λG=>by
 obtain⟨J,A,l⟩:=h G;refine⟨_,nH t n A F f,λB P H E g R Q q=>l B P H E g R _ ?_⟩;unfold pf at q;revert q;cases ms g with
 |exc c fs=>exact id
 |wall=>exact id
 |ok y=>
  intro q L j s r;have r:=r.weak;have q:oW C B S P cc H Q (pe y):=q;unfold pe at q;split at q
  .split at q
   .rename_i u;obtain⟨v,K,rfl,z,I,M,rfl,d,D⟩:=r;cases D;cases z;cases d;exact⟨_,_,rfl,u,q _ j s Bl⟩
   .exact q.elim
  .exact q.elim
end
def noX{a:Type}:Out a->Out a
 |.exc _ _=>.wall
 |o=>o
def lcP(g:MG)(c:MT)(e:ME):List PV->Sto->List PV->Out PV
 |[],_,a=>.ok (.l a)
 |x::d,f,a=>(wD (g x f)).bind λb=>(noX (c b)).bind λt=>if t=true then(noX (e b)).bind λy=>if a.length<sizeLine then lcP g c e d b (a++[y])else .wall else lcP g c e d b a
def Xb(ρ:Sto)(fr:OF):Sto:=fr.map λo=>match o with|none=>none|some j=>(ρ[j]?).join
def mLC(mi:MI)(fr:OF)(g:MG)(c:MT)(e:ME):ME:=λa=>(mi a).bind λb=>lcP g c e b (Xb a fr) []
def bX:MT:=λ_=>.ok true
def inS(S:Og)(fr:OF):List Nat:=fr.map λo=>match o with|none=>0|some j=>if S[j]?=some 2\/S[j]?=some 1 then 1 else 0
def lcB(B:Bs)(S:Og)(P:Oy)(H:Hp)(acc:Addr):Bs:=⟨H,Mof B S P,λa=>H a≠none,λ_ h=>h,none,λa=>a=acc⟩
def ph{S:Og}{fr:OF}{k c:Nat}(h:(inS S fr)[k]?=some c):c≠2:=by
 unfold inS at h;rw[S5]at h;obtain⟨o,a,e⟩:=v1.mp h;intro z;rw[z]at e;cases o with
 |none=>cases e
 |some j=>dsimp only at e;split at e<;>cases e
section
variable {X:Cx}{C:LC}{S S1 Sb Sc:Og}{e a o qd tg elt:Ot}{ifs:Oq}{w:Bool}{m me:ME}{t1 mc:MT}{mg:MG}{mi:MI}{s1:MS}{pos:Pos}{x:Str}{i:Nat}{scope:Scope}
def Rel.comp{W:RC}{B:Bs}{P:Oy}{H H':Hp}{σ:St}{ρ:Sto}{acc:Addr}{fr:OF}{ys:Ow}(R:Rel W B S P H σ ρ)(r:H acc=none)(s:zF H H')(G:H' acc=some (.lst ys)):Rel W (lcB B S P H acc) (inS S fr) (λ_=>0) H' (uc σ fr) (Xb ρ fr):=by
 have f:∀{k:Nat},(inS S fr)[k]?=some 2->False:=λ{k} h=>ph h rfl;have sM:∀a,Mof B S P a->H a≠none->Mof (lcB B S P H acc) (inS S fr) (λ_=>0) a:=λa m n=>⟨⟨.inl m,λz=>n (z▸r)⟩,λi d=>(f d).elim⟩;refine⟨s,by unfold uc Xb;rw[u8,u8],λk x e=>?_,λi d=>(f d).elim,λi j d=>(f d).elim,λd=>(f d).elim,λa h=>?_,λi d=>(f d).elim⟩
 .unfold Xb at e;rw[S5]at e;obtain⟨o,y,e⟩:=v1.mp e;cases o with
  |none=>cases e
  |some j=>
   have e:(ρ[j]?).join=some x:=e;have E:ρ[j]?=some (some x):=by
    cases q:ρ[j]? with
    |none=>rw[q]at e;cases e
    |some z=>rw[q]at e;cases z with
     |none=>cases e
     |some z=>cases e;rfl
   obtain⟨v,D,I,A,F⟩:=R.var j x E;have u:(inS S fr)[k]?=some (if S[j]?=some 2\/S[j]?=some 1 then 1 else 0):=by unfold inS;rw[S5,y];rfl
   refine⟨v,by unfold uc;rw[S5,y];show some ((σ[j]?).join)=_;rw[D];rfl,λz=>(f z).elim,λz=>?_,λz l=>?_⟩
   .rw[u]at z;by_cases g:S[j]?=some 2
    .obtain⟨rfl,J⟩:=I g;obtain⟨_,o,K,_⟩:=R.act j g;exact((J.IP (N:=λa=>H a≠none) (by grind)).sub (λ_ m _=>m) sM).same s
    .by_cases t:S[j]?=some 1
     .exact((A t).sub (λa n q=>(R.hz a n).2) sM).same s
     .rw[if_neg (by grind)]at z;cases z
   .rw[u]at l;by_cases c:S[j]?=some 2\/S[j]?=some 1
    .rw[if_pos c]at l;exact absurd rfl l
    .exact((F (λq=>c (.inl q)) (λq=>c (.inr q))).sub sM).same s
 .cases h;exact⟨_,G,id,r⟩
def TsM(X:Cx)(C:LC)(S:Og)(ifs:Oq)(m:MT):Prop:=X.K=C.W.K->∃c,PTs X ifs c/\LT C S c m
def Zk:TsM X C S [] bX:=λ_=>⟨_,CJ,λB P H c d R Q q=>q H (zF.refl _)⟩
def UR(h:TM X C S c t1):TsM X C S [c] t1:=λd=>let⟨tt,a1,a2⟩:=h d;⟨tt,CK a1,a2⟩
def K8{j:Type}{Y:j->Cx}(h:∀z,EM (Y z) C S w e m)(f:∀z,(Y z).K=C.W.K):∃g,(∀z,PE (Y z) e g)/\LE C S w g m:=
 ⟨λc H Q=>∀z,(Classical.choose (h z (f z))) c H Q,λz d s c H Q I q=>(a0j (h z (f z))).1 d s c H Q I (q z),λB P H c l R Q q z=>(a0j (h z (f z))).2 B P H c l R Q q⟩
def K9{j:Type}{Y:j->Cx}(h:∀z,TsM (Y z) C S ifs mc)(f:∀z,(Y z).K=C.W.K):∃g,(∀z,PTs (Y z) ifs g)/\LT C S g mc:=
 ⟨λc H Q=>∀z,(Classical.choose (h z (f z))) c H Q,λz d s c H Q I q=>(a0j (h z (f z))).1 d s c H Q I (q z),λB P H c l R Q q z=>(a0j (h z (f z))).2 B P H c l R Q q⟩
def K_{l:Type}{Y:l->Cx}(h:∀z,GM (Y z) C S S1 tg mg)(f:∀z,(Y z).K=C.W.K):∃g,(∀z,PG (Y z) tg g)/\LG C S S1 g mg:=
 ⟨λv c H Q=>∀z,(Classical.choose (h z (f z))) v c H Q,λz d s c H v u Q I r q=>(a0j (h z (f z))).1 d s c H v u Q I r (q z),λB P H c j x v R r Q q z=>(a0j (h z (f z))).2 B P H c j x v R r Q q⟩
def fO{wi:TI}{g:TG}{tc:TT}{te:TE}{fr:OF}{Si:Og}{W:RC}{B:Bs}{P:Oy}{H:Hp}{σ:St}{ρ:Sto}(hi:∀R:It->Hp->Prop,oW C B S P true H R (mi ρ)->wi σ H R)(hW:W=C.W)(hS:Si=inS S fr)(hg:LG ⟨W,E0,false⟩ Si Si g mg)(ht:LT ⟨W,E0,false⟩ Si tc mc)(he:LE ⟨W,E0,false⟩ Si false te me)(R:Rel C.W B S P H σ ρ)(Q:VK)(q:z_ C B H (RFr C.W (Mof B S P) H) Q (mLC mi fr mg mc me ρ)):tLC wi g tc te fr σ H Q:=by
 subst hW hS;refine hi _ ?_;unfold mLC at q;revert q;cases mi ρ with
 |exc c fs=>exact id
 |wall=>exact id
 |ok s=>
  intro q J K s1 io d ha;have R1:=R.keep s1;have q:=q;have sM:∀a,Mof (lcB B S P K d) (inS S fr) (λ_=>0) a->Mof B S P a/\a≠d:=λa m=>⟨m.1.1.elim id λn=>R1.new a n,m.1.2⟩;refine⟨λi n L O=>n=s.length-i/\i<=s.length/\∃r u E,Rel C.W (lcB B S P K d) (inS S fr) (λ_=>0) O L r/\O d=some (.lst E)/\zX C.W (Mof (lcB B S P K d) (inS S fr) (λ_=>0)) O u E/\z_ C B H (RFr C.W (Mof B S P) H) Q (lcP mg mc me (s.drop i) r u),
   ⟨_,rfl,a0c _,Xb ρ fr,[],[],R1.comp ha (zF.upd ha) zh,zh,rfl,q⟩,?_⟩
  rintro i n L O ⟨rfl,hle,r,u,E,R',I,U,l⟩
  have io':=io O (zF.fr R'.same);by_cases F:i<s.length
  .have hx:=O3 F;obtain⟨go,yl⟩:=io'.1 i _ hx;refine .inr ⟨go,λY G=>i+1<=s.length/\∃r u E,Rel C.W (lcB B S P K d) (inS S fr) (λ_=>0) G Y r/\G d=some (.lst E)/\zX C.W (Mof (lcB B S P K d) (inS S fr) (λ_=>0)) G u E/\z_ C B H (RFr C.W (Mof B S P) H) Q (lcP mg mc me (s.drop (i+1)) r u),λY G h=>⟨s.length-(i+1),by omega,rfl,h.1,h.2⟩,λv M hy=>?_⟩;obtain⟨sy,ry⟩:=yl v M hy;have Ry:=R'.keep sy;have rx:=ry (Mof (lcB B S P K d) (inS S fr) (λ_=>0)) λa m hn=>⟨⟨.inl m,λz=>hn (z▸ha)⟩,λj hj=>(ph hj rfl).elim⟩;rw[a0G F]at l;unfold lcP at l;cases N:mg s[i] r with
   |none=>rw[N]at l;exact l.elim
   |some f=>
    rw[N]at l;refine hg _ _ M L r _ v Ry rx _ ⟨f,N,λZ T=>ht _ _ M Z f T _ ?_⟩;have l:z_ C B H (RFr C.W (Mof B S P) H) Q ((noX (mc f)).bind λt=>if t=true then(noX (me f)).bind λy=>if u.length<sizeLine then lcP mg mc me (s.drop (i+1)) f (u++[y])else .wall else lcP mg mc me (s.drop (i+1)) f u):=l;revert l;cases mc f with
    |exc c fs=>exact λl=>l.elim
    |wall=>exact id
    |ok t=>
     intro l H5 s5;have R5:=T.keep s5;have A:=s5 _ _ (sy _ _ I);have D:=(U.same sy).same s5;cases t with
     |false=>exact A9 ⟨F,f,u,E,R5,A,D,l⟩
     |true=>
      refine A_ (he _ _ H5 Z f R5 _ ?_);have l:=l;revert l;cases me f with
      |exc c fs=>exact λl=>l.elim
      |wall=>exact id
      |ok y=>
       intro l v6 H6 s6 r6;have l:=l;split at l
       .rename_i hz;have R6:=R5.keep s6;have fr6:Fr (Mof (lcB B S P K d) (inS S fr) (λ_=>0)) H6 (upd H6 d (.lst (E++[v6]))):=λa o h m=>by
         have:a≠d:=λz=>by
          rcases m with m|m
          .exact m.1.2 z
          .rw[z,s6 _ _ A]at h;cases h;exact m
         rw[zj this];exact h
        exact⟨E,s6 _ _ A,by rw[D.len];exact hz,F,f,u++[y],E++[v6],R6.wrx (show(lcB B S P K d).xc d from rfl) (by exact id),zh,((D.same s6).append (.cons r6.rep .nil)).gen fr6 λ_ m _=>m,l⟩
       .exact l.elim
  .have e:i=s.length:=by omega
   subst e;rw[a1W]at l;exact .inl ⟨io'.2,l _ O (s1.trans R'.same) ⟨d,rfl,zF.none s1 ha,E,I,U.sub λa m _=>sM a m⟩⟩
def xg{f:TI}{g:TG}{h:TT}{d:TE}{fr:OF}{c:Og}{W:RC}(r:LI C S true f mi)(hW:W=C.W)(t:c=inS S fr)(s:LG ⟨W,E0,false⟩ c c g mg)(n:LT ⟨W,E0,false⟩ c h mc)(he:LE ⟨W,E0,false⟩ c false d me):LFr C S (tLC f g h d fr) (mLC mi fr mg mc me):=λB P H j l R Q q=>fO (r B P H j l R) hW t s n he R Q q
abbrev CI:=List Addr×List (Addr×Obj)×Shared×Hp×Addr
abbrev cxI(X:Cx)(scope:Scope)(N:Oj)(z:CI):Cx:=qA X scope N z.1 z.2.1 z.2.2.1 z.2.2.2.1 z.2.2.2.2
def Va(N:Oj)(fr:OF)(f:Og)(r:X.calm=true)(j:l5 X scope N fr=true)(E:IM X C S true tg qd mi)(n:∀z:CI,GM (cxI X scope N z) ⟨C.W,E0,false⟩ f f tg mg)(u:∀z:CI,TsM (cxI X scope N z) ⟨C.W,E0,false⟩ f ifs mc)(he:∀z:CI,EM (cxI X scope N z) ⟨C.W,E0,false⟩ f false elt me)(F:f=inS S fr:=by rfl)
  (G:∀x,foldedSetIterable qd X.env x=pure x:=by intro _;rfl):FM X C S (.ListComp elt [⟨tg,qd,ifs,0⟩] scope pos) (mLC mi fr mg mc me):=λh=>by
 obtain⟨I,y,l⟩:=E h;obtain⟨g,q,A⟩:=K_ n λ_=>h;obtain⟨J,D,B⟩:=K9 u λ_=>h;obtain⟨K,v,t⟩:=K8 he λ_=>h;exact⟨_,F6 N fr r j y (λc d s H L=>q ⟨c,d,s,H,L⟩) (λc d s H L=>D ⟨c,d,s,H,L⟩) (λc d s H L=>v ⟨c,d,s,H,L⟩) G,xg l rfl F A B t⟩
variable {y:Str}{bW py:Pos}
def GC(N:Oj)(fr:OF)(f:Og)(Q:X.N.Nodup)(M:X.N[i]?=some y)(F:X.env.scope.names.lookup y=some .local)(u:X.calm=true)(n:l5 X scope N fr=true)(K:IM X C S true tg qd mi)(r:∀z:CI,GM (cxI X scope N z) ⟨C.W,E0,false⟩ f f tg mg)(B:∀z:CI,TsM (cxI X scope N z) ⟨C.W,E0,false⟩ f ifs mc)(he:∀z:CI,EM (cxI X scope N z) ⟨C.W,E0,false⟩ f false elt me)(O:f=inS S fr:=by rfl)(l:i<S.length:=by decide)(A:i≠0:=by decide)
  (j:swapsWith (.ListComp elt [⟨tg,qd,ifs,0⟩] scope pos) (some (.Name y py)) bW.line X.env=pure true:=by rfl) (P:∀x,foldedSetIterable qd X.env x=pure x:=by intro _;rfl):SM X C S (S.set i 2) Sb Sc (.Assign [.Name y py] (.ListComp elt [⟨tg,qd,ifs,0⟩] scope pos) bW) (yH i (mLC mi fr mg mc me)):=λh=>by
 obtain⟨R,E,q⟩:=K h;obtain⟨g,t,G⟩:=K_ r λ_=>h;obtain⟨T,J,I⟩:=K9 B λ_=>h;obtain⟨U,D,v⟩:=K8 he λ_=>h;exact⟨_,uS N fr Q M F u n E (λc d s H L=>t ⟨c,d,s,H,L⟩) (λc d s H L=>J ⟨c,d,s,H,L⟩) (λc d s H L=>D ⟨c,d,s,H,L⟩) j P,oS (xg q rfl O G I v) l A⟩
def L8(N:Oj)(fr:OF)(f:Og)(hN:X.N.Nodup)(W:X.N[i]?=some y)(I:X.env.scope.names.lookup y=some .local)(u:X.calm=true)(l:l5 X scope N fr=true)(U:IM X C S true tg qd mi)(r:∀z:CI,GM (cxI X scope N z) ⟨C.W,E0,false⟩ f f tg mg)(E:∀z:CI,TsM (cxI X scope N z) ⟨C.W,E0,false⟩ f ifs mc)(he:∀z:CI,EM (cxI X scope N z) ⟨C.W,E0,false⟩ f false elt me)(Y:f=inS S fr:=by rfl)
  (j:swapsWith (.ListComp elt [⟨tg,qd,ifs,0⟩] scope pos) (some (.Name y py)) bW.line X.env=pure true:=by rfl) (Z:∀x,foldedSetIterable qd X.env x=pure x:=by intro _;rfl):SM X C S (S.set i 0) Sb Sc (.Assign [.Name y py] (.ListComp elt [⟨tg,qd,ifs,0⟩] scope pos) bW) (yH i (mLC mi fr mg mc me)):=λh=>by
 obtain⟨wi,G,n⟩:=U h;obtain⟨g,t,J⟩:=K_ r λ_=>h;obtain⟨tc,T,O⟩:=K9 E λ_=>h;obtain⟨te,F,D⟩:=K8 he λ_=>h;refine⟨_,uS N fr hN W I u l G (λc d s H L=>t ⟨c,d,s,H,L⟩) (λc d s H L=>T ⟨c,d,s,H,L⟩) (λc d s H L=>F ⟨c,d,s,H,L⟩) j Z,Bk λB P H M A R Q q=>xg n rfl Y J O D B P H M A R Q (Zj q λx v H2 s K=>RV.of (K.rep R.new))⟩
end
def Zt(fr:Bool)(n:Nat)(ms:MS)(xs:OD):Out PV:=match ms (xs.map some++List.replicate (n-xs.length) none)with
 |.ok (.nx _)=>if fr=true then .wall else .ok .n
 |.ok (.rt x)=>.ok x
 |.ok (.bk _)=>.wall
 |.ok (.ct _)=>.wall
 |.exc c fs=>.exc c fs
 |.wall=>.wall
def aJ(ws:Ou)(n:Nat):List Nat:=ws.map (λw=>if w=true then 1 else 0)++List.replicate (n-ws.length) 0
def pq{ws:Ou}{n k:Nat}:(aJ ws n)[k]?≠some 2:=by
 unfold aJ;rw[a2B];split
 .rw[S5];intro h;obtain⟨w,_,e⟩:=v1.mp h;split at e<;>cases e
 .rw[a1b];intro h;split at h<;>cases h
def Yu.get{W:RC}{M:Ol}{H:Hp}:∀{ws:Ou}{d:OD}{f:Ow}{k:Nat}{x:PV},Yu W M H ws d f->d[k]?=some x->∃v w,f[k]?=some v/\ws[k]?=some w/\yI W (if w=true then λ_=>True else M) M H x v
 |[],_,_,_,_,⟨a,b⟩,h=>by subst a;simp at h
 |w::ws,_,_,0,x,⟨y,v,i,g,a,b,c,e⟩,h=>by subst a;subst b;simp at h;subst h;exact⟨v,w,rfl,rfl,c⟩
 |w::ws,_,_,k+1,x,⟨y,v,i,g,a,b,c,e⟩,h=>by subst a;subst b;simp only[List.getElem?_cons_succ]at h ⊢;exact Yu.get e h
def px{xs:OD}{n k:Nat}{x:PV}(h:(xs.map some++List.replicate (n-xs.length) none)[k]?=some (some x)):xs[k]?=some x:=by grind
def ug(H:Hp)(M:Ol):Bs:=⟨H,M,λa=>H a≠none,λ_ h=>h,none,λ_=>False⟩
def c9(h:Yu W M H ws xs vs)(q:ws.length<=N.length):Rel W (ug H M) (aJ ws N.length) (λ_=>0) H (start N vs) (xs.map some++List.replicate (N.length-xs.length) none):=by
 have c:∀{k:Nat},(aJ ws N.length)[k]?=some 2->False:=λ{k} h=>pq h;have sM:∀a,M a->H a≠none->Mof (ug H M) (aJ ws N.length) (λ_=>0) a:=λa m _=>⟨⟨.inl m,id⟩,λi b=>(c b).elim⟩;obtain⟨d,p⟩:=h.len;refine⟨zF.refl _,?_,λk x e=>?_,λi b=>(c b).elim,λi j b=>(c b).elim,λb=>(c b).elim,λa h=>h.elim,λi b=>(c b).elim⟩
 .unfold start;rw[P2,P2,u8,u8,a1q,a1q,d,p]
 .obtain⟨v,w,f,o,r⟩:=h.get (px e);have l:=(P5.mp f).1;have g:(aJ ws N.length)[k]?=some (if w=true then 1 else 0):=by unfold aJ;rw[a0n (by grind),S5,o];rfl
  refine⟨v,?_,λz=>(c z).elim,λz=>?_,λ_ z=>?_⟩
  .unfold L2.start;rw[a0n (by grind),S5,f];rfl
  .refine yI.sub r (λa _ n=>n) sM
  .rw[g]at z;cases w with
   |true=>exact absurd rfl z
   |false=>exact(yI.iff.mp r).sub sM
section
variable {P:Ox}{w:OE}{K:OL}{mg:Oi}{base:Heap}
def zM{x b:Str}{st:OY}{f:Addr}{m:OH}{N j:Oj}{k n:Nat}{W:RC}{fr:Bool}{ws:Ou}{ms:MS}{S' Sb Sc:Og}(F:Fun K x b st f m)(S:zy N j (zm st))(hW:K=W.K)(L:ws.length=j.length)(T:N.length=n)(C:ws.length<=n)
  (h:∀(d:Value)(A:OG)(a:List Env)(s:Om)(H:Hp)(E:XK),j7 k (A.deeper (envOfC b (zm st) s.heap.objs.size f d))->SsM (thr (lS (CXe P w) P w K mg base N b (zm st) f d A a s H E) E) ⟨W,E,fr⟩ (aJ ws n) S' Sb Sc (Zu st) ms):
  qz P w K mg base (CXe P w) (k+1) f m j (lsp W fr ws (Zt fr n ms)):=by
 subst T;refine F.okX S (CZ L) λd A a s H X Q E O ⟨M,l,o,q⟩=>?_;obtain⟨t,R,G⟩:=h d A a s H E O hW;refine⟨t,R,G (ug H M) _ H _ _ (c9 o C) _ ?_⟩;unfold Zt at q;revert q;cases ms (l.map some++List.replicate (N.length-l.length) none)with
 |exc c fs=>exact λq e u I p s J U D=>q e u I p s J U D
 |wall=>exact id
 |ok fl=>
  cases fl with
  |nx g=>
   intro q Y i z B;cases fr with
   |true=>exact q.elim
   |false=>exact q .non i B.same rfl
  |rt y=>exact λq v i s r=>q v i s r
  |bk g=>exact λq=>q.elim
  |ct g=>exact λq=>q.elim
end
def C7(C:Addr)(fs:Oj):Sp:=λc H Q _=>∃e b,c=.ref e::b/\b.length=fs.length/\H e=some (XO e C none .none)/\∀a,H a=none->Q .non (upd (upd H a (XD a (fs.zip b))) e (XO e C (some a) .none))
def ZX(c:Nat)(a:Oj)(ms:MA):MS:=λd=>(ms d).bind λb=>if b.length=a.length/\b.length<=1000 then .exc c (a.zip b)else .wall
def Zg.zip{W:RC}{M:Ol}{H:Hp}:∀{a:Oj}{b:OD}{c:Ow},zX W M H b c->b.length=a.length->Zg W M H (a.zip b) (a.zip c)
 |[],[],_,h,_=>by cases h;rfl
 |f::a,x::b,_,h,e=>by obtain⟨v,r,rfl,d,g⟩:=h;exact⟨v,_,rfl,d,Zg.zip g (by grind)⟩
 |[],_::_,_,_,e=>by cases e
 |_::_,[],_,_,e=>by cases e
def Zz(A:X.calm=true)(M:XMk X.K (C.W.cls c) f)(Q:JP X.K (C.W.cls c))(F:qz X.prog X.w X.K X.mg X.base (CXe X.prog X.w) k f fd ps (C7 (C.W.cls c) fns))(T:j7 (k+1) X.A)(L:Gl X x)(J:X.mg x=some (.ref (C.W.cls c)))(h:Binds X.K fd ps [])
  (E:AM (thr X C.E) C S ws (e::es) ms) (G:ws.all (!·)=true:=by rfl) (n:(x==("__debug__":Str))=false:=by decide) (he:starEach (e::es) X.env=(false,eval e X.env)::starEach es X.env:=by rfl) (hpl:(backTo jK (starEach es X.env)).any (·.1)=false:=by rfl):
  SM (thr X C.E) C S S' Sb Sc (.Raise (some (.Call (.Name x p) (e::es) [] jK)) none pos) (ZX c fns ms):=λw=>by
 obtain⟨U,O,I⟩:=E w;refine⟨_,uO A (uN M F T L J h zI O n he hpl),λB P H t s R D q=>?_⟩;refine I B P H t s R _ ?_;unfold ZX at q;revert q;cases ms s with
 |exc c fs=>exact id
 |wall=>exact id
 |ok i=>
  intro q j r K N;have l:=N.IT G;have q:wH C B S' Sb Sc D (if i.length=fns.length/\i.length<=1000 then .exc c (fns.zip i)else .wall):=q;split at q
  .rename_i hz;refine⟨by rw[l.len];exact hz.2,λy v=>⟨y,j,rfl,by rw[l.len];exact hz.1,zh,λg d=>⟨rfl,y,_,g,rfl,w▸Q,zh,?_⟩⟩⟩;have o:g≠y:=λz=>by rw[z,zh]at d;cases d
   rw[zj o]at d;rw[qD];have u:zF r (upd (upd (upd r y (XO y (C.W.cls c) none .none)) g (XD g (fns.zip j))) y (XC y (C.W.cls c) g)):=λb q h=>by rw[zj (qb h v),zj (qb h d),zj (qb h v)];exact h
   exact q y g (fns.zip j) _ (R.same.trans (K.trans u)) zh (by rw[zj o,zh]) ((Zg.zip l hz.1).gen u.fr λa m _=>m.1.1)
  .exact q.elim
def yn{S:Og}{i:Nat}:∀j:Nat,(S.set i 0)[j]?=some 2->S[j]?=some 2:=λ_ h=>(yT (c:=0) h).1
section
variable {X:Cx}{C:LC}{S:Og}{pos:Pos}
def aL:ME:=λ_=>.ok (.d [])
def Xc:FM X C S (.Dict [] [] pos) aL:=λf=>⟨_,uH,λB P H c d R Q q=>λp hp=>q _ _ (zF.upd hp) (CW rfl hp)⟩
end
section
variable {α β:Type}{a b:Int}{x y:PV}{ρ:Sto}
def wJ{a:α}{f:α->Out β}:(Out.ok a).bind f=f a:=rfl
def US(c:-(2 ^ 64)<a)(d:a<2 ^ 64):jS (.i a) (.i b)=.ok (.i (a*b)):=by show(if uy a b\/_ then _ else _)=_;rw[if_pos (.inl (.inl ⟨c,d⟩))]
def GD(c:-(2 ^ 64)<b)(d:b<2 ^ 64):jS (.i a) (.i b)=.ok (.i (a*b)):=by show(if uy a b\/_ then _ else _)=_;rw[if_pos (.inl (.inr ⟨c,d⟩))]
def GF(c:0<b)(d:b<1073741824):cU (.i a) (.i b)=.ok (.i (a / b)):=by show(if E6 a b then _ else _)=_;rw[if_pos ⟨c,d⟩]
def pA(c:0<b):W7 (.i a) (.i b)=.ok (.i (a % b)):=by show(if 0<b then _ else _)=_;rw[if_pos c]
def c_(c:0<=b)(d:b<=1000000)(e:a.natAbs<2 ^ 64):vN (.i a) (.i b)=.ok (.i (a ^ b.toNat)):=by show(if E7 a b then _ else _)=_;rw[if_pos ⟨c,d,e⟩]
def L9:pIx (.l xs) (.i a)=wD (atI xs a):=rfl
def J7{a:α}:wD (some a)=.ok a:=rfl
def GG(h:z.length<=sizeLine):qZ [.s z]=.ok (.i z.length):=by show(if _ then _ else _)=_;rw[if_pos h]
def L_{xs:List α}{x:α}:atI (x::xs) 0=some x:=by unfold atI ixN;rw[if_pos (a2N _),if_pos (by simp)];rfl
def pB{xs:List α}(h:0<=k):atI xs k=xs[k.toNat]?:=by
 unfold atI ixN;rw[if_pos h];by_cases c:k<xs.length
 .rw[if_pos c];rfl
 .rw[if_neg c];symm;exact a13.mpr (by omega)
def xh{xs:List α}:atI xs (-1)=xs.getLast?:=by
 unfold atI ixN;rw[if_neg (by decide)];cases xs with
 |nil=>rfl
 |cons x xs=>rw[if_pos (by grind)];rw[List.getLast?_eq_getElem?];show(x::xs)[((-1:Int)+((xs.length+1:Nat):Int)).toNat]?=(x::xs)[xs.length+1-1]?;congr 1;omega
def pC{g:MG}{b:MS}{x:PV}{xs:OD}:j9 g b (x::xs) ρ=(wD (g x ρ)).bind λd=>(b d).bind λf=>match f with
  |.nx c=>j9 g b xs c
  |.ct c=>j9 g b xs c
  |.bk c=>.ok (.nx c)
  |.rt v=>.ok (.rt v):=rfl
def Js{α:Type}[BEq α][LawfulBEq α][DecidableEq α]{a b:α}:(a==b)=decide (a=b):=by grind
def C8:yQ n (.i a) (.i b)=.ok (.b (xor n (decide (a=b)))):=rfl
def Ma{n:Bool}{x y:Str}:yQ n (.s x) (.s y)=.ok (.b (xor n (decide (x=y)))):=rfl
def GH{n x y:Bool}:yQ n (.b x) (.b y)=.ok (.b (xor n (decide (x=y)))):=by show Out.ok (PV.b (xor n (x==y)))=_;rw[Js]
def pD:yQ n (.l xs) (.l ys)=match cX (Wa 7) xs ys with|some b=>.ok (.b (xor n b))|none=>.wall:=rfl
def jT:cX f (x::xs) (y::ys)=Gk (f x y) (cX f xs ys):=rfl
def pE:Wa n (.i a) (.i b)=some (decide (a=b)):=by cases n<;>(show some (a==b)=_;rw[Js])
def Bm{n:Nat}{x y:Str}:Wa n (.s x) (.s y)=some (decide (x=y)):=by cases n<;>(show some (x==y)=_;rw[Js])
theorem de{f:Pc}:∀{c:OD},(∀x∈c,f x x=some true)->cX f c c=some true
 |[],_=>rfl
 |x::c,h=>by rw[jT,h x O7,de λy d=>h y (O6 _ d)];rfl
def Mb(h:ns≠[]):ue [.l (ns.map PV.i)]=.ok (.i (ng ns)):=by show wD ((ud (ns.map PV.i)).bind _)=_;rw[aG];show wD (if ns=[]then none else _)=_;rw[if_neg h];rfl
def zE{fr:Bool}{n:Nat}{ms:MS}{xs:OD}{x:PV}(h:ms (xs.map some++List.replicate (n-xs.length) none)=.ok (.rt x)):Zt fr n ms xs=.ok x:=by unfold Zt;rw[h]
def C9(h:s ρ=.ok (.nx ρ')):zZ s t ρ=t ρ':=by unfold zZ;rw[h];rfl
def qi(h:s ρ=.ok (.rt x)):zZ s t ρ=.ok (.rt x):=by unfold zZ;rw[h];rfl
end
def Bn{b:Type}{a:b}:noX (.ok a)=.ok a:=rfl
theorem ZA{i:Type}{g:MG}{c:MT}{e:ME}(j:i->PV)(keep:i->Bool)(out:i->PV)(J:Sto->Prop):∀(f:List i)(d:Sto)(a:OD),J d->(∀x∈f,∀d,J d->∃b,g (j x) d=some b/\J b/\c b=.ok (keep x)/\(keep x=true->e b=.ok (out x)))->a.length+f.length<=100000->lcP g c e (f.map j) d a=.ok (.l (a++(f.filter keep).map out))
 |[],d,a,_,_,_=>by simp[lcP]
 |x::f,d,a,p,h,n=>by
  obtain⟨b,r,m,o,q⟩:=h x O7 d p;rw[O1]at n;rw[R7];unfold lcP;rw[r,J7,wJ,o,Bn,wJ];cases l:keep x with
  |true=>rw[q l,Bn,wJ,if_pos (R8 (show a.length<100000 by omega) (by decide)),List.filter_cons_of_pos l];rw[ZA j keep out J f b (a++[out x]) m (λz hz=>h z (O6 _ hz)) (by grind),a0H];rfl
  |false=>rw[List.filter_cons_of_neg (by grind)];exact ZA j keep out J f b a m (λz hz=>h z (O6 _ hz)) (by omega)
def vm{f:Type}(j:f->PV)(out:f->PV)(J:Sto->Prop)(xs:List f)(ρ:Sto)(m:J ρ)(h:∀x∈xs,∀ρ,J ρ->∃d,g (j x) ρ=some d/\J d/\e d=.ok (out x))(l:xs.length<=100000):lcP g bX e (xs.map j) ρ []=.ok (.l (xs.map out)):=by rw[ZA (c:=bX) j (λ_=>true) out J xs ρ [] m (λx n ρ i=>let⟨d,a,b,c⟩:=h x n ρ i;⟨d,a,b,rfl,λ_=>c⟩) (by grind)];rw[List.filter_eq_self.mpr λ_ _=>rfl];rfl
def pF{α:Type}{f:α->Bool}{xs:List α}:u7 (xs.map λx=>PV.b (f x))=some (xs.map f):=by
 have:=h9 (ns:=xs.map f)
 rwa [S4]at this
def WD{a:Type}{f:a->Bool}{xs:List a}:uf [.l (xs.map λx=>PV.b (f x))]=.ok (.b (xs.all f)):=by show wD ((u7 (xs.map λx=>PV.b (f x))).map _)=_;rw[pF,Option.map_some,List.all_map];rfl
def UT{ns:OC}:Wb [.l (ns.map PV.i)]=.ok (.i ns.sum):=by show wD ((ud (ns.map PV.i)).map _)=_;rw[aG,Option.map_some,J7]
theorem df{n:Nat}:∀{a:Oj},cX (Wa n) (a.map PV.s) (a.map PV.s)=some true
 |[]=>rfl
 |x::a=>by rw[R7,jT,Bm,df,O5 rfl];rfl
end L2
namespace L2
open PySem
end L2
namespace L2
open PySem PySem.Spec PyProof.Rows PySem.W
section
variable {X:Cx}
theorem Xd:∀{b:Ow}{a:Oo},b.length=a.length->(∀(j:Nat) x u,b[j]?=some x->a[j]?=some u->RelV x u)->Vals b a
 |[],[],_,_=>.nil
 |x::b,u::a,c,h=>.cons (h 0 x u rfl rfl) (Xd (by grind) λj y v e d=>h (j+1) y v (by grind) (by grind))
def ie(I:Inv X pins σ H s)(a:s.heap.objs.size<=l)(g:∀b o,s.heap.get? b=some o->h'.get? b=some o)
  (d:h'.get? l=some { cls:=.type "list",dict:=none,data:=.seq acc c,slots:=#[] }) (hz:ys.length<=sizeLine) (i:ys.length=acc.size) (e:∀(j:Nat) x u,ys[j]?=some x->acc[j]?=some u->RelV x u) (q:∀l,H l=none->Q (.ref l) (upd H l (.lst ys))) (m:X.m<=tk:=by ac_rfl):
  EP X pins σ Q (.ref l) { s with heap:=h',toks:=tk }:=
 ⟨.ref l,_,I.laid g a (show yR X.prog X.w _ h' _ (.lst ys)from⟨hz,acc.toList,c,Xd (by omega) (λj x u h f=>e j x u h (by grind)),by exact d⟩),rfl,q _ (I.hok.fresh a)⟩
end
def pG(C:LC)(B:Bs)(S S':Og)(P:Oy)(H:Hp)(D:Ends)(Z:XK):Out Fw->Prop
 |.ok (.nx g)=>∀i a d,Rel C.W B S' i a d g->D.nx d a
 |.ok (.rt x)=>∀v a,zF B.H0 a->xb C B a x v->D.rt v a
 |.ok (.bk _)=>False
 |.ok (.ct _)=>False
 |.exc c fs=>∀e f h b,zF H b->b e=some (XC e (C.W.cls c) f)->b f=some (XD f h)->Zg C.W (Mof B S P) b fs h->Z (.ref e) (some f) b
 |.wall=>False
def XM(X:Cx)(C:LC)(S S':Og)(st:ON)(m:MS):Prop:=X.K=C.W.K->∃t,CC X st t/\∀B P H a b,Rel C.W B S P H a b->∀D Z,pG C B S S' P H D Z (m b)->t D Z a H
def N4{c b:Type}(o:Out c)(f:c->Out b):Out b:=match o with
 |.ok a=>f a
 |.exc _ _=>.wall
 |.wall=>.wall
def QE(g:OB)(ms:MA):ME:=λa=>N4 (ms a) g
abbrev LC.nox(C:LC):LC:=⟨C.W,E0,C.fr⟩
section
variable {C:LC}{S:Og}
def Bo(R:Rel C.W B S P H σ ρ)(m:Mof B S P a\/H a=none):Mof B S P a:=m.elim id λn=>R.new a n
end
def Inv.swap(I:Inv X pins σ H s)(i:H a=some u)(w:∀f,u≠.tup f)(D:∀o v,X.H₀ a≠some (.frz o v))(t:∀l,u≠.tbl l)(B:∀b,u≠.own b)(new:yR X.prog X.w (upd H a u') s.heap a u'):Inv X pins σ (upd H a u') s:=by
 have j:∀b,H b=none->b≠a:=λb n z=>by rw[z,i]at n;cases n
 have nt:∀b f,H b=some (.tup f)->b≠a:=λb f q z=>by rw[z,i]at q;cases q;exact w _ rfl
 have A:∀b c,H b=some (.own c)->b≠a:=λb c q z=>by rw[z,i]at q;cases q;exact B _ rfl
 have d:∀{b},b≠a->upd H a u' b=H b:=λz=>zj z;refine⟨I.ok,I.os,I.bare,⟨I.base.keep,I.base.slot,λb o q n y=>?_,I.base.there,λb f q=>?_,λb o v q=>?_,λb l q=>?_⟩,I.loc,I.cell,?_,λx c q=>?_,λp hp=>?_,λb v q=>?_,I.len,I.tk⟩
 .have:=I.base.free b o q n y;rw[d (j b this)];exact this
 .have:=I.base.uq b f q;rw[d (nt b f this)];exact this
 .have g:b≠a:=λz=>D o v (z▸q);rw[d g];exact I.base.nA b o v q
 .obtain⟨h,e⟩:=I.base.t4 b l q;have g:b≠a:=λz=>by rw[z,i]at e;cases e;exact t _ rfl
  exact⟨h,by rw[d g];exact e⟩
 .rw[d (j _ I.free)];exact I.free
 .rw[d (j _ (I.QA x c q))];exact I.QA x c q
 .obtain⟨E,m,C⟩:=I.pin p hp;exact⟨E,by rw[d (j _ m)];exact m,C⟩
 .by_cases g:b=a
  .subst g;rw[zh]at q;cases q;exact new
  .rw[d g]at q;exact(I.hok b v q).m6 (λ_ _ _ r=>r) (λc r=>by rw[d (A c b r)];exact r) λc f r=>by rw[d (nt c f r)];exact r
def Inv.ig(I:Inv X pins σ H s)(b:H a=some (.dK es)):∀o v,X.H₀ a≠some (.frz o v):=λo v q=>by have:=I.base.nA a o v q;rw[b]at this;cases this
def Inv.Md(I:Inv X pins σ H s)(b:H a=some (.dK es)):∃o,Inv X pins σ (upd H a (.frz o (.dK es))) s:=by obtain⟨z,e,i,c,o,g,f,d,h⟩:= (I.hok a _ b);exact⟨o,I.swap b (λ_=>by nofun) (I.ig b) (λ_=>by nofun) (λ_=>by nofun) ⟨d,z,e,i,c,o,g,f,d,h⟩⟩
def Inv.C_(I:Inv X pins σ H s)(b:H a=some (.frz o (.dK es)))(hz:∀o v,X.H₀ a≠some (.frz o v)):Inv X pins σ (upd H a (.dK es)) s:=
 I.swap b (λ_=>by nofun) hz (λ_=>by nofun) (λ_=>by nofun) (show yR X.prog X.w H s.heap a (.frz o (.dK es))from I.hok a _ b).2
def IX(o:Obj):Nat:=match o.data with | .dict _ a=>a|_=>0
def Itd(a:Addr)(o:Obj)(es:Ov):It:=
 ⟨λi H=>H a=some (.frz o (.dK es))/\i<es.length,λi H x b=>b=H/\∃k v,es[i]?=some (k,v)/\x=kV k,λi H=>H a=some (.frz o (.dK es))/\es.length<=i⟩
def dg(h:KV es vs):∀{i:Nat}{k:Key}{v:V},es[i]?=some (k,v)->∃w,vs[i]?=some (k,w):=by
 induction h with
 |nil=>intro i k v e;simp at e
 |@cons p q _ _ hp _ a=>
  intro i k v e;cases i with
  |zero=>simp at e;subst e;exact⟨q.2,by simp;exact Prod.ext hp.1.symm rfl⟩
  |succ i=>simp at e ⊢;exact a e
def dh(h:(z9 P w).is k u=true):RelV (kV k) u:=by
 rcases yf h with⟨i,t,rfl,rfl⟩|⟨x,t,rfl,rfl⟩
 .exact⟨t,rfl⟩
 .exact⟨t,rfl⟩
def pH(ok:HOk P w H h)(e:H a=some (.frz o (.dK es))):(a==sysModules)=false/\∃b,KV es b/\h.DictAt (z9 P w) a b (IX o):=by
 obtain⟨g,_,i,b,c,p,m,l,f,n,d,j⟩:=(show yR P w H h a (.frz o (.dK es))from ok a _ e);rw[g]at f;cases f;have:IX o=l:=by unfold IX;rw[d]
 exact⟨i,b,c,o,m,g,n,by rw[this];exact d,j⟩
def pJ{P:Ox}{w:OE}{K:OL}{tg:Ot}(a l:Addr)(o:Obj)(es:Ov):Turn P w K tg (Itd a o es) [l] l (λi h=>h.IsKeyIter l a i es.length (IX o))where
 mem:=by simp
 obj:=λi h g b m=>by
  have e:b=l:=by simpa using m
  subst e;obtain⟨o,e,c,d⟩:=g;exact⟨o,e,λv z=>by rw[d]at z;cases z⟩
 keep:=λi h r g k=>g.at λo e=>k l (by simp) o e
 item:=by intro X hP n G J i j s M H E I hf g x;subst hP n G;obtain⟨t,N⟩:=x;obtain⟨W,T,f,A⟩:=pH I.hok t;have L:=O3 N;obtain⟨w,n⟩:=dg f L;obtain⟨D,C,O,B,y,F⟩:=hf l (by simp);rw[a0I f]at g;refine wpAny_pyNext_dict_item g A n λu r U p S=>?_;have Q:Inv X j M H { s with heap:=r }:=I.turned (λb o m e=>(S.2 b m).trans e) D C B y F;obtain⟨q,e,c,d⟩:=id p;refine⟨u,rfl,ux e c d (by decide) ⟨_,H,Q,dh U,⟨rfl,_,_,L,rfl⟩,?_,λb m=>(hf b m).1⟩⟩;rw[a0I f];exact p
 done:=by intro X hP n G J i j s M H E I hf g x;subst hP n G;obtain⟨t,N⟩:=x;obtain⟨W,T,f,A⟩:=pH I.hok t;obtain⟨D,C,O,B,y,F⟩:=hf l (by simp);have R:=a0I f;rw[R]at g;exact wpAny_pyNext_dict_end (I.ok.hd J) g A (a13.mpr (by omega)) λr Y=>⟨rfl,I.turned (λb o m e=>Y b o m e) D C B y F⟩
 self:=λ_ _ _ _ _ g h=>wpAny_pyIter_keyiter g h
def pK(e:TE):TI:=λd H R=>e d H λx b=>∃a o c,x=.ref a/\b a=some (.frz o (.dK c))/\R (Itd a o c) b
def aM(r:PE X l tl):PI X tg l (pK tl):=by
 intro c s t H R I h;refine thn (r c s t H _ I h) λv d ⟨x,m,f,n,a,o,p,e,i,q⟩=>?_;subst e;cases n;obtain⟨w,y,g,j⟩:=pH f.hok i;refine a20 w j ?_;refine⟨d.heap.objs.size,[d.heap.objs.size],_,_,m,rfl,f.kept λb o e=>O0 _ e,pJ a _ o p,?_,λb u=>?_,q⟩
 .rw[a0I g];exact⟨_,P9 _ rfl,rfl,rfl⟩
 have e:b=d.heap.objs.size:=by simpa using u
 subst e;exact f.E5 (O2 _) (f.hok.fresh (O2 _))
def Bp(h:Rd H a (.dK es))(h':Rd H a (.dK es')):es'=es:=by rcases h with h|⟨o,h⟩<;>rcases h' with h'|⟨b,h'⟩<;>rw[h]at h'<;>cases h'<;>rfl
section
variable {W:RC}{M:Ol}{H H':Hp}{a:Addr}{es:Ov}
def Ul(e:Rd H a (.dK es))(h:H b=some u)(d:∀es,u≠.dK es)(c:∀o es,u≠.frz o (.dK es)):b≠a:=λz=>by
 subst z;rcases e with z|⟨o,z⟩<;>rw[z]at h<;>cases h
 .exact d _ rfl
 .exact c _ _ rfl
def J8(e:Rd H a (.dK es))(c:∀b,b≠a->H' b=H b)(h:Rd H b u)(d:∀es,u≠.dK es)(hf:∀o v,u≠.frz o v):Rd H' b u:=by
 rcases h with h|⟨o,h⟩
 .exact .inl ((c b (Ul e h d λo es=>hf o _)).trans h)
 .exact .inr ⟨o,(c b (Ul e h (λ_=>by nofun) λo es z=>by cases z;exact d _ rfl)).trans h⟩
mutual
theorem Rep.sw(f:Rd H a (.dK es))(i:Rd H' a (.dK es))(d:∀b,b≠a->H' b=H b):∀{x:PV}{v:V},Rep W M H x v->Rep W M H' x v
 |.i n,v,h=>h
 |.s x,v,h=>h
 |.b c,v,h=>h
 |.n,v,h=>h
 |.l s,v,h=>by obtain⟨p,g,e,m,r,q⟩:=h;exact⟨p,g,e,m,(d p (Ul f r (λ_=>by nofun) λ_ _=>by nofun)).trans r,zX.sw f i d q⟩
 |.sc t,v,h=>by obtain⟨p,e,r⟩:=h;exact⟨p,e,r.elim (λz=>.inl ⟨z.1,J8 f d z.2 (λ_=>by nofun) λ_ _=>by nofun⟩) .inr⟩
 |.dt l,v,h=>by obtain⟨p,e,m,r⟩:=h;exact⟨p,e,m,J8 f d r (λ_=>by nofun) λ_ _=>by nofun⟩
 |.t s,v,h=>by obtain⟨p,g,e,r,q⟩:=h;exact⟨p,g,e,r.elim (λz=>.inl (J8 f d z (λ_=>by nofun) λ_ _=>by nofun)) .inr,zX.sw f i d q⟩
 |.d l,v,h=>by
  obtain⟨p,g,e,m,r,q⟩:=h;refine⟨p,g,e,m,?_,y8.sw f i d q⟩;by_cases hp:p=a
  .subst hp;rw[Bp f r];exact i
  .unfold Rd;rw[d p hp];exact r
 |.o c fs,v,h=>by obtain⟨p,j,g,e,m,r,q⟩:=h;exact⟨p,j,g,e,m,(d p (Ul f r (λ_=>by nofun) λ_ _=>by nofun)).trans r,Zg.sw f i d q⟩
 |.x c fs,v,h=>by unfold Rep at h ⊢;obtain⟨p,j,g,e,r,o,q⟩:=h;exact⟨p,j,g,e,(d p (Ul f r (λ_=>by nofun) λ_ _=>by nofun)).trans r,(d j (Ul f o (λ_=>by nofun) λ_ _=>by nofun)).trans o,Zg.sw f i d q⟩
theorem zX.sw(d:Rd H a (.dK es))(f:Rd H' a (.dK es))(c:∀b,b≠a->H' b=H b):∀{x:OD}{v:Ow},zX W M H x v->zX W M H' x v
 |[],v,h=>h
 |x::j,l,h=>by unfold zX at h ⊢;obtain⟨v,r,e,i,g⟩:=h;exact⟨v,r,e,Rep.sw d f c i,zX.sw d f c g⟩
theorem y8.sw(d:Rd H a (.dK es))(f:Rd H' a (.dK es))(c:∀b,b≠a->H' b=H b):∀{x:Oz}{v:Ov},y8 W M H x v->y8 W M H' x v
 |[],v,h=>h
 | (k,x)::j,l,h=>by unfold y8 at h ⊢;obtain⟨v,r,e,i,g⟩:=h;exact⟨v,r,e,Rep.sw d f c i,y8.sw d f c g⟩
theorem Zg.sw(d:Rd H a (.dK es))(f:Rd H' a (.dK es))(c:∀b,b≠a->H' b=H b):∀{x:OK}{v:OU},Zg W M H x v->Zg W M H' x v
 |[],v,h=>h
 | (k,x)::j,l,h=>by unfold Zg at h ⊢;obtain⟨v,r,e,i,g⟩:=h;exact⟨v,r,e,Rep.sw d f c i,Zg.sw d f c g⟩
end
def yI.sw{N:Ol}{x:PV}{v:V}(g:Rd H a (.dK es))(j:Rd H' a (.dK es))(f:∀b,b≠a->H' b=H b)(h:yI W N M H x v):yI W N M H' x v:=by
 cases x with
 |l B=>obtain⟨p,u,e,m,r,q⟩:=h;exact⟨p,u,e,m,(f p (Ul g r (λ_=>by nofun) λ_ _=>by nofun)).trans r,q.sw g j f⟩
 |d w=>
  obtain⟨p,u,e,m,r,q⟩:=h;refine⟨p,u,e,m,?_,q.sw g j f⟩;by_cases hp:p=a
  .subst hp;rw[Bp g r];exact j
  .unfold Rd;rw[f p hp];exact r
 |sc A=>obtain⟨p,e,r⟩:=h;exact⟨p,e,r.elim (λz=>.inl ⟨z.1,J8 g f z.2 (λ_=>by nofun) λ_ _=>by nofun⟩) .inr⟩
 |dt w=>obtain⟨p,e,m,r⟩:=h;exact⟨p,e,m,J8 g f r (λ_=>by nofun) λ_ _=>by nofun⟩
 |o c fs=>obtain⟨p,y,u,e,m,r,q⟩:=h;exact⟨p,y,u,e,m,(f p (Ul g r (λ_=>by nofun) λ_ _=>by nofun)).trans r,q.sw g j f⟩
 |i n=>exact Rep.sw g j f h
 |s n=>exact Rep.sw g j f h
 |b n=>exact Rep.sw g j f h
 |n=>exact Rep.sw g j f h
 |t n=>exact Rep.sw g j f h
 |x c n=>exact Rep.sw g j f h
def Ub.sw{p:Addr}{x:PV}(hp:p≠a)(j:Rd H a (.dK es))(m:Rd H' a (.dK es))(f:∀b,b≠a->H' b=H b)(h:Ub W M H p x):Ub W M H' p x:=by
 cases x with
 |l v=>obtain⟨g,e,q⟩:=h;exact⟨g,(f p hp).trans e,q.sw j m f⟩
 |d r=>obtain⟨g,e,q⟩:=h;exact⟨g,(f p hp).trans e,q.sw j m f⟩
 |dt r=>exact(f p hp).trans h
 |o c fs=>obtain⟨u,g,e,q⟩:=h;exact⟨u,g,(f p hp).trans e,q.sw j m f⟩
 |i n=>exact h.elim
 |s n=>exact h.elim
 |b n=>exact h.elim
 |n=>exact h.elim
 |t n=>exact h.elim
 |x c n=>exact h.elim
 |sc n=>exact h.elim
end
def Bs.at'(B:Bs)(a:Addr)(u:HO):Bs:=⟨upd B.H0 a u,B.M0,B.N0,λb h=>by
 by_cases e:b=a
 .rw[e,zh];exact λz=>by cases z
 .rw[zj e];exact B.nz b h,B.pin,B.xc⟩
section
variable {W:RC}{B:Bs}{S:Og}{P:Oy}{H:Hp}{σ:St}{ρ:Sto}{a:Addr}{es:Ov}{u u':HO}
def aN(c:B.H0 a≠none):(B.at' a u).H0 b=none↔B.H0 b=none:=by
 show upd B.H0 a u b=none↔_;by_cases e:b=a
 .subst e;rw[zh];exact⟨λz=>(by cases z),λz=>absurd z c⟩
 .rw[zj e]
def GI(c:B.H0 a≠none):(B.at' a u).Mt b↔B.Mt b:=or_congr Iff.rfl (aN c)
def Bq(c:B.H0 a≠none):Mof (B.at' a u) S P b↔Mof B S P b:=and_congr (and_congr (GI c) Iff.rfl) Iff.rfl
def DU(es:Ov)(u:HO):Prop:=u=.dK es\/∃o,u=.frz o (.dK es)
def DU.rd(h:DU es u)(e:H a=some u):Rd H a (.dK es):=h.elim (λz=>.inl (z▸e)) λ⟨o,z⟩=>.inr ⟨o,z▸e⟩
def Rel.sw(R:Rel W B S P H σ ρ)(m:B.H0 a=some u)(w:DU es u)(l:DU es u'):Rel W (B.at' a u') S P (upd H a u') σ ρ:=by
 have s:=R.same a u m;have d:B.H0 a≠none:=by rw[m];exact λz=>by cases z
 have g:=w.rd s;have j:Rd (upd H a u') a (.dK es):=l.rd zh;have c:∀b,b≠a->upd H a u' b=H b:=λb z=>zj z;have A:Mof B S P=Mof (B.at' a u') S P:=funext λb=>propext (Bq d).symm;have p:∀{i},S[i]?=some 2->P i≠a:=λ{i} f z=>d (z▸(R.act i f).1);refine⟨λb o h=>?_,R.len,λi x e=>?_,λi f=>⟨(aN d).mpr (R.act i f).1,?_⟩,R.inj,R.pin,λb h=>?_,R.axc⟩
 .have h:upd B.H0 a u' b=some o:=h;by_cases e:b=a
  .subst e;rw[zh]at h ⊢;exact h
  .rw[zj e]at h ⊢;exact R.same b o h
 .obtain⟨v,y,r,D,t⟩:=R.var i x e;rw[<- A];exact⟨v,y,λz=>⟨(r z).1,(r z).2.sw (p z) g j c⟩,λz=>(D z).sw g j c,λz C=>(t z C).sw g j c⟩
 .obtain⟨o,e,n⟩:=(R.act i f).2;exact⟨o,(c _ (p f)).trans e,n⟩
 .obtain⟨o,e,n,z⟩:=R.exc b h;have:b≠a:=λq=>d (q▸z);exact⟨o,(c b this).trans e,n,(aN d).mpr z⟩
def Me:(B.at' a u').at' a u''=B.at' a u'':=by
 unfold Bs.at';congr 1
 funext b
 rw[qD]
def Dc(c:B.H0 a=some u):B.at' a u=B:=by
 cases B;unfold Bs.at';congr 1
 funext b
 by_cases e:b=a
 .subst e;rw[zh];exact c.symm
 .rw[zj e]
def Rel.ws(d:B.H0 a=some u)(c:DU es u)(b:DU es u')(R:Rel W (B.at' a u') S P H σ ρ):Rel W B S P (upd H a u) σ ρ:=by have:=Rel.sw R zh b c;rw[Me,Dc d]at this;exact this
def pL(c:B.H0 a=some u)(s:zF (B.at' a u').H0 H):zF B.H0 (upd H a u):=λb o h=>by
 by_cases e:b=a
 .subst e;rw[c]at h;rw[zh];exact h
 .rw[zj e];exact s b o (show upd B.H0 a u' b=some o by rw[zj e];exact h)
end
def Df(a:Addr)(es:Ov)(D:Ends):Ends where
 nx:=λb H=>(∃o,H a=some (.frz o (.dK es)))/\D.nx b (upd H a (.dK es))
 rt:=λv H=>(∃o,H a=some (.frz o (.dK es)))/\D.rt v (upd H a (.dK es))
 bk:=λb H=>(∃o,H a=some (.frz o (.dK es)))/\D.bk b (upd H a (.dK es))
 ct:=λb H=>(∃o,H a=some (.frz o (.dK es)))/\D.ct b (upd H a (.dK es))
def Ef(a:Addr)(es:Ov)(E:XK):XK:=λv d H=>(∃o,H a=some (.frz o (.dK es)))/\E v d (upd H a (.dK es))
def Dd{W:RC}{E:XK}{fr:Bool}{B:Bs}{S' Sb Sc:Og}{D:Ends}{a:Addr}{es:Ov}{o:Obj}{out:Out Fw}(l:B.H0 a=some (.dK es))(q:wH ⟨W,E,fr⟩ B S' Sb Sc D out):wH ⟨W,Ef a es E,fr⟩ (B.at' a (.frz o (.dK es))) S' Sb Sc (Df a es D) out:=by
 have I:B.H0 a≠none:=by rw[l];exact λz=>by cases z
 have G:DU es (.dK es):=.inl rfl;have i:DU es (.frz o (.dK es)):=.inr ⟨o,rfl⟩;have t:(B.at' a (.frz o (.dK es))).H0 a=some (.frz o (.dK es)):=zh;have sw:∀{H:Hp}{u:HO},H a=some (.frz o (.dK es))->Rd H a (.dK es)/\Rd (upd H a (.dK es)) a (.dK es)/\∀b,b≠a->upd H a (.dK es) b=H b:=λh=>⟨.inr ⟨o,h⟩,.inl zh,λb z=>zj z⟩;have M:(B.at' a (.frz o (.dK es))).Mt=B.Mt:=funext λb=>propext (GI I);cases out with
 |wall=>exact q
 |exc c fs=>
  intro e F Q R s O N P;have n:=s a _ t;obtain⟨j,C,m⟩:=sw (u:=.dK es) n;have J:e≠a:=Ul j O (λ_=>by nofun) λ_ _=>by nofun
  have K:F≠a:=Ul j N (λ_=>by nofun) λ_ _=>by nofun
  exact⟨⟨o,n⟩,q e F Q _ (pL l s) ((m e J).trans O) ((m F K).trans N) ((M▸P).sw j C m)⟩
 |ok f=>
  cases f with
  |nx A=>exact λw L d g=>⟨⟨o,g.same a _ t⟩,q w _ d (Rel.ws l G i g)⟩
  |bk A=>exact λw L d g=>⟨⟨o,g.same a _ t⟩,q w _ d (Rel.ws l G i g)⟩
  |ct A=>exact λw L d g=>⟨⟨o,g.same a _ t⟩,q w _ d (Rel.ws l G i g)⟩
  |rt x=>
   intro v L s r;have n:=s a _ t;obtain⟨j,C,m⟩:=sw (u:=.dK es) n;refine⟨⟨o,n⟩,q v _ (pL l s) ?_⟩;unfold xb at r ⊢;cases fr with
   |true=>obtain⟨p,e,hp,r⟩:=r;have y:=(aN I).mp hp;have:p≠a:=λz=>I (z▸y);exact⟨p,e,y,(M▸r).sw this j C m⟩
   |false=>exact(M▸r).sw j C m
def xi(h:a≠b):upd (upd H a u) b v=upd (upd H b v) a u:=by
 funext c
 by_cases d:c=a
 .subst d;rw[zj h,zh,zh]
 .by_cases e:c=b
  .subst e;rw[zh,zj d,zh]
  .rw[zj e,zj d,zj d,zj e]
def tFz(ts:XK->TS)(E:XK):TS:=λD c H=>(∃a b,H a=some (.dK b)/\∀o,ts (Ef a b E) (Df a b D) c (upd H a (.frz o (.dK b))))\/ts E D c H
def Mf{X:Cx}{E:XK}{st:OY}{ts:XK->TS}(h:∀r,PS (thr X r) st (ts r)):PS (thr X E) st (tFz ts E):=by
 intro g s t H D I q;rcases q with⟨a,n,m,q⟩|q
 .obtain⟨o,y⟩:=I.Md m;have hz:=I.ig m;refine a0f (h (Ef a n E) g s t _ (Df a n D) (y.qX.V7 _) (q o)) (λf x z=>?_) λv x z=>?_
  .cases f with
   |next=>obtain⟨c,j,J,⟨i,hf⟩,d⟩:=z;exact⟨c,_,Inv.C_ (J.qX.V7 _) hf hz,d⟩
   |brk=>obtain⟨c,j,J,⟨i,hf⟩,d⟩:=z;exact⟨c,_,Inv.C_ (J.qX.V7 _) hf hz,d⟩
   |cont=>obtain⟨c,j,J,⟨i,hf⟩,d⟩:=z;exact⟨c,_,Inv.C_ (J.qX.V7 _) hf hz,d⟩
   |ret u=>obtain⟨v,c,j,J,B,⟨i,hf⟩,d⟩:=z;exact⟨v,c,_,Inv.C_ (J.qX.V7 _) hf hz,B,d⟩
  .obtain⟨c,j,e,C,w,rfl,J,f,⟨i,hf⟩,d⟩:=z;have l:e≠a:=λz=>by subst z;rw[zh]at hf;cases hf
   rw[zj l.symm]at hf;rw[xi l]at d;refine⟨c,_,e,C,w,rfl,Inv.C_ J hf hz,?_,d⟩;obtain⟨T,G,A⟩:=f;refine⟨T,by rw[zj l];exact G,A.imp id λ⟨p,fl,F,b,K⟩=>⟨p,fl,F,⟨b.tbk,b.new,?_,b.pin⟩,K⟩⟩;have:p≠a:=λz=>by have:=b.free;rw[z,hf]at this;cases this
   rw[zj this];exact b.free
 .exact h E g s t H D I q
def kP:Key->PV
 |.inl i=>.i i
 |.inr x=>.s x
def pM{W:RC}{M:Ol}{H:Hp}:∀k:Key,Rep W M H (kP k) (kV k)
 |.inl _=>rfl
 |.inr _=>rfl
def qE(i:Nat):MI:=λc=>match c[i]? with
 |some (some (.d a))=>.ok (a.map λb=>kP b.1)
 |_=>.wall
def aO{W:RC}{M N:Ol}{g:Hp}{a:Addr}{o:Obj}{es:Ov}{kvs:Oz}(m:g a=some (.frz o (.dK es)))(l:es.map (·.1)=kvs.map (·.1)):C2 W M N g (Itd a o es) (kvs.map λe=>kP e.1):=λs f=>by
 have c:=f a _ m (.inr trivial);have q:=by simpa using R9 List.length l
 refine⟨λi x j=>?_,c,by rw[u8];omega⟩;rw[S5]at j;obtain⟨e,b,rfl⟩:=v1.mp j;have r:=(P5.mp b).1;refine⟨⟨c,by omega⟩,λv n p=>?_⟩;obtain⟨rfl,k,w,d,rfl⟩:=p;have:k=e.1:=by
  have h:(es.map (·.1))[i]?=some k:=by rw[S5,d];rfl
  rw[l,S5,b]at h;cases h;rfl
 subst this;exact⟨zF.refl _,λ_ _=>pM _⟩
section
variable {X:Cx}{W:RC}{E:XK}{fr:Bool}{S S1 Sb Sc:Og}{tg qd:Ot}{body:ON}{mg:MG}{mb:MS}{pos:Pos}{i:Nat}
def pN(R:Rel W B S P H σ ρ)(p:S[i]?≠some 2)(o:ρ[i]?=some (some (.d kvs))):∃a b,σ[i]?=some (some (.ref a))/\NA B S P a/\Rd H a (.dK b)/\b.map (·.1)=kvs.map (·.1):=by
 obtain⟨v,d,_,g,l⟩:=R.var i _ o;by_cases c:S[i]?=some 1
 .obtain⟨a,b,rfl,n,r,rk⟩:=g c;have f:=B.nz a n;exact⟨a,b,d,⟨λz=>f (R.exc a z).choose_spec.2.2,λj h e=>f (e▸(R.act j h).1)⟩,r,(y8.iff.mp rk).1⟩
 .obtain⟨a,b,rfl,m,r,rk⟩:=l p c;exact⟨a,b,d,Mof.na m,r,(y8.iff.mp rk).1⟩
def pO(R:Rel W B S P H σ ρ)(na:NA B S P a)(h:H a=some u):(B.loop S P H R.hz).H0 a=some u:=by unfold Bs.loop;dsimp only;rw[if_neg λz=>z.elim (λ⟨j,b,e⟩=>na.2 j b e) na.1];exact h
def De(hc:X.calm=true)(own:Own X)(hv:∀h,PE (thr X h) qd (UJ i))(hg:∀h,GM (thr X h) ⟨W,h,fr⟩ S S1 tg mg)(hb:∀h,SsM (thr X h) ⟨W,h,fr⟩ S1 S S S body mb)(hS:S[i]?≠some 2:=by decide)(hs:∀x,foldedSetIterable qd X.env x=pure x:=by intro _;rfl):
  SM (thr X E) ⟨W,E,fr⟩ S S Sb Sc (.For tg qd body [] pos) (Yk (qE i) mg mb):=λQ=>by
 refine⟨tFz (λh D O H=>∃g p,PG (thr X h) tg g/\PSs (thr X h) body p/\Fz (pK (UJ i)) g p D O H) E,Mf λh L s O H D I ⟨g,p,K,J,q⟩=>gS (X:=thr X h) (yg own) hc (aM (hv h)) K J hs L s O H D I q,λB P H O U R D q=>?_⟩;cases e:U[i]? with
 |none=>unfold Yk qE at q;rw[e]at q;exact q.elim
 |some z=>
  cases z with
  |none=>unfold Yk qE at q;rw[e]at q;exact q.elim
  |some y=>
   cases y with
   |d kvs=>
    obtain⟨a,m,G,na,Z,hk⟩:=pN R hS e;have hm:qE i U=.ok (kvs.map λkx=>kP kx.1):=by unfold qE;rw[e]
    rcases Z with w|⟨o,w⟩
    .refine .inl ⟨a,m,w,λo=>?_⟩;obtain⟨g,K,Y⟩:=hg (Ef a m E) Q;obtain⟨p,J,T⟩:=hb (Ef a m E) Q;have R1:=R.loop;have h0:=pO R na w;have Rf:=R1.sw h0 (.inl rfl) (.inr ⟨o,rfl⟩);refine⟨g,p,K,J,aI (mi:=qE i) (Sb:=Sb) (Sc:=Sc) (λRr F=>?_) Y T Rf _ (Dd h0 ?_)⟩
     .rw[hm]at F;exact⟨.ref a,G,a,o,m,rfl,zh,F _ _ (zF.refl _) (aO zh hk)⟩
     .revert q;cases Yk (qE i) mg mb U with
      |wall=>exact id
      |exc c fs=>exact λq=>ib rfl R q
      |ok f=>
       cases f with
       |nx N=>exact λq M u j A=>q M u j (R.c7 A)
       |bk N=>exact λq M u j A=>q M u j (R.c7 A)
       |ct N=>exact λq M u j A=>q M u j (R.c7 A)
       |rt x=>exact λq v u s r=>q v u ((J6 R).trans s) (oX rfl R r)
    .obtain⟨g,K,Y⟩:=hg E Q;obtain⟨p,J,T⟩:=hb E Q;refine .inr ⟨g,p,K,J,aI (λRr F=>?_) Y T R D q⟩;rw[hm]at F;exact⟨.ref a,G,a,o,m,rfl,w,F _ _ (zF.refl _) (aO w hk)⟩
   |i n=>unfold Yk qE at q;rw[e]at q;exact q.elim
   |s n=>unfold Yk qE at q;rw[e]at q;exact q.elim
   |b n=>unfold Yk qE at q;rw[e]at q;exact q.elim
   |n=>unfold Yk qE at q;rw[e]at q;exact q.elim
   |l n=>unfold Yk qE at q;rw[e]at q;exact q.elim
   |t n=>unfold Yk qE at q;rw[e]at q;exact q.elim
   |o c n=>unfold Yk qE at q;rw[e]at q;exact q.elim
   |x c n=>unfold Yk qE at q;rw[e]at q;exact q.elim
   |sc n=>unfold Yk qE at q;rw[e]at q;exact q.elim
   |dt n=>unfold Yk qE at q;rw[e]at q;exact q.elim
end
def tGz(e:TE):TE:=λc H Q=>(∃a b,H a=some (.dK b)/\∀o,e c (upd H a (.frz o (.dK b))) (λv d=>(∃o,d a=some (.frz o (.dK b)))/\Q v (upd d a (.dK b))))\/e c H Q
def Mg(h:PE X e te):PE X e (tGz te):=by
 intro b s f H Q I q;rcases q with⟨a,m,c,q⟩|q
 .obtain⟨o,g⟩:=I.Md c;have hz:=I.ig c;refine thn (h b s f _ _ g (q o)) λv j ⟨x,n,J,i,⟨l,hf⟩,d⟩=>⟨x,_,J.C_ hf hz,i,d⟩
 .exact h b s f H Q I q
theorem Xe{g:MG}{c:MT}{e:ME}{k:Nat}{fs:OK}:∀{f:OD}{d:Sto}{a:OD},lcP g c e f d a≠.exc k fs
 |[],d,a=>by exact λz=>by cases z
 |x::f,d,a=>by
  unfold lcP;cases g x d with
  |none=>exact λz=>by cases z
  |some b=>
   show(noX (c b)).bind _≠_;cases c b with
   |wall=>exact λz=>by cases z
   |exc _ _=>exact λz=>by cases z
   |ok t=>
    show(if t=true then _ else _)≠_;split
    .cases e b with
     |wall=>exact λz=>by cases z
     |exc _ _=>exact λz=>by cases z
     |ok y=>
      show(if a.length<sizeLine then _ else _)≠_;split
      .exact Xe
      .exact λz=>by cases z
    .exact Xe
def Br{g:TG}{N:TT}{U:TE}{fr:OF}{D:Og}(E:S[i]?≠some 2)(O:D=inS S fr)(K:LG ⟨C.W,E0,false⟩ D D g mg)(M:LT ⟨C.W,E0,false⟩ D N mc)(he:LE ⟨C.W,E0,false⟩ D false U me):LFr C S (tGz (tLC (pK (UJ i)) g N U fr)) (mLC (qE i) fr mg mc me):=λB P H σ t R Q q=>by
 cases f:qE i t with
 |wall=>unfold mLC at q;rw[f]at q;exact q.elim
 |exc c fs=>unfold qE at f;split at f<;>cases f
 |ok Y=>
  obtain⟨d,n⟩:∃d,t[i]?=some (some (.d d)):=by
   unfold qE at f;split at f
   .rename_i d h;exact⟨d,h⟩
   .cases f
  have G:Y=d.map λj=>kP j.1:=by unfold qE at f;rw[n]at f;cases f;rfl
  subst G;obtain⟨a,w,A,na,F,W⟩:=pN R E n;rcases F with l|⟨o,l⟩
  .refine .inl ⟨a,w,l,λo=>?_⟩;have L:=pO R na l;have Rf:=R.loop.sw L (.inl rfl) (.inr ⟨o,rfl⟩);refine fO (mi:=qE i) (λX y=>?_) rfl O K M he Rf _ ?_
   .rw[f]at y;exact⟨.ref a,A,a,o,w,rfl,zh,y _ _ (zF.refl _) (aO zh W)⟩
   .unfold mLC at q ⊢;rw[f]at q ⊢;have q:z_ C B H (RFr C.W (Mof B S P) H) Q (lcP mg mc me (d.map λj=>kP j.1) (Xb t fr) []):=q;show z_ C _ _ _ _ (lcP mg mc me (d.map λj=>kP j.1) (Xb t fr) []);revert q;cases ho:lcP mg mc me (d.map λj=>kP j.1) (Xb t fr) []with
    |wall=>exact id
    |exc c fs=>exact absurd ho Xe
    |ok x=>
     intro q v H2 s r;have hf:=s a _ (zh);refine⟨⟨o,hf⟩,q v _ (λb u I=>?_) ?_⟩
     .by_cases e:b=a
      .subst e;rw[l]at I;rw[zh];exact I
      .rw[zj e];exact s b u (by rw[zj e];exact I)
     .obtain⟨p,e,hp,r⟩:=r;have T:p≠a:=λz=>by rw[z,zh]at hp;cases hp
      rw[zj T]at hp;refine⟨p,e,hp,Ub.sw T (.inr ⟨o,hf⟩) (.inl zh) (λb z=>zj z) (r.gen rfl Fr.refl λb m _=>⟨?_,m.2⟩)⟩;have Z:(B.loop S P H R.hz).H0 a≠none:=by rw[L];exact λz=>by cases z
      have J:=(Bq Z).mp m.1;exact⟨⟨Xa R J.1.1,J.1.2⟩,J.2⟩
  .refine .inr (fO (λX y=>?_) rfl O K M he R _ q);rw[f]at y;exact⟨.ref a,A,a,o,w,rfl,l,y _ _ (zF.refl _) (aO l W)⟩
def GJ(N:Oj)(fr:OF)(c:Og)(l:X.calm=true)(e:l5 X scope N fr=true)(q:PE X qd (UJ i))(h:∀z:CI,GM (cxI X scope N z) ⟨C.W,E0,false⟩ c c tg mg)(n:∀z:CI,TsM (cxI X scope N z) ⟨C.W,E0,false⟩ c ifs mc)(he:∀z:CI,EM (cxI X scope N z) ⟨C.W,E0,false⟩ c false elt me)(d:S[i]?≠some 2:=by decide)(u:c=inS S fr:=by rfl)
  (v:∀x,foldedSetIterable qd X.env x=pure x:=by intro _;rfl):FM X C S (.ListComp elt [⟨tg,qd,ifs,0⟩] scope pos) (mLC (qE i) fr mg mc me):=λf=>by
 obtain⟨g,j,p⟩:=K_ h λ_=>f;obtain⟨w,t,r⟩:=K9 n λ_=>f;obtain⟨y,o,m⟩:=K8 he λ_=>f;exact⟨_,Mg (F6 N fr l e (aM q) (λa b s H L=>j ⟨a,b,s,H,L⟩) (λa b s H L=>t ⟨a,b,s,H,L⟩) (λa b s H L=>o ⟨a,b,s,H,L⟩) v),Br d u p r m⟩
def GK:List V->Hp->VK->Prop:=λb H Q=>∃(p:Addr)(a:Ov),b=[.ref p]/\Rd H p (.dK a)/\∀l,H l=none->Q (.ref l) (upd H l (.dK a))
def mr:jR X (.type "dict") GK:=by intro a s m H j g Q I r h;obtain⟨p,i,rfl,e,q⟩:=h;obtain⟨u,rfl,b⟩:=vals1 r;cases b;exact uK I e λl f c d=>⟨.ref l,_,d,rfl,q l c⟩
def fP(kvs:Oz)(k:Key):List (Key×PV):=kvs.filter λa=>decide (a.1≠k)
def y8.drop{W:RC}{M:Ol}{H:Hp}{k:Key}:∀{a:Oz}{b:Ov},y8 W M H a b->y8 W M H (fP a k) (cF b k)
 |[],_,h=>by cases h;rfl
 |d::a,_,h=>by
  obtain⟨v,q,rfl,f,c⟩:=h;unfold fP cF;rw[a06,a06];by_cases e:d.1≠k
  .rw[if_pos (O5 e),if_pos (O5 e)];exact⟨v,_,rfl,f,y8.drop c⟩
  .rw[if_neg (by grind),if_neg (by grind)];exact y8.drop c
def fQ(i:Nat)(mk:ME):MS:=λb=>match b[i]? with
 |some (some (.d a))=>(mk b).bind λz=>match pk z with
  |some k=>if(qB a k).isSome=true then .ok (.nx (b.set i (some (.d (fP a k)))))else .wall
  |none=>.wall
 |_=>.wall
def Dg(J:PE X o (UJ i))(n:EM X C S w a m)(I:M1 X o "pop" qO a jK)(l:S[i]?=some 2:=by rfl)(G:swapsWith (.Call (.Attribute o "pop" qO) [a] [] jK) none pos.line X.env=pure false:=by rfl):
  SM X C S S Sb Sc (.Expr (.Call (.Attribute o "pop" qO) [a] [] jK) pos) (fQ i m):=λK=>by
 obtain⟨M,A,t⟩:=n K;refine⟨_,K5 (uJ J A I) G,λB P H r e R D q=>?_⟩;unfold fQ at q;split at q
 .rename_i d y;obtain⟨b,⟨g,hp,p⟩,E⟩:=R.at2 l y;refine⟨_,b,_,rfl,.inl ⟨g,.inl hp⟩,t B P H r e R _ ?_⟩;revert q;cases m e with
  |exc c fs=>exact id
  |wall=>exact id
  |ok z=>
   intro q u L j s;have R2:=R.keep j;have q:wH C B S Sb Sc D (match pk z with
    |some k=>if(qB d k).isSome=true then .ok (.nx (e.set i (some (.d (fP d k)))))else .wall
    |none=>.wall):=q
   split at q
   .rename_i k n;split at q
    .rename_i hz;obtain⟨x,h⟩:=a0v.mp hz;obtain⟨v,F,_⟩:=p.get h;refine⟨g,k,v,j _ _ hp,fC s.weak n,F,q P _ r (R2.wr l E b (by exact id) ?_)⟩;have f:=Mof.wr (o:=.dK (cF g k)) R2 l;exact⟨_,zh,((p.same j).drop).gen f λ_ m _=>m⟩
    .exact q.elim
   .exact q.elim
 .exact q.elim
def Xf(prog:Ox)(w:OE)(A:OG)(s:Om)(y x:Value)(b:Bool):Prop:=∀(E:Of)(Q:Pp),Q b s->wpAny (model prog w) A (eqBool y x) Q E s
def Bt(prog:Ox)(w:OE)(A:OG)(s:Om)(y x:Value)(b:Bool):Prop:=∀(E:Of)(Q:Of),Q (.bool b) s->wpAny (model prog w) A (richCompare .Eq y x) Q E s
def Dh(prog:Ox)(w:OE)(A:OG)(s:Om)(y x:Value)(b:Bool):Prop:=∀(E:Of)(Q:Of),Q (.bool b) s->wpAny (model prog w) A (richCompare .NotEq y x) Q E s
theorem ij(prog:Ox)(w:OE)(l b:Addr)(xs ys:OJ)(n m:Nat)(d1 d2:OP)(sl1 sl2:OI)(hsz:xs.size=ys.size)(e:Pr):∀(k i:Nat),xs.size-i=k->
  MeetsIn prog w (Builtin.«list.__eq__.loop» ⟨[.ref l,.ref b,rawInt i,rawInt 2],[]⟩) (λA R s=>s.heap.get? l=some { cls:=.type "list",dict:=d1,data:=.seq xs n,slots:=sl1 }/\s.heap.get? b=some { cls:=.type "list",dict:=d2,data:=.seq ys m,slots:=sl2 }/\
   (∀j (h1:j<xs.size) (h2:j<ys.size),Xf prog w A.in1 s xs[j] ys[j] (e j))/\R (.ok (.ret (.bool (((List.range xs.size).drop i).all e)))) s)
 |0,i,hk=>λA R s h=>by
  obtain⟨hp,g,d,tk,os⟩:=s;obtain⟨h1,h2,he,h⟩:=h
  wp_walk using P6 h1,P6 h2
  have o1:xs[((i:Nat):Int).toNat]?=none:=by simp;omega
  have o2:ys[((i:Nat):Int).toNat]?=none:=by simp;omega
  have od:(List.range xs.size).drop i=[]:=by simp;omega
  rw[od]at h;rw[o1,o2]
  wp_walk using P6 h1,P6 h2
  show R (.ok (.ret (.bool (xs.size==ys.size)))) _;rw[hsz];simpa using h
 |k+1,i,hk=>λA R s h=>by
  obtain⟨hp,g,d,tk,os⟩:=s;obtain⟨h1,h2,he,h⟩:=h
  wp_walk using P6 h1,P6 h2
  have l1:i<xs.size:=by omega
  have l2:i<ys.size:=by omega
  have o1:xs[((i:Nat):Int).toNat]?=some xs[i]:=by simp[l1]
  have o2:ys[((i:Nat):Int).toNat]?=some ys[i]:=by simp[l2]
  have od:(List.range xs.size).drop i=i::(List.range xs.size).drop (i+1):=by simp[List.drop_eq_getElem_cons,l1]
  have oc:((i:Int)+1)=((i+1:Nat):Int):=by push_cast;rfl
  rw[od,a0W]at h;rw[o1,o2];refine f8 (he i l1 l2 _ _ ?_);cases hb:e i with
  |true=>
   rw[hb]at h
   wp_walk
   rw[oc];exact⟨a04 a0y _,a0C a1F (by
    rw[a0u a0y _];exact ij prog w l b xs ys n m d1 d2 sl1 sl2 hsz e k (i+1) (by omega) A R _ ⟨h1,h2,he,by simpa using h⟩)⟩
  |false=>
   rw[hb]at h
   wp_walk using P6 h1,P6 h2
   rw[o1,o2]
   wp_walk
   simpa using h
def xj(prog:Ox)(w:OE)(l b:Addr)(xs ys:OJ)(n m:Nat)(d1 d2:OP)(sl1 sl2:OI)(hsz:xs.size=ys.size)(e:Pr):
  MeetsIn prog w (Builtin.«list.__eq__» ⟨[.ref l,.ref b],[]⟩) (λA R s=>s.heap.get? l=some { cls:=.type "list",dict:=d1,data:=.seq xs n,slots:=sl1 }/\s.heap.get? b=some { cls:=.type "list",dict:=d2,data:=.seq ys m,slots:=sl2 }/\
   (∀j (h1:j<xs.size) (h2:j<ys.size),Xf prog w A.in1 s xs[j] ys[j] (e j))/\R (.ok (.ret (.bool ((List.range xs.size).all e)))) s):=λA R s h=>by
 obtain⟨hp,g,d,tk,os⟩:=s;obtain⟨h1,h2,he,h⟩:=h;have f3:=a3I;have hne:¬(xs.size != ys.size)=true:=by simp[hsz]
 wp_walk using P6 h1,P6 h2
 exact⟨a04 a0y _,a0C a1F (by
  rw[a0u a0y _];exact ij prog w l b xs ys n m d1 d2 sl1 sl2 hsz e _ 0 rfl A R _ ⟨h1,h2,he,by simpa using h⟩)⟩
def pP(u:s.heap.IsList l xs)(v:s.heap.IsList b ys)(hsz:xs.size=ys.size)(q:A.units<cLine)
  (he:∀j (z:j<xs.size) (F:j<ys.size),Xf prog w A.in1 s xs[j] ys[j] (e j)):Bt prog w A s (.ref l) (.ref b) ((List.range xs.size).all e):=λE Q h=>by
 obtain⟨⟨D,t,C,a⟩,c,g,n,i⟩:=id u;obtain⟨⟨B,r,y,d⟩,o,f,m,p⟩:=id v;subst g i f p;exact a0x ⟨_,c,rfl⟩ ⟨_,o,rfl⟩ a33 (a1A a33 ⟨_,c,rfl⟩ PySem.F.entry_list_eq (PySem.F.args_list_eq_2 _ _) (xj prog w l b xs ys n m t r a d hsz e)
  ⟨c,o,he,show Value.bool _≠Value.notImplemented/\Q (.bool _) s from⟨(λx=>nomatch x),h⟩⟩) q
theorem ik(prog:Ox)(w:OE)(l b:Addr)(xs ys:OJ)(n m:Nat)(d1 d2:OP)(sl1 sl2:OI)(hsz:xs.size=ys.size)(e:Pr):∀(k i:Nat),xs.size-i=k->
  MeetsIn prog w (Builtin.«list.__eq__.loop» ⟨[.ref l,.ref b,rawInt i,rawInt 3],[]⟩) (λA R s=>s.heap.get? l=some { cls:=.type "list",dict:=d1,data:=.seq xs n,slots:=sl1 }/\s.heap.get? b=some { cls:=.type "list",dict:=d2,data:=.seq ys m,slots:=sl2 }/\
   (∀j (h1:j<xs.size) (h2:j<ys.size),Xf prog w A.in1 s xs[j] ys[j] (e j))/\R (.ok (.ret (.bool (!((List.range xs.size).drop i).all e)))) s)
 |0,i,hk=>λA R s h=>by
  obtain⟨hp,g,d,tk,os⟩:=s;obtain⟨h1,h2,he,h⟩:=h
  wp_walk using P6 h1,P6 h2
  have o1:xs[((i:Nat):Int).toNat]?=none:=by simp;omega
  have o2:ys[((i:Nat):Int).toNat]?=none:=by simp;omega
  have od:(List.range xs.size).drop i=[]:=by simp;omega
  rw[od]at h;rw[o1,o2]
  wp_walk using P6 h1,P6 h2
  show R (.ok (.ret (.bool (xs.size != ys.size)))) _;rw[hsz];simpa using h
 |k+1,i,hk=>λA R s h=>by
  obtain⟨hp,g,d,tk,os⟩:=s;obtain⟨h1,h2,he,h⟩:=h
  wp_walk using P6 h1,P6 h2
  have l1:i<xs.size:=by omega
  have l2:i<ys.size:=by omega
  have o1:xs[((i:Nat):Int).toNat]?=some xs[i]:=by simp[l1]
  have o2:ys[((i:Nat):Int).toNat]?=some ys[i]:=by simp[l2]
  have od:(List.range xs.size).drop i=i::(List.range xs.size).drop (i+1):=by simp[List.drop_eq_getElem_cons,l1]
  have oc:((i:Int)+1)=((i+1:Nat):Int):=by push_cast;rfl
  rw[od,a0W]at h;rw[o1,o2];refine f8 (he i l1 l2 _ _ ?_);cases hb:e i with
  |true=>
   rw[hb]at h
   wp_walk
   rw[oc];exact⟨a04 a0y _,a0C a1F (by
    rw[a0u a0y _];exact ik prog w l b xs ys n m d1 d2 sl1 sl2 hsz e k (i+1) (by omega) A R _ ⟨h1,h2,he,by simpa using h⟩)⟩
  |false=>
   rw[hb]at h
   wp_walk using P6 h1,P6 h2
   rw[o1,o2]
   wp_walk
   simpa using h
def xk(prog:Ox)(w:OE)(l b:Addr)(xs ys:OJ)(n m:Nat)(d1 d2:OP)(sl1 sl2:OI)(hsz:xs.size=ys.size)(e:Pr):
  MeetsIn prog w (Builtin.«list.__ne__» ⟨[.ref l,.ref b],[]⟩) (λA R s=>s.heap.get? l=some { cls:=.type "list",dict:=d1,data:=.seq xs n,slots:=sl1 }/\s.heap.get? b=some { cls:=.type "list",dict:=d2,data:=.seq ys m,slots:=sl2 }/\
   (∀j (h1:j<xs.size) (h2:j<ys.size),Xf prog w A.in1 s xs[j] ys[j] (e j))/\R (.ok (.ret (.bool (!(List.range xs.size).all e)))) s):=λA R s h=>by
 obtain⟨hp,g,d,tk,os⟩:=s;obtain⟨h1,h2,he,h⟩:=h;have f3:=a3I;have hne:¬(xs.size != ys.size)=true:=by simp[hsz]
 wp_walk using P6 h1,P6 h2
 exact⟨a04 a0y _,a0C a1F (by
  rw[a0u a0y _];exact ik prog w l b xs ys n m d1 d2 sl1 sl2 hsz e _ 0 rfl A R _ ⟨h1,h2,he,by simpa using h⟩)⟩
def pQ(u:s.heap.IsList l xs)(v:s.heap.IsList b ys)(hsz:xs.size=ys.size)(q:A.units<cLine)
  (he:∀j (z:j<xs.size) (F:j<ys.size),Xf prog w A.in1 s xs[j] ys[j] (e j)):Dh prog w A s (.ref l) (.ref b) (!(List.range xs.size).all e):=λE Q h=>by
 obtain⟨⟨D,t,C,a⟩,c,g,n,i⟩:=id u;obtain⟨⟨B,r,y,d⟩,o,f,m,p⟩:=id v;subst g i f p;exact a0x ⟨_,c,rfl⟩ ⟨_,o,rfl⟩ a34 (a1A a34 ⟨_,c,rfl⟩ PySem.F.entry_list_ne (PySem.F.args_list_ne_2 _ _) (xk prog w l b xs ys n m t r a d hsz e)
  ⟨c,o,he,show Value.bool _≠Value.notImplemented/\Q (.bool _) s from⟨(λx=>nomatch x),h⟩⟩) q
def Xf.of_refs(a:l≠b)(h:Bt prog w A s (.ref l) (.ref b) k):Xf prog w A s (.ref l) (.ref b) k:=λE Q c=>by refine W1 ?_;refine wpAny_ite_split (λz=>absurd (by grind) a) (λ_=>?_);exact f8 (h E _ (a0Z c))
def Xf.same(v:Value):Xf prog w A s v v true:=λE Q h=>a3w v prog w E Q h
abbrev IY:Addr->Prop:=λ_=>True
def LEv(C:LC)(S:Og)(c:TE)(m:ME):Prop:=∀B P H a b,Rel C.W B S P H a b->∀Q,z_ C B H (Rep C.W IY) Q (m b)->c a H Q
def EVm(X:Cx)(C:LC)(S:Og)(e:Ot)(m:ME):Prop:=X.K=C.W.K->∃a,PE X e a/\LEv C S a m
def LAv(C:LC)(S:Og)(c:TA)(m:MA):Prop:=∀B P H a b,Rel C.W B S P H a b->∀Q,cW C B H (zX C.W IY) Q (m b)->c a H Q
def AVm(X:Cx)(C:LC)(S:Og)(es:Oq)(m:MA):Prop:=X.K=C.W.K->∃a,PA X es a/\LAv C S a m
def Di(h:EM X C S w e m):EVm X C S e m:=λf=>by obtain⟨a,g,d⟩:=h f;exact⟨a,g,λB P H b c R Q q=>d B P H b c R Q (Zj q λx v i s r=>yI.iff.mp (r.weak.sub (λ_ _ _=>trivial) λ_ _ _=>trivial))⟩
def GL:AVm X C S [] zk:=λ_=>⟨_,JO,λB P H a b R Q q=>q [] H (zF.refl _) rfl⟩
def pR(h:EVm X C S e m)(t:AVm X C S es ms)(w:starEach (e::es) X.env=(false,eval e X.env)::starEach es X.env:=by rfl):AVm X C S (e::es) (zb m ms):=λi=>by
 obtain⟨z,r,l⟩:=h i;obtain⟨y,n,s⟩:=t i;refine⟨_,vi r n w,λB P H f a R Q q=>l B P H f a R _ ?_⟩;unfold zb at q;revert q;cases m a with
 |exc c fs=>exact id
 |wall=>exact id
 |ok x=>
  intro q v o b p;refine s B P o f a (R.keep b) _ ?_;have q:=q;revert q;cases ms a with
  |exc c fs=>exact id
  |wall=>exact id
  |ok d=>exact λq g j s2 u=>q (v::g) j (b.trans s2) ⟨v,g,rfl,p.same s2,u⟩
def GN(h:AVm X C S es ms):EVm X C S (.List es pos) (kH ms):=λj=>by
 obtain⟨o,e,c⟩:=h j;refine⟨_,A5 e,λB P H g d R Q q=>c B P H g d R _ (qL q λn i m l b a=>?_)⟩;split at a
 .rename_i f;exact⟨by rw[b.len];exact f,λp hp=>a _ _ (zF.upd hp) ⟨p,i,rfl,trivial,zh,b.same (zF.upd hp)⟩⟩
 .exact a.elim
end L2
namespace L2
open PySem
def Mh{c:Type}{P:List c->Prop}{us:List c}(d:us.length=1)(h:∀a,P [a]):P us:=by rcases us with _|⟨a,_|⟨b,us⟩⟩<;>first|exact h _|cases d
def Mi{d:Type}{P:List d->Prop}{us:List d}(e:us.length=2)(h:∀a b,P [a,b]):P us:=by rcases us with _|⟨a,_|⟨b,_|⟨c,us⟩⟩⟩<;>first|exact h _ _|cases e
def Mj{e:Type}{P:List e->Prop}{us:List e}(f:us.length=3)(h:∀a b c,P [a,b,c]):P us:=by rcases us with _|⟨a,_|⟨b,_|⟨c,_|⟨d,us⟩⟩⟩⟩<;>first|exact h _ _ _|cases f
def Mk{f:Type}{P:List f->Prop}{us:List f}(g:us.length=4)(h:∀a b c d,P [a,b,c,d]):P us:=by rcases us with _|⟨a,_|⟨b,_|⟨c,_|⟨d,_|⟨e,us⟩⟩⟩⟩⟩<;>first|exact h _ _ _ _|cases g
def Ml{g:Type}{P:List g->Prop}{us:List g}(i:us.length=5)(h:∀a b c d e,P [a,b,c,d,e]):P us:=by rcases us with _|⟨a,_|⟨b,_|⟨c,_|⟨d,_|⟨e,_|⟨f,us⟩⟩⟩⟩⟩⟩<;>first|exact h _ _ _ _ _|cases i
def di(z:CXe P w outer H s (λ_ _ _=>False) v s'):False:=by obtain⟨_,_,_,_,_,_,_,_,_,_,_,_,_,_,_,_,_,_,q⟩:=z;exact q
def okb{b c:Type}{a:b}{f:b->Out c}:(Out.ok a).bind f=f a:=rfl
section
variable {α:Type}{g:MG}{b:MS}{c:MT}{e:ME}{ρ ρ':Sto}{s t:MS}{m:ME}{x:PV}{mi:MI}{o:Out Fw}{i:Nat}
def zd(h:∃ρ',s ρ=.ok (.nx ρ')/\t ρ'=o):zZ s t ρ=o:=let⟨_,a,b⟩:=h;(C9 a).trans b
def Ym{fr:OF}{xs:OD}(h:mi ρ=.ok xs)(a:lcP g c e xs (Xb ρ fr) []=.ok x):mLC mi fr g c e ρ=.ok x:=by unfold mLC;rw[h,wJ,a]
def zH(h:m ρ=.ok x):yH i m ρ=.ok (.nx (ρ.set i (some x))):=by unfold yH;rw[h,wJ]
def kJ(h:mi ρ=.ok xs)(a:j9 g b xs ρ=o):Yk mi g b ρ=o:=by unfold Yk;rw[h,wJ,a]
def xl{n:Nat}(h:n<=1000000):pd [.i (n:Int)]=.ok (ic 0 n):=by unfold pd;exact(if_pos ⟨by omega,by omega⟩).trans (by rw[a0t])
def Bu(h:ms ρ=.ok [.i (n:Int)])(a:n<=1000000):Yl ms ρ=.ok (ic 0 n):=by unfold Yl;rw[h,wJ,xl a]
def aQ(h:ms ρ=.ok [.i n])(d:0<=n)(a:n<=1000000):Yl ms ρ=.ok (ic 0 n.toNat):=Bu (by grind) (by omega)
def yk(h:m ρ=.ok (.l xs)):z8 m ρ=.ok xs:=by unfold z8;rw[h];rfl
def J9:ic 0 n=(List.range n).map λk=>PV.i ((k:Nat):Int):=by exact a0T λk _=>by congr 1;omega
theorem il(n:α->PV)(J:Nat->Sto->Prop):∀(f:List α)(j:Nat)(ρ:Sto),J j ρ->(∀(k:Nat)(h:k<f.length)(ρ:Sto),J (j+k) ρ->∃d,g (n f[k]) ρ=some d/\∃a,J (j+k+1) a/\(b d=.ok (.nx a)\/b d=.ok (.ct a)))->∃ρ',J (j+f.length) ρ'/\j9 g b (f.map n) ρ=.ok (.nx ρ')
 |[],j,ρ,h,_=>⟨ρ,h,rfl⟩
 |x::f,j,ρ,h,r=>by
  obtain⟨d,y,a,z,l⟩:=r 0 (Nat.zero_lt_succ _) ρ h;obtain⟨p,w,v⟩:=il n J f (j+1) a z λk u ρ q=>by have:=r (k+1) (a3a u) ρ (by grind);rw[show j+(k+1)+1=j+1+k+1 by omega]at this;exact this
  refine⟨p,by rw[O1,show j+(f.length+1)=j+1+f.length by omega];exact w,?_⟩;rw[R7,pC,show g (n x) ρ=some d from y,J7,wJ];rcases l with l|l<;>(rw[l];exact v)
def Dj(j:α->PV)(J:Nat->Sto->Prop)(xs:List α)(ρ:Sto)(h:J 0 ρ)(l:∀(k:Nat)(h:k<xs.length)(ρ:Sto),J k ρ->∃d,g (j xs[k]) ρ=some d/\∃a,J (k+1) a/\(b d=.ok (.nx a)\/b d=.ok (.ct a))):∃ρ',J xs.length ρ'/\j9 g b (xs.map j) ρ=.ok (.nx ρ'):=by
 have:=il j J xs 0 ρ h λk n ρ f=>by have:=l k n ρ (by grind);rwa [a4o]
 rwa [a4o]at this
def xm(J:Nat->Sto->Prop)(n:Nat)(ρ:Sto)(h:J 0 ρ)(j:∀(k:Nat),k<n->∀(ρ:Sto),J k ρ->∃d,g (.i (k:Int)) ρ=some d/\∃a,J (k+1) a/\(b d=.ok (.nx a)\/b d=.ok (.ct a))):∃ρ',J n ρ'/\j9 g b (ic 0 n) ρ=.ok (.nx ρ'):=by
 have:=Dj (λk:Nat=>PV.i k) J (List.range n) ρ h λk l ρ f=>by rw[a2a];exact j k (by grind) ρ f
 rwa [a0p,<- J9]at this
end
end L2
namespace L2
open PySem PySem.Spec PyProof.Rows PySem.W
section
variable {prog:Ox}{w:OE}{A:OG}{E:Of}{h:Heap}{g:Array GenState}{d:Drawn}{t:Nat}{os:OsState}{a:Addr}{its:OJ}{n:Nat}{sl:OI}
def dj:typeLookup (.type "list") "keys"=pure none:=by kernel_rfl
def Xg:typeLookup (.type "list") "__getattr__"=pure none:=by kernel_rfl
def pS:isSubtype (.type "AttributeError") (.type "AttributeError")=pure true:=rfl
def Dk(he:h.get? e=some ⟨.type "AttributeError",none,.fields #[T,.none,.none,.none,.bool false,X,rawInt 0,rawInt 0],#[]⟩)
  (m:∀c,(∀b o,b≠e->h.get? b=some o->c.get? b=some o)->(∃i,c.get? e=some i/\i.cls=.type "AttributeError")->Q () ⟨c,g,d,t,os⟩):
  wpAny (model prog w) A (noteAttr (.ref e) o name) Q E ⟨h,g,d,t,os⟩:=by
 have f:(⟨h,g,d,t,os⟩:Shared).TypeIs (.ref e) "AttributeError":=⟨_,he,rfl⟩;refine f8 ?_;refine f8 (a07 f pS ?_);refine f8 (a21 he ?_);dsimp only;refine v4 ?_;refine f8 (a22 ?_);refine f8 (a1z f ?_);refine f8 (a21 he ?_);refine wpAny_update he ?_;refine m _ (λb o j l=>(T9 _ _ (Ne.symm j)).trans l) ⟨_,a0w _ he rfl,rfl⟩
def mw(hh:A.handled=none)(hx:h.get? a=some ⟨.type "list",none,.seq its n,sl⟩)
  (hE:∀h' tk e,(∀b o,h.get? b=some o->h'.get? b=some o)->(∃oe,h'.get? e=some oe/\oe.cls=.type "AttributeError")->E (.ref e) ⟨h',g,d,tk,os⟩):
  wpAny (model prog w) A (Builtin.«object.__getattribute__» ⟨[.ref a,.str "keys" tk],[]⟩) Q E ⟨h,g,d,t,os⟩:=by
 have hT:(⟨h,g,d,t,os⟩:Shared).TypeIs (.ref a) "list":=⟨_,hx,rfl⟩;have f4:=dj
 repeat(any_goals(first|assumption|wp_step))
 unfold raiseAttrError;refine f8 (wpAny_mkStr (f8 ?_) (by decide +kernel));unfold newExc newTuple;refine f8 (a0O ?_);refine f8 (m:=firstArgMember _ _) (a2O (a:=Value.none) (by simp only[firstArgMember];kernel_rfl) ?_);refine a0O ?_;refine f8 (a27 (f8 ?_));refine Dk (P9 _ rfl) λh' hk he=>?_;unfold raiseNew;refine f8 (wpAny_handled ?_);rw[hh]
 first
  |refine a4z ?_
  |refine f8 (v4 (a4z ?_))
 exact hE _ _ _ (λb o e=>hk b o (P1 (R8 (O8 e) (by simp))) (O0 _ (O0 _ e))) he
def pT(j:A.handled=none)(i:h.get? a=some ⟨.type "list",none,.seq its n,sl⟩)
  (l:∀c tk e,(∀b o,h.get? b=some o->c.get? b=some o)->(∃f,c.get? e=some f/\f.cls=.type "AttributeError")->R (.error (.ref e)) ⟨c,g,d,tk,os⟩):
  codeAny (model prog w) A (.call (.builtin "list.__getattribute__") ⟨[.ref a,.str "keys" tk],[]⟩) R ⟨h,g,d,t,os⟩:=
 a1a F.slot_list_getattribute.plain F.entry_list_ga (F.slot_list_getattribute.check _ _ _ _ _ _ _ _ (show(⟨h,g,d,t,os⟩:Shared).TypeIs (.ref a) "list" from⟨_,i,rfl⟩) (F.args_list_getattribute_2 _ _) (mw j i l))
def Dl(l:A.handled=none)(j:h.get? a=some ⟨.type "list",none,.seq its n,sl⟩)(u:∀c tk,(∀b o,h.get? b=some o->c.get? b=some o)->Q none ⟨c,g,d,tk,os⟩):
  wpAny (model prog w) A (getAttr? (.ref a) "keys") Q E ⟨h,g,d,t,os⟩:=by
 have r:∀t,(⟨h,g,d,t,os⟩:Shared).TypeIs (.ref a) "list":=λt=>⟨_,j,rfl⟩;have s:=F.slot_list_getattribute.lookup;have m:=F.slot_list_getattribute.bind (.ref a);refine f8 (a27 ?_);refine f8 (a1X ?_);refine W1 ?_;refine f8 (a1z (r _) ?_);refine f8 (a2O s ?_);dsimp only;unfold getAttrByItsOwn hookBefore;refine f8 (v4 ?_);refine f8 (a1X ?_);refine W1 ?_;unfold callGetattribute;refine f8 (a2O m ?_);refine a1i (pT l j λc tk e p i=>?_);obtain⟨v,i,q⟩:=i;have f:(⟨c,g,d,tk,os⟩:Shared).TypeIs (.ref e) "AttributeError":=⟨_,i,q⟩;refine f8 (a07 f pS ?_);rw[if_pos rfl];unfold hookBehind;refine f8 (a2O Xg ?_);unfold hookOrError attributeErrorLeaves;refine f8 (a4z ?_);refine f8 (a07 f pS ?_);exact v4 (u c tk p)
end
def QF:entryFor table "dict.update.loop"=some Builtin.«dict.update.loop»:=entryFor_of_tree (by kernel_rfl)
def jN:plainId "dict.update.loop"=true:=by decide +kernel
section
variable {prog:Ox}{w:OE}{A:OG}{R:Result->Shared->Prop}{I:Addr}{fp wr:OX}{G:Array GenState->Array GenState->Prop}{n:Nat}{P:Pj}{St:Ph}{K:Type}[DecidableEq K] {knd:KeyKind prog w K}
def TupAt(h:Heap)(a:Addr)(k v:Value):Prop:=∃o m,h.get? a=some o/\o.cls=.type "tuple"/\o.data=.seq #[k,v] m
def uh(key:Nat->K)(val:Pq):Nat->List (K×Value)
 |0=>[]
 |i+1=>stored (uh key val i) (key i) (val i)
theorem aR(key:Nat->K)(val:Pq):∀i,(uh key val i).length<=i
 |0=>O2 _
 |i+1=>by
  have:=aR key val i;unfold uh stored;split
  .rw[u8];omega
  .rw[P2];show _+1<=_;omega
def xn(W:WalksS prog w A.in1 I fp wr G n P St)(D:Addr)(t:D∉fp)(key:Nat->K)(kv val:Pq)(ad:Oy)(hP:∀i v,P i v->v=.ref (ad i))(hk:∀i,i<n->knd.is (key i) (kv i)=true)(hw:∀i,i<n->ad i∉D::wr)(hn:n<=sizeLine):
  ∀(k i:Nat)(tk:Tok)(s:Om),n-i=k->i<=n->St i s->(∀j,j<n->TupAt s.heap (ad j) (kv j) (val j))->s.heap.DictOf knd D (uh key val i)->
   (∀a,Moved (D::wr) G s a->a.heap.DictOf knd D (uh key val n)->R (.ok (.ret .none)) a)->
   codeAny (model prog w) A (.builtin "dict.update.loop" ⟨[.ref D,.ref I,.int (i:Int) tk,.none],[]⟩) R s:=by
 have p:=λh=>t (W.sub _ h);have d:∀b∈wr,b∈D::wr:=λb B=>O6 _ B;have y:∀{s a:Om},Moved (D::wr) G s a->(∀j,j<n->TupAt s.heap (ad j) (kv j) (val j))->∀j,j<n->TupAt a.heap (ad j) (kv j) (val j):=λf h j hj=>by obtain⟨o,m,C,Q,J⟩:=h j hj;exact⟨o,m,f.heap _ _ (hw j hj) C,Q,J⟩
 intro k
 induction k with
 |zero=>
  intro i tk s S hi g N X F;have H:i=n:=by omega
  subst H;refine a0C QF ?_;refine f8 (W.done s _ _ g λa f=>?_);refine f8 ?_;refine v4 ?_;exact v4 (F a (f.mono d) (by
   obtain⟨o,L,O,U,rest⟩:=X;exact⟨o,L,O,f.heap D _ p U,rest⟩))
 |succ k ih=>
  intro i tk s S hi g N X F;have c:i<n:=by omega
  refine a0C QF ?_;refine f8 (W.item i s _ _ c g λv a hPv l f=>?_);cases hP i v hPv;have z:=f.mono d;have Z:=y z N;obtain⟨o,m,C,Q,J⟩:=Z i c;have Y:a.heap.DictOf knd D (uh key val i):=by obtain⟨o,L,O,U,rest⟩:=X;exact⟨o,L,O,f.heap D _ p U,rest⟩
  have hT:a.TypeIs (.ref (ad i)) "tuple":=⟨o,C,Q⟩;refine f8 (W1 (f8 (wpAny_tryCatch ?_)));refine f8 (a1z hT ?_);refine f8 (f8 (a21 C ?_));rw[J];refine v4 (v4 ?_);refine W1 (wpAny_dictSet_pairs (hsz:=P8 (aR key val i) (P8 hi hn)) (hk i c) Y λh' M x=>?_);have e1:(i+1)=((i+1:Nat):Int):=by omega
  have u:=z.then_heap (a0Y _) λb o B e=>by rw[x.2 b (λh:b=D=>B (by grind))];exact e
  refine v4 ⟨a04 jN _,?_⟩;refine ih (i+1) 0 _ (by omega) c (W.frame _ a _ _ l (a0Y _) λb B o e=>?_) (y u N) M λE r q=>F E (Moved.trans W.gtrans u r) q;rw[x.2 b (λh:b=D=>t (by grind))];exact e
end
section
variable {prog:Ox}{w:OE}{A:OG}{E:Of}{s:Om}{K:Type}[DecidableEq K] {knd:KeyKind prog w K}
def aS{l:Addr}{items:OJ}{m:Nat}{sl:OI}{Q:Of}{key:Nat->K}{kv val:Pq}{ad:Oy}(hh:A.handled=none)(hl:s.heap.get? l=some ⟨.type "list",none,.seq items m,sl⟩)
  (hP:∀i,i<items.size->items[i]?=some (.ref (ad i))) (ht:∀i,i<items.size->TupAt s.heap (ad i) (kv i) (val i)) (hk:∀i,i<items.size->knd.is (key i) (kv i)=true) (hn:items.size<=sizeLine)
  (h:∀h' tk,(∀b o,s.heap.get? b=some o->h'.get? b=some o)->h'.DictOf knd s.heap.objs.size (uh key val items.size)->Q (.ref s.heap.objs.size) { s with heap:=h',toks:=tk }):
  wpAny (model prog w) A (call (.type "dict") [.ref l]) Q E s:=by
 refine callType_codes (Q₁:=λobj s₁=>obj=.ref s.heap.objs.size/\s₁={ s with heap:=s.heap.push { cls:=.type "dict",data:=.dict #[] } }) F.kt_called_dict (F.kt_typeCall_dict_1 _) F.entry_dict_init (kt_code_dict_new _ ⟨rfl,rfl⟩) ?_
 rintro obj s₁ ⟨rfl,rfl⟩
 have hnew:(s.heap.push { cls:=.type "dict",data:=.dict #[] }).DictOf knd s.heap.objs.size []:=Heap.DictOf.new s.heap;have hl':(s.heap.push { cls:=.type "dict",data:=.dict #[] }).get? l=some ⟨.type "list",none,.seq items m,sl⟩:=O0 _ hl;refine⟨hnew.typeIs,F.args_dict_init_2 _ _,?_⟩;unfold Builtin.«dict.__init__»;refine f8 ?_;unfold Builtin.Dict.selfAndRest;refine f8 (a2u hnew.typeIs ?_);show wpAny _ _ (pure (s.heap.objs.size,[Value.ref l])) _ _ _;refine v4 ?_;show wpAny _ _ (Builtin.Dict.updateFrom "dict.__init__" s.heap.objs.size (.ref l) [] .none) _ _ _;unfold Builtin.Dict.updateFrom;refine f8 (a1z (T:="list") ⟨_,hl',rfl⟩ ?_);rw[if_pos (by decide)];refine f8 ?_;refine Dl hh hl' λh1 t1 k1=>?_;rw[if_pos (show(none:Option Value).isNone=true from rfl)];refine f8 (a22 ?_);have hl1:h1.get? l=some ⟨.type "list",none,.seq items m,sl⟩:=k1 _ _ hl';have hil:h1.IsList l items:=⟨_,hl1,rfl,m,rfl⟩;refine f8 (a2j hil ?_);have D1:h1.DictOf knd s.heap.objs.size []:=by obtain⟨o,es,ep,ho,rest⟩:=hnew;exact⟨o,es,ep,k1 _ _ ho,rest⟩
 have ls:l<s.heap.objs.size:=O8 hl;have l1:l<h1.objs.size:=O8 hl1;have ds:s.heap.objs.size<h1.objs.size:=by obtain⟨o,_,_,ho,_⟩:=D1;exact O8 ho
 have hne:l≠h1.objs.size:=P1 l1;have kp:∀b o,h1.get? b=some o->(h1.push { cls:=.type "list_iterator",data:=.fields #[.ref l,.int 0 0] }).get? b=some o:=λb o e=>O0 _ e;have tl:∀j,j<items.size->ad j<s.heap.objs.size:=λj hj=>by obtain⟨o,_,h1,_⟩:=ht j hj;exact O8 h1
 refine v4 ⟨a04 jN _,xn (knd:=knd) (Walks.list (A:=A.in1.in1) hh h1.objs.size l hne items).toS s.heap.objs.size (by simp;exact⟨P1 ds,a0B ls⟩) key kv val ad (λi v hv=>?_) hk (λi hi=>?_) hn items.size 0 0 _ (by omega) (a0c _) ⟨⟨_,P9 _ rfl,rfl,rfl⟩,?_⟩ (λj hj=>?_) ?_ λs' hm hD=>?_⟩
 .have hi:i<items.size:=by
   by_cases c:i<items.size
   .exact c
   .rw[a3H (by omega)]at hv;cases hv
  rw[hP i hi]at hv;cases hv;rfl
 .have:=tl i hi;intro hm;rcases P7.mp hm with e|hm
  .exact P1 this e
  .exact P1 (a1R this ds) (T6.mp hm)
 .exact⟨_,kp _ _ hl1,rfl,m,rfl⟩
 .obtain⟨o,q,e1,e2,e3⟩:=ht j hj;exact⟨o,q,kp _ _ (k1 _ _ (O0 _ e1)),e2,e3⟩
 .obtain⟨o,es,ep,ho,rest⟩:=D1;exact⟨o,es,ep,kp _ _ ho,rest⟩
 .rw[a4c hm];refine⟨rfl,h s'.heap s'.toks (λb o e=>hm.heap b o (λhmem=>?_) (kp _ _ (k1 _ _ (O0 _ e)))) hD⟩;have:=O8 e;rcases P7.mp hmem with e'|hm
  .exact P1 this e'
  .exact P1 (a1R this ds) (T6.mp hm)
end
section
variable {X:Cx}
def aT(K:OL)(H:Hp):List V->List (Key×V)->Prop
 |[],b=>b=[]
 |x::c,b=>∃a k v r,x=.ref a/\b=(k,v)::r/\SqT K H a [kV k,v]/\aT K H c r
def pV(es:Ov):List (Key×V):=es.foldl (λa b=>putK a b.1 b.2) []
def Bv(K:OL):List V->Hp->VK->Prop:=λc H Q=>∃(p:Addr)(b:Ow)(a:Ov),c=[.ref p]/\SqL K H p b/\aT K H b a/\∀l,H l=none->Q (.ref l) (upd H l (.dK (pV a)))
theorem ip{pins:Oh}{σ:St}{H:Hp}{s:Om}(I:Inv X pins σ H s):∀{g:Ow}{d:Ov}{b:Oo},aT X.K H g d->Vals g b->∃c:List (Addr×Value×Value),b=c.map (λp=>Value.ref p.1)/\c.length=d.length/\(∀p∈c,TupAt s.heap p.1 p.2.1 p.2.2)/\∀(i:Nat) p e,c[i]?=some p->d[i]?=some e->RelV (kV e.1) p.2.1/\RelV e.2 p.2.2
 |[],_,b,h,r=>by cases h;cases r;exact⟨[],rfl,rfl,(λ_ h=>by cases h),λ_ _ _ h=>by cases h⟩
 |x::g,_,b,h,r=>by
  obtain⟨a,k,v,d,rfl,rfl,w,z⟩:=h;cases r with
  |cons u r=>
   cases u;obtain⟨c,B,l,y,A⟩:=ip I z r;obtain⟨G,j,⟨o,t,E,m,n⟩,_⟩:=I.tuple w;obtain⟨C,D,rfl,q,F⟩:=vals2 j;refine⟨(a,C,D)::c,by rw[B];rfl,by rw[O1,O1,l],λp hp=>?_,λi p e hp f=>?_⟩
   .rcases P7.mp hp with rfl|hp
    .exact⟨o,m,t,E,n⟩
    .exact y p hp
   .cases i with
    |zero=>cases hp;cases f;exact⟨q,F⟩
    |succ i=>exact A i p e hp f
theorem pW{es:Ov}{key:Nat->Key}{val:Pq}:∀n,n<=es.length->(∀i e,i<n->es[i]?=some e->key i=e.1/\RelV e.2 (val i))->KV ((es.take n).foldl (λb c=>putK b c.1 c.2) []) (uh key val n)
 |0,_,_=>.nil
 |n+1,m,h=>by have a:=m;have d:=O3 a;rw[List.take_succ,d,List.foldl_append];obtain⟨g,f⟩:=h n _ (a1V n) d;show KV (putK _ _ _) (stored (uh key val n) (key n) (val n));rw[g];exact(pW n (a1k a) λi e l j=>h i e (a1v l) j).put _ f
def mx(R:X.calm=true):jR X (.type "dict") (Bv X.K):=by
 intro O s σ H T Z Q I r h;obtain⟨p,T,b,rfl,W,hp,q⟩:=h;obtain⟨u,rfl,P⟩:=vals1 r;cases P;obtain⟨w,B,⟨o,m,S,M,F,L⟩,hz⟩:=I.list W;obtain⟨g,K,E,U,J⟩:=ip I hp B;have d:w.length=b.length:=by rw[K,u8,E]
 have z:∀i,i<b.length->∃a,g[i]?=some a/\b[i]?=some (b.getD i (.inl 0,.non))/\g.getD i (0,.none,.none)=a:=λi c=>by
  have y:i<g.length:=by rw[E];exact c
  refine⟨g[i],O3 y,by rw[a0k,O3 c];rfl,by rw[a0k,O3 y];rfl⟩
 have f:w.toArray.size=b.length:=by simpa using d
 obtain⟨cls,D,G,A⟩:=o;subst M F L;refine a0g (by ac_rfl)<|aS (knd:=z9 X.prog X.w) (key:=λi=>(b.getD i (.inl 0,.non)).1) (kv:=λi=>(g.getD i (0,.none,.none)).2.1) (val:=λi=>(g.getD i (0,.none,.none)).2.2) (ad:=λi=>(g.getD i (0,.none,.none)).1) (I.ok.hd R) S (λi c=>?_) (λi c=>?_) (λi c=>?_) ?_ λh' tk Y N hn=>?_
 .rw[f]at c;obtain⟨a,j,_,l⟩:=z i c;simp[K,j]
 .rw[f]at c;obtain⟨a,j,_,l⟩:=z i c;rw[l];exact U a (a1x j)
 .rw[f]at c;obtain⟨a,j,x,l⟩:=z i c;rw[l];exact cG (J i a _ j x).1
 .rw[f,<- d,<- B.length];exact hz
 .rw[f]at N;have v:KV (pV b) (uh (λi=>(b.getD i (.inl 0,.non)).1) (λi=>(g.getD i (0,.none,.none)).2.2) b.length):=by
   have:=pW (key:=λi=>(b.getD i (.inl 0,.non)).1) (val:=λi=>(g.getD i (0,.none,.none)).2.2) b.length (O2 _) λi e c x=>?_
   .rwa [a2o]at this
   .obtain⟨a,j,t,l⟩:=z i c;rw[x]at t;cases t;rw[l];exact⟨by rw[a0k,x],(J i a _ j x).2⟩
  have C:=I.hok.fresh (O2 s.heap.objs.size);refine⟨.ref s.heap.objs.size,_,I.laid Y (O2 _) (gW ?_ (a0R.mpr (Ne.symm (P1 I.big))) v N),rfl,q _ C⟩;rw[v.length];refine P8 (aR _ _ _) ?_;rw[<- d,<- B.length];exact hz
end
def Bw:List PV->Option (List (Key×PV))
 |[]=>some []
 |.t [k,v]::a=>(pk k).bind λq=>(Bw a).map ((q,v)::·)
 |_=>none
def Xh(es:Oz):List (Key×PV):=es.foldl (λa b=>dput a b.1 b.2) []
def Yv:List PV->Out PV
 |[.d a]=>.ok (.d a)
 |[.l a]=>wD ((Bw a).map λb=>.d (Xh b))
 |_=>.wall
section
variable {W:RC}{M:Ol}{H:Hp}
theorem pX:∀{b:OD}{f:Ow}{a:Oz},zX W M H b f->Bw b=some a->∃ev,aT W.K H f ev/\y8 W M H a ev
 |[],_,_,h,e=>by cases e;cases h;exact⟨[],rfl,rfl⟩
 |x::b,_,a,h,e=>by
  obtain⟨v,r,rfl,g,n⟩:=h;unfold Bw at e;split at e
  .cases ‹_::_=[]›
  .rename_i k y z d;cases d;obtain⟨q,s,e⟩:=S7.mp e;obtain⟨u,hz,rfl⟩:=v1.mp e;obtain⟨ev,m,i⟩:=pX n hz;obtain⟨p,t,rfl,hp,A,w,rfl,o,c,B,rfl,j,l⟩:=g;cases l;cases fC (yI.iff.mpr o) s;exact⟨(q,c)::ev,⟨p,q,c,ev,rfl,rfl,hp,m⟩,⟨c,ev,rfl,j,i⟩⟩
  .cases e
theorem UU:∀{es:Oz}{ev:Ov}{a:Oz}{av:Ov},y8 W M H a av->y8 W M H es ev->y8 W M H (es.foldl (λacc kv=>dput acc kv.1 kv.2) a) (ev.foldl (λacc kv=>putK acc kv.1 kv.2) av)
 |[],_,_,_,h,e=>by cases e;exact h
 |kx::es,_,a,av,h,⟨v,q,e,h1,h2⟩=>by subst e;rw[a00,a00];exact UU (av:=putK av kx.1 v) (h.put h1) h2
def xo:LfF W (λd H Q=>GK d H Q\/Bv W.K d H Q) Yv:=λM C B H m d Q n h q=>by
 unfold Yv at q;split at q
 .obtain⟨v,r,rfl,⟨p,f,rfl,_,a,b⟩,c⟩:=h;cases(show _=_ from c);exact .inl ⟨p,f,rfl,a,λl a=>q _ _ (zF.upd a) (CW b a)⟩
 .obtain⟨z,e,q⟩:=yU q;obtain⟨f,j,rfl⟩:=v1.mp e;obtain⟨v,r,rfl,⟨p,ws,rfl,_,a,b⟩,c⟩:=h;cases(show _=_ from c);obtain⟨ev,i,g⟩:=pX b j;exact .inr ⟨p,ws,ev,rfl,SqL.of a,i,λl a=>q _ _ (zF.upd a) (CW (UU (show y8 W M H [] []from rfl) g) a)⟩
 .exact q.elim
end
def WE(b:X.calm=true)(d:Gl X "dict")(c:X.mg "dict"=none)(a:AM X C S ws [e] ms)(he:starEach [e] X.env=[(false,eval e X.env)]:=by rfl):FM X C S (.Call (.Name "dict" p) [e] [] pos) (zf Yv ms):=
 hX (λf=>f▸mr.or (mx b)) xo d c PyProof.Rows.boot_dict a (he:=he)
section
variable {prog:Ox}{w:OE}{A:OG}{E:Of}{s:Om}
def len_dict:typeLookup (.type "dict") "__len__"=pure (some (.builtin "dict.__len__")):=by kernel_rfl
def pY(a:s.TypeIs (.ref d) "dict")(h:Q false s):wpAny (model prog w) A (Builtin.List.listLengthHint (.ref d)) Q E s:=by
 refine f8 (wpAny_specialOf a len_dict ?_);generalize hid:("dict.__len__":String)=id0
 (fail_if_success (clear hid id0));wp_delta
 rw[show splitId id0=some ("dict","__len__")from by subst hid;decide +kernel];refine f8 (a07 (b:=true) a rfl ?_);subst hid;rw[if_neg (by decide)];refine f8 (a1z a ?_);exact v4 h
variable {K:Type}[DecidableEq K] {knd:KeyKind prog w K}
def Dm{Q:Of}{d:Addr}{kvs:List (K×Value)}{ep:Nat}(U:A.handled=none)(hd:(d==sysModules)=false)(hm:s.heap.DictAt knd d kvs ep)(W:kvs.length<=sizeLine)
  (hQ:∀H tk c N,(∀b o,s.heap.get? b=some o->H.get? b=some o)->H.get? s.heap.objs.size=some { cls:=.type "list",dict:=none,data:=.seq c N,slots:=#[] }->ItemsOf (λi v=>∃k x,kvs[i]?=some (k,x)/\knd.is k v=true) c kvs.length->Q (.ref s.heap.objs.size) { s with heap:=H,toks:=tk }):
  wpAny (model prog w) A (call (.type "list") [.ref d]) Q E s:=by
 have R:d<s.heap.objs.size:=by obtain⟨o,_,ho,_⟩:=hm;exact O8 ho
 refine callType_codes (Q₁:=λy g=>y=.ref s.heap.objs.size/\g={ s with heap:=s.heap.push { cls:=.type "list",data:=.seq #[] } }) PySem.F.called_list (PySem.F.typeCall_list_1 _) PySem.F.entry_list_init
  (code_list_new _ ⟨rfl,rfl⟩) λy g r=>?_
 obtain⟨rfl,rfl⟩:=r;have I:(s.heap.push { cls:=.type "list",data:=.seq #[] }).get? s.heap.objs.size=some { cls:=.type "list",data:=.seq #[] }:=P9 _ rfl;refine⟨⟨_,I,rfl⟩,PySem.F.args_list_init_2 _ _,?_⟩;refine f8 ?_;refine f8 (wpAny_seqItems I rfl (v4 ?_));refine f8 (a14 I rfl ?_);have a:=a0w (Obj.mapSeq (λ_=>(#[]:Array Value))) I rfl;refine f8 (wpAny_letGo ?_);have M:∀b o,s.heap.get? b=some o->((s.heap.push { cls:=.type "list",data:=.seq #[] }).update s.heap.objs.size (Obj.mapSeq (λ_=>(#[]:Array Value)))).get? b=some o:=λb o e=>
  (T9 _ _ (a0B (O8 e))).trans (O0 _ e)
 generalize((s.heap.push { cls:=.type "list",data:=.seq #[] }).update s.heap.objs.size (Obj.mapSeq (λ_=>(#[]:Array Value))))=h2 at a M;have l:=hm.at' λo e=>M _ _ e;have B:∀{n:Om},n.heap.DictAt knd d kvs ep->n.TypeIs (.ref d) "dict":=λz=>z.dictOf.typeIs;refine f8 (a1z (B l) ?_);have f:=a0B R;have Y:Builtin.List.listSameRef (.ref s.heap.objs.size) (.ref d)=false:=by simp[Builtin.List.listSameRef,f]
 rw[if_neg (by grind)];refine f8 (a20 hd l ?_);have m:∀b o,h2.get? b=some o->(h2.push { cls:=.type "dict_keyiterator",data:=.fields #[.ref d,.int 0 0,.int kvs.length 0,.int ep 0] }).get? b=some o:=λb o e=>O0 _ e;have j:=l.at' λo e=>m _ _ e;refine f8 (W1 (pY (B j) ?_));refine f8 (a22 ?_);have s2:=O8 a;have Z:=P1 (a1R R s2);have h:=m _ _ a;have q:(h2.push { cls:=.type "dict_keyiterator",data:=.fields #[.ref d,.int 0 0,.int kvs.length 0,.int ep 0] }).get? h2.objs.size=some { cls:=.type "dict_keyiterator",data:=.fields #[.ref d,.int 0 0,.int kvs.length 0,.int ep 0] }:=P9 _ rfl;have O:=λb o e=>m _ _ (M b o e);generalize(h2.push { cls:=.type "dict_keyiterator",data:=.fields #[.ref d,.int 0 0,.int kvs.length 0,.int ep 0] })=h3 at h q O j;refine f8 (f8 (a14 h rfl ?_));have t:=a0w (Obj.mapSeq (λx:Array Value=>x.push Value.none)) h rfl;refine a14 t rfl ?_;have D:=a0w (Obj.mapSeq (λx:Array Value=>x.pop)) t rfl;have L:∀b o,b≠s.heap.objs.size->h3.get? b=some o->((h3.update s.heap.objs.size (Obj.mapSeq λx=>x.push Value.none)).update s.heap.objs.size (Obj.mapSeq λx=>x.pop)).get? b=some o:=λb o S e=>
  (T9 _ _ (Ne.symm S)).trans ((T9 _ _ (Ne.symm S)).trans e)
 have C:=j.at' λo e=>L _ _ (Ne.symm f) e;have u:=L _ _ (a0B s2) q;have P:=λb o e=>L b o (P1 (O8 e)) (O b o e);generalize((h3.update s.heap.objs.size (Obj.mapSeq λx=>x.push Value.none)).update s.heap.objs.size (Obj.mapSeq λx=>x.pop))=h5 at D C u P;refine v4 ⟨a04 a23 _,a35 (Walks.dictKeys (A:=A.in1.in1) U h2.objs.size d Z kvs ep).toS W s.heap.objs.size (by grind) _ kvs.length 0 _ _ _ rfl (a0c _) (show _/\_ from⟨⟨_,u,rfl,rfl⟩,C⟩) D (ItemsOf.nil _) λn c N G J p=>?_⟩;rw[a4c G];refine⟨rfl,hQ n.heap n.toks c N (λb o e=>G.heap b o (λF=>?_) (P b o e)) J p⟩;have:=O8 e;rcases P7.mp F with X|hm
 .exact P1 this X
 .exact P1 (a1R this s2) (T6.mp hm)
end
section
variable {X:Cx}
def Bx:List V->Hp->VK->Prop:=λc H Q=>∃p a,c=[.ref p]/\Rd H p (.dK a)/\∀l,H l=none->Q (.ref l) (upd H l (.lst (a.map λb=>kV b.1)))
def my(F:X.calm=true):jR X (.type "list") Bx:=by
 intro m s Z H Y T Q I r h;obtain⟨p,G,rfl,O,q⟩:=h;obtain⟨u,rfl,t⟩:=vals1 r;cases t;obtain⟨z,R,l,a,o,C,i,N,E,L,M,K,J⟩:=wC I.hok O;have d:=a.length.symm;refine a0g (by ac_rfl)<|Dm (I.ok.hd F) R ⟨o,C,N,E,L,M,K,J⟩ (by omega) λh' tk f c' P B g W=>?_
 refine ie I (O2 _) P B ?_ ?_ ?_ q
 .rw[u8];exact z
 .rw[u8,g.1,d]
 .intro j x v c A;obtain⟨k,y,b,D⟩:=g.2 j v A;rw[S5]at c;obtain⟨e,S,rfl⟩:=v1.mp c;obtain⟨U,w⟩:=dg a S;rw[w]at b;cases b;exact dh D
end
def kK:List PV->Out PV
 |[.l a]=>.ok (.l a)
 |[.t a]=>.ok (.l a)
 |[.sc a]=>.ok (.l (a.map PV.i))
 |[.d b]=>.ok (.l (b.map λc=>kP c.1))
 |_=>.wall
theorem aU{W:RC}{M:Ol}{H:Hp}:∀{a:Oz}{c:Ov},y8 W M H a c->zX W M H (a.map λb=>kP b.1) (c.map λd=>kV d.1)
 |[],_,h=>by cases(show _=_ from h);rfl
 |b::r,_,⟨v,q,e,g,f⟩=>by subst e;exact⟨_,_,rfl,pM _,aU f⟩
def xp(L:LfF W r CV):LfF W (λa H Q=>r a H Q\/Bx a H Q) kK:=λM C B H f a Q n h q=>by
 unfold kK at q;split at q
 .exact .inl (L M C B H _ a Q n h q)
 .exact .inl (L M C B H _ a Q n h q)
 .exact .inl (L M C B H _ a Q n h q)
 .obtain⟨v,r,rfl,⟨p,e,rfl,_,b,c⟩,d⟩:=h;cases(show _=_ from d);exact .inr ⟨p,e,rfl,b,λl b=>q _ _ (zF.upd b) (JW (aU c) b)⟩
 .exact q.elim
def ZC(b:X.calm=true)(d:Gl X "list")(c:X.mg "list"=none)(a:AM X C S ws [e] ms)(he:starEach [e] X.env=[(false,eval e X.env)]:=by rfl):FM X C S (.Call (.Name "list" p) [e] [] pos) (zf kK ms):=
 hX (λf=>f▸cC.or (my b)) (xp CY) d c a3J a (he:=he)
def GO:List V->Hp->VK->Prop:=λa H Q=>∃b:Bool,a=[.bl b]/\Q (.int (if b then 1 else 0)) H
def pZ:jR X (.type "int") GO:=by intro a s d H f e Q I r h;obtain⟨b,rfl,q⟩:=h;obtain⟨u,rfl,c⟩:=vals1 r;cases c;exact call_int_bool ⟨.int _,H,I.tok _,⟨_,rfl⟩,q⟩
def dk:List PV->Out PV
 |[.b c]=>.ok (.i (if c then 1 else 0))
 |_=>.wall
def Dp:LfC W GO dk:=λM C B H c d Q n h q=>by
 unfold dk at q;split at q
 .obtain⟨v,r,rfl,b,a⟩:=h;cases a;cases b;exact⟨_,rfl,q _ H (zF.refl _) rfl⟩
 .exact q.elim
def Dq(a:Gl X "int")(c:X.mg "int"=none)(b:AM X C S ws [e] ms)(he:starEach [e] X.env=[(false,eval e X.env)]:=by rfl):EM X C S false (.Call (.Name "int" p) [e] [] pos) (zf dk ms):=
 u6 (λ_=>pZ) Dp a c PyProof.Rows.Boot.int b (he:=he)
end L2
namespace L2
section
variable {κ α:Type}[DecidableEq κ]
def qj{k j:κ}{v:α}{r:List (κ×α)}:qB ((j,v)::r) k=if j=k then some v else qB r k:=by
 unfold qB;rw[a3z];by_cases h:j=k
 .simp[h]
 .simp[h]
theorem WG:∀{a:List (κ×α)}{k:κ},a.any (λb=>decide (b.1=k))=(qB a k).isSome
 |[],_=>rfl
 | (j,v)::r,k=>by
  rw[a0X,qj,WG];by_cases h:j=k
  .simp[h]
  .simp[h]
def dm{a:List (κ×α)}{k:κ}{v:α}:(dput a k v).map (·.1)=if(qB a k).isSome=true then a.map (·.1)else a.map (·.1)++[k]:=by
 unfold dput;rw[WG];split
 .rw[S4];refine a0T λb _=>?_;show(if b.1=k then(b.1,v)else b).1=b.1;split<;>rfl
 .rw[T5];rfl
theorem Qt:∀{a:List (κ×α)}{k:κ}{v:α},qB a k=some v->(k,v)∈a
 |[],_,_,e=>by cases e
 | (j,u)::a,k,v,e=>by
  rw[qj]at e;split at e
  .rename_i h;subst h;cases e;exact O7
  .exact O6 _ (Qt e)
def J_{a:List (κ×α)}{k:κ}:(qB a k).isSome=true↔k∈a.map (·.1):=by
 rw[<- WG,a3b];constructor
 .rintro ⟨b,h,e⟩;exact O9.mpr ⟨b,h,a0P e⟩
 .intro h;obtain⟨b,h,e⟩:=O9.mp h;exact⟨b,h,O5 e⟩
def mz{a:List (κ×α)}{k:κ}{v:α}(h:(a.map (·.1)).Nodup):((dput a k v).map (·.1)).Nodup:=by
 rw[dm];split
 .exact h
 .rename_i n;refine a0Q.mpr ⟨h,by simp,λx c y b z=>?_⟩;obtain rfl:y=k:=by simpa using b
  subst z;exact n (J_.mpr c)
theorem iq:∀{a b:List κ},a.Nodup->(∀x∈a,x∈b)->a.length<=b.length
 |[],b,_,_=>a0c _
 |x::a,b,f,h=>by obtain⟨e,g⟩:=a0r.mp f;have d:=h x O7;have:=iq (b:=b.erase x) g λy c=>(a36 (show y≠x from λz=>e (z▸c))).mpr (h y (O6 _ c));rw[a3c d]at this;have:=a2l d;rw[O1];omega
theorem yV:∀{a:List (κ×α)}{k:κ}{v:α},(a.map (·.1)).Nodup->(k,v)∈a->qB a k=some v
 | (j,u)::a,k,v,c,h=>by
  obtain⟨b,d⟩:=a0r.mp c;rw[qj];rcases P7.mp h with e|h
  .cases e;rw[if_pos rfl]
  .rw[if_neg (λz=>b (O9.mpr ⟨_,h,z.symm⟩))];exact yV d h
end
end L2
namespace L2
open PySem PySem.Spec PyProof.Rows PySem.W
inductive HV where
 |v (x:PV)|g (k:Nat)|t (xs:List HV)
inductive Cell where
 |l (xs:List HV)|d (kvs:List (Key×HV))|z (kvs:List (Key×HV))|o (c:Nat) (fs:List (Str×HV))|y (b:Bool)|m (l c:Nat) (q:Str)|u (kvs:List (List Key×HV))|w (ks:OV)
abbrev AH:=List Cell
abbrev ZY:=List (Option HV)
structure HC where
 W:RC
 H0:Hp
 M0:Addr->Prop
def HM(Z:HC)(A:Oy)(n:Nat):Addr->Prop:=λa=>(Z.M0 a\/Z.H0 a=none)/\∀k,k<n->A k≠a
mutual
def ZD(W:RC)(M:Ol)(A:Oy)(n:Nat)(H:Hp):HV->V->Prop
 |.v x,v=>Rep W M H x v
 |.g k,v=>k<n/\v=.ref (A k)
 |.t b,v=>∃p a,v=.ref p/\SqT W.K H p a/\jd W M A n H b a
def jd(W:RC)(M:Ol)(A:Oy)(n:Nat)(H:Hp):List HV->List V->Prop
 |[],a=>a=[]
 |x::b,a=>∃v r,a=v::r/\ZD W M A n H x v/\jd W M A n H b r
end
def kX{c:Type}(R:HV->V->Prop):List (c×HV)->List (c×V)->Prop
 |[],a=>a=[]
 |b::r,a=>∃v q,a=(b.1,v)::q/\R b.2 v/\kX R r q
section
variable {W:RC}{M M':Ol}{A A':Oy}{n n':Nat}{H H':Hp}
mutual
theorem ZD.gen(f:Fr M H H')(s:∀a,M a->H a≠none->M' a)(c:n<=n')(b:∀k,k<n->A' k=A k):∀{x:HV}{v:V},ZD W M A n H x v->ZD W M' A' n' H' x v
 |.v x,v,h=>Rep.gen f s h
 |.g k,v,h=>⟨R8 h.1 c,by rw[b k h.1];exact h.2⟩
 |.t g,v,h=>by unfold ZD at h ⊢;obtain⟨p,d,e,r,q⟩:=h;exact⟨p,d,e,f.sqT r,jd.gen f s c b q⟩
theorem jd.gen(f:Fr M H H')(s:∀a,M a->H a≠none->M' a)(c:n<=n')(b:∀k,k<n->A' k=A k):∀{x:List HV}{v:Ow},jd W M A n H x v->jd W M' A' n' H' x v
 |[],v,h=>h
 |x::i,j,h=>by unfold jd at h ⊢;obtain⟨v,r,e,d,g⟩:=h;exact⟨v,r,e,ZD.gen f s c b d,jd.gen f s c b g⟩
end
def kX.imp{g:Type}{R f:HV->V->Prop}(h:∀x v,R x v->f x v):∀{c:List (g×HV)}{d:List (g×V)},kX R c d->kX f c d
 |[],_,q=>q
 |_::_,_,⟨v,q,e,a,b⟩=>⟨v,q,e,h _ _ a,kX.imp h b⟩
def Mde(l c:Nat)(q:Str)(H:Hp)(d:OJ):Prop:=∃a b ws t,d = #[rawInt l,rawInt c,.ref a]/\H a=some (.frz b (.own a))/\b.data=.fields ws/\ws[1]?=some (.str q t)
def Mde.gen(f:Fr M H H'):Mde l c q H ps->Mde l c q H' ps:=λ⟨b,a,ws,t,e,h,r⟩=>⟨b,a,ws,t,e,f _ _ h (.inr trivial),r⟩
def fR(W:RC)(M:Ol)(A:Oy)(n:Nat)(H:Hp)(p:Addr):Cell->Prop
 |.l i=>∃f,H p=some (.lst f)/\jd W M A n H i f
 |.d d=>∃a,H p=some (.dK a)/\kX (ZD W M A n H) d a
 |.z d=>∃o a,H p=some (.frz o (.dK a))/\kX (ZD W M A n H) d a
 |.o c fs=>∃h a,H p=some (.ins (W.cls c) h a)/\kX (ZD W M A n H) fs a
 |.y b=>p=W.cls 1000/\∃e,H p=some (.tbl e)/\(b=true->e = #[])
 |.m l c q=>p=W.cls 1000/\∃e,H p=some (.tbl e)/\Mde l c q H e
 |.u d=>∃a,H p=some (.dT a)/\kX (ZD W M A n H) d a
 |.w g=>H p=some (.tup (g.map kV))
def fR.gen{p:Addr}(hp:H' p=H p)(f:Fr M H H')(s:∀a,M a->H a≠none->M' a)(g:n<=n')(d:∀k,k<n->A' k=A k):∀{c:Cell},fR W M A n H p c->fR W M' A' n' H' p c
 |.l _,⟨l,e,q⟩=>⟨l,hp.trans e,q.gen f s g d⟩
 |.d _,⟨b,e,q⟩=>⟨b,hp.trans e,q.imp λ_ _=>ZD.gen f s g d⟩
 |.z _,⟨o,b,e,q⟩=>⟨o,b,hp.trans e,q.imp λ_ _=>ZD.gen f s g d⟩
 |.o _ _,⟨j,b,e,q⟩=>⟨j,b,hp.trans e,q.imp λ_ _=>ZD.gen f s g d⟩
 |.y _,⟨h,i,e,q⟩=>⟨h,i,hp.trans e,q⟩
 |.m _ _ _,⟨h,i,e,q⟩=>⟨h,i,hp.trans e,q.gen f⟩
 |.u _,⟨b,e,q⟩=>⟨b,hp.trans e,q.imp λ_ _=>ZD.gen f s g d⟩
 |.w _,e=>hp.trans e
def fR.ob{p:Addr}:∀{c:Cell},fR W M A n H p c->∃o,H p=some o
 |.l _,⟨_,e,_⟩=>⟨_,e⟩
 |.d _,⟨_,e,_⟩=>⟨_,e⟩
 |.z _,⟨_,_,e,_⟩=>⟨_,e⟩
 |.o _ _,⟨_,_,e,_⟩=>⟨_,e⟩
 |.y _,⟨_,_,e,_⟩=>⟨_,e⟩
 |.m _ _ _,⟨_,_,e,_⟩=>⟨_,e⟩
 |.u _,⟨_,e,_⟩=>⟨_,e⟩
 |.w _,e=>⟨_,e⟩
end
structure Gro(Z:HC)(A:Oy)(n:Nat)(H:Hp)(A':Oy)(n':Nat)(H':Hp):Prop where
 le:n<=n'
 agr:∀k,k<n->A' k=A k
 fresh:∀k,n<=k->k<n'->H (A' k)=none
 fr:Fr (HM Z A n) H H'
 dom:∀a,H' a=none->H a=none
structure HH(Z:HC)(A:Oy)(H:Hp)(G:AH):Prop where
 same:zF Z.H0 H
 cell:∀(k:Nat) c,G[k]?=some c->fR Z.W (HM Z A G.length) A G.length H (A k) c
 inj:∀j k,j<G.length->k<G.length->A j=A k->j=k
 own:∀k,k<G.length->Z.H0 (A k)=none
structure HR(Z:HC)(A:Oy)(H:Hp)(σ:St)(ρ:ZY)(G:AH):Prop extends HH Z A H G where
 len:σ.length=ρ.length
 var:∀(i:Nat) x,ρ[i]?=some (some x)->∃v,σ[i]?=some (some v)/\ZD Z.W (HM Z A G.length) A G.length H x v
section
variable {Z:HC}{A A' A'':Oy}{n n' n'':Nat}{H H' H'':Hp}{G G':AH}{σ:St}{ρ:ZY}
def Gro.sM(g:Gro Z A n H A' n' H'):∀a,HM Z A n a->H a≠none->HM Z A' n' a:=λa m h=>⟨m.1,λk b e=>by
 by_cases c:k<n
 .exact m.2 k c (by rw[<- g.agr k c];exact e)
 .exact h (e▸g.fresh k (by omega) b)⟩
def Gro.same(s:zF H H'):Gro Z A n H A n H':=⟨O2 _,λ_ _=>rfl,λk a b=>absurd b (by omega),s.fr,λa h=>zF.none s h⟩
def Gro.refl:Gro Z A n H A n H:=Gro.same (zF.refl _)
def Gro.trans(g:Gro Z A n H A' n' H')(k:Gro Z A' n' H' A'' n'' H''):Gro Z A n H A'' n'' H'':=by
 refine⟨P8 g.le k.le,λj b=>(k.agr j (R8 b g.le)).trans (g.agr j b),λj d e=>?_,λa o h m=>?_,λa h=>g.dom a (k.dom a h)⟩
 .by_cases c:j<n'
  .rw[k.agr j c];exact g.fresh j d c
  .exact g.dom _ (k.fresh j (by omega) e)
 .refine k.fr a o (g.fr a o h m) (m.imp (λm=>g.sM a m (by rw[h];exact λz=>by cases z)) id)
def ZD.gro(g:Gro Z A n H A' n' H')(h:ZD W (HM Z A n) A n H x v):ZD W (HM Z A' n') A' n' H' x v:=h.gen g.fr g.sM g.le g.agr
def jd.gro(g:Gro Z A n H A' n' H')(h:jd W (HM Z A n) A n H x v):jd W (HM Z A' n') A' n' H' x v:=h.gen g.fr g.sM g.le g.agr
def HR.gro(R:HR Z A H σ ρ G)(h:HH Z A' H' G')(g:Gro Z A G.length H A' G'.length H'):HR Z A' H' σ ρ G':=
 ⟨h,R.len,λi x e=>let⟨v,h1,h2⟩:=R.var i x e;⟨v,h1,h2.gro g⟩⟩
def HH.ob(h:HH Z A H G)(a:k<G.length):∃o,H (A k)=some o:=(h.cell k _ (O3 a)).ob
def HH.keep(h:HH Z A H G)(s:zF H H'):HH Z A H' G:=⟨h.same.trans s,λk c e=>by
 have q:=h.cell k c e;obtain⟨o,a⟩:=q.ob;exact q.gen ((s _ _ a).trans a.symm) s.fr (λ_ m _=>m) (O2 _) λ_ _=>rfl,h.inj,h.own⟩
def HH.new(h:HH Z A H G):New (HM Z A G.length) H:=λp hp=>⟨.inr (zF.none h.same hp),λk b e=>by
 obtain⟨o,a⟩:=h.ob b;rw[e,hp]at a;cases a⟩
def HR.keep(R:HR Z A H σ ρ G)(s:zF H H'):HR Z A H' σ ρ G:=R.gro (R.toHH.keep s) (Gro.same s)
def exA(A:Oy)(n:Nat)(p:Addr):Nat->Addr:=λk=>if k=n then p else A k
def Xi:exA A n p n=p:=if_pos rfl
def Vy(h:k<n):exA A n p k=A k:=if_neg (by omega)
def Gro.ext(s:zF H H')(hp:H p=none):Gro Z A n H (exA A n p) (n+1) H':=
 ⟨a0Y _,λk b=>Vy b,λk c d=>by rw[show k=n by omega,Xi];exact hp,s.fr,λa h=>zF.none s h⟩
def HH.alloc(h:HH Z A H G)(s:zF H H')(hp:H p=none)(r:fR Z.W (HM Z (exA A G.length p) (G.length+1)) (exA A G.length p) (G.length+1) H' p c):HH Z (exA A G.length p) H' (G++[c]):=by
 have g:Gro Z A G.length H (exA A G.length p) (G.length+1) H':=Gro.ext s hp;have i:(G++[c]).length=G.length+1:=by simp
 have m:∀k,k<G.length->A k≠p:=λk a e=>by obtain⟨o,b⟩:=h.ob a;rw[e,hp]at b;cases b
 refine⟨h.same.trans s,λk d e=>?_,λj k t a e=>?_,λk a=>?_⟩
 .rw[i];by_cases a:k<G.length
  .rw[a0n a]at e;have q:=h.cell k d e;obtain⟨o,b⟩:=q.ob;rw[Vy a];exact q.gen ((s _ _ b).trans b.symm) g.fr g.sM g.le g.agr
  .have v:=(P5.mp e).1;have u:k=G.length:=by omega
   subst u;rw[a0M (O2 _),a2C]at e;cases e;rw[Xi];exact r
 .by_cases f:j=G.length
  .by_cases l:k=G.length
   .rw[f,l]
   .rw[f,Xi,Vy (by omega)]at e;exact absurd e.symm (m k (by omega))
  .by_cases l:k=G.length
   .rw[l,Xi,Vy (by omega)]at e;exact absurd e (m j (by omega))
   .rw[Vy (by omega),Vy (by omega)]at e;exact h.inj j k (by omega) (by omega) e
 .by_cases f:k=G.length
  .rw[f,Xi];exact zF.none h.same hp
  .rw[Vy (by omega)];exact h.own k (by omega)
def HH.frw(h:HH Z A H G)(d:k<G.length)(f:H (A k)=Option.some o0)(c:¬Imm o0):Gro Z A G.length H A G.length (upd H (A k) o):=by
 refine⟨O2 _,λ_ _=>rfl,λk a b=>absurd b (by omega),λa q e m=>?_,λa e=>?_⟩
 .have:a≠A k:=λz=>by
   rcases m with m|m
   .exact m.2 k d z.symm
   .rw[z,f]at e;cases e;exact c m
  rw[zj this];exact e
 .by_cases z:a=A k
  .rw[z,zh]at e;cases e
  .rw[zj z]at e;exact e
def HH.write(h:HH Z A H G)(l:k<G.length)(r:H (A k)=Option.some o0)(m:¬Imm o0)(p:fR Z.W (HM Z A G.length) A G.length (upd H (A k) o) (A k) c):HH Z A (upd H (A k) o) (G.set k c):=by
 have g:=h.frw (o:=o) l r m;have f:(G.set k c).length=G.length:=a0i ..;refine⟨λa q e=>?_,λj d e=>?_,λi j t b=>h.inj i j (f▸t) (f▸b),λj b=>h.own j (f▸b)⟩
 .have:a≠A k:=λz=>by rw[z,h.own k l]at e;cases e
  rw[zj this];exact h.same a q e
 .rw[f];by_cases b:k=j
  .subst b;rw[T8 l]at e;cases e;exact p
  .rw[S9 b]at e;have s:=(P5.mp e).1;exact(h.cell j d e).gen (zj λz=>b (h.inj j k s l z).symm) g.fr g.sM g.le g.agr
def HR.set(R:HR Z A H σ ρ G)(c:ZD Z.W (HM Z A G.length) A G.length H x v):HR Z A H (σ.set i (Option.some v)) (ρ.set i (Option.some x)) G:=by
 refine⟨R.toHH,by rw[a0i,a0i];exact R.len,λj y e=>?_⟩;by_cases a:i=j
 .subst a;have b:i<ρ.length:=by
   have:=(P5.mp e).1
   rwa [a0i]at this
  rw[T8 b]at e;cases e;exact⟨v,by rw[T8 (by rw[R.len];exact b)],c⟩
 .rw[S9 a]at e ⊢;exact R.var j y e
end
inductive HX(α:Type)where
 |ok (a:α) (G:AH)|exc (c:Nat) (fs:OK) (G:AH)|wall
def HX.bind{b d:Type}:HX b->(b->AH->HX d)->HX d
 |.ok a G,f=>f a G
 |.exc c fs G,_=>.exc c fs G
 |.wall,_=>.wall
def By(Z:HC)(E:XK)(A:Oy)(n:Nat)(H:Hp)(c:Nat)(fs:OK)(f:AH):Prop:=∀d a e b g,HH Z d a f->Gro Z A n H d f.length a->a e=some (XC e (Z.W.cls c) b)->a b=some (XD b g)->Zg Z.W (HM Z d f.length) a fs g->E (.ref e) (some b) a
def HPx{e:Type}(Z:HC)(E:XK)(A:Oy)(n:Nat)(H:Hp)(K:e->(Nat->Addr)->Hp->AH->Prop):HX e->Prop
 |.ok x a=>∀d b,HH Z d b a->Gro Z A n H d a.length b->K x d b a
 |.exc c fs a=>By Z E A n H c fs a
 |.wall=>False
section
variable {α β:Type}{K:β->(Nat->Addr)->Hp->AH->Prop}{K':α->(Nat->Addr)->Hp->AH->Prop}
def By.gro(h:By Z E A n H c fs G)(g:Gro Z A n H A' n' H'):By Z E A' n' H' c fs G:=λd a e f b j i=>h d a e f b j (g.trans i)
def HPx.gro{o:HX β}(h:HPx Z E A n H K o)(g:Gro Z A n H A' n' H'):HPx Z E A' n' H' K o:=by
 cases o with
 |ok x e=>exact λb a f d=>h b a f (g.trans d)
 |exc c fs e=>exact By.gro h g
 |wall=>exact h
def HPx.bind{o:HX α}{f:α->AH->HX β}(h:HPx Z E A n H K (o.bind f))(k:∀x d b a,HH Z d b a->Gro Z A n H d a.length b->HPx Z E d a.length b K (f x a)->K' x d b a):HPx Z E A n H K' o:=by
 cases o with
 |ok x a=>exact λi g j e=>k x i g a j e (HPx.gro (o:=f x a) h e)
 |exc c fs a=>exact h
 |wall=>exact h
end
abbrev HME:=ZY->AH->HX HV
abbrev HMT:=ZY->AH->HX Bool
abbrev HMA:=ZY->AH->HX (List HV)
def KV'(Z:HC)(Q:VK):HV->(Nat->Addr)->Hp->AH->Prop:=λx b a c=>∀v,ZD Z.W (HM Z b c.length) b c.length a x v->Q v a
def KT'(Q:Bool->Hp->Prop):Bool->(Nat->Addr)->Hp->AH->Prop:=λb _ a _=>Q b a
def KA'(Z:HC)(Q:List V->Hp->Prop):List HV->(Nat->Addr)->Hp->AH->Prop:=λe b a c=>∀d,jd Z.W (HM Z b c.length) b c.length a e d->Q d a
def HE(X:Cx)(W:RC)(E:XK)(e:Ot)(m:HME):Prop:=X.K=W.K->∃a,PE X e a/\∀(Z:HC),Z.W=W->∀A H b c G,HR Z A H b c G->∀Q,HPx Z E A G.length H (KV' Z Q) (m c G)->a b H Q
def HT(X:Cx)(W:RC)(E:XK)(e:Ot)(m:HMT):Prop:=X.K=W.K->∃a,PT X e a/\∀(Z:HC),Z.W=W->∀A H b c G,HR Z A H b c G->∀Q,HPx Z E A G.length H (KT' Q) (m c G)->a b H Q
def HA(X:Cx)(W:RC)(E:XK)(es:Oq)(m:HMA):Prop:=X.K=W.K->∃a,PA X es a/\∀(Z:HC),Z.W=W->∀A H b c G,HR Z A H b c G->∀Q,HPx Z E A G.length H (KA' Z Q) (m c G)->a b H Q
mutual
def imm:PV->Bool
 |.i _=>true | .s _=>true | .b _=>true | .n=>true
 |.t a=>ui a
 |.l _=>false | .d _=>false | .o _ _=>false | .x _ _=>false | .sc _=>false | .dt _=>false
def ui:List PV->Bool
 |[]=>true
 |x::a=>imm x&&ui a
end
def Dr:List (Str×PV)->Bool
 |[]=>true
 |x::a=>imm x.2&&Dr a
section
variable {W:RC}{M M':Ol}{H:Hp}
mutual
theorem Xj:∀{x:PV}{v:V},imm x=true->Rep W M H x v->Rep W M' H x v
 |.i _,_,_,h=>h
 |.s _,_,_,h=>h
 |.b _,_,_,h=>h
 |.n,_,_,h=>h
 |.t c,_,e,h=>by obtain⟨p,b,a,r,q⟩:=h;exact⟨p,b,a,r,aV e q⟩
 |.l _,_,e,_=>by cases e
 |.d _,_,e,_=>by cases e
 |.o _ _,_,e,_=>by cases e
 |.x _ _,_,e,_=>by cases e
 |.sc _,_,e,_=>by cases e
 |.dt _,_,e,_=>by cases e
theorem aV:∀{x:OD}{v:Ow},ui x=true->zX W M H x v->zX W M' H x v
 |[],_,_,h=>h
 |x::d,_,e,h=>by unfold ui at e;simp only[Bool.and_eq_true]at e;obtain⟨v,r,a,b,c⟩:=h;exact⟨v,r,a,Xj e.1 b,aV e.2 c⟩
end
theorem Qu:∀{x:OK}{v:OU},Dr x=true->Zg W M H x v->Zg W M' H x v
 |[],_,_,h=>h
 |x::d,_,e,h=>by unfold Dr at e;simp only[Bool.and_eq_true]at e;obtain⟨v,r,a,b,c⟩:=h;exact⟨v,r,a,Xj e.1 b,Qu e.2 c⟩
def WH:List Bool->ZY->Option Sto
 |_,[]=>some []
 |[],_::a=>(WH [] a).map (none::·)
 |false::bs,_::a=>(WH bs a).map (none::·)
 |true::bs,some (.v x)::a=>(WH bs a).map (some x::·)
 |true::_,_=>none
def E_(f:HV->Option PV):List HV->Option (List PV)
 |[]=>some []
 |x::a=>(f x).bind λy=>(E_ f a).map (y::·)
def p0{a:Type}(f:HV->Option PV):List (a×HV)->Option (List (a×PV))
 |[]=>some []
 |x::b=>(f x.2).bind λy=>(p0 f b).map ((x.1,y)::·)
def bY(G:AH):Nat->HV->Option PV
 |0,_=>none
 |_+1,.v x=>some x
 |n+1,.t b=>(E_ (bY G n) b).map .t
 |n+1,.g k=>match G[k]? with
  |some (.l b)=>(E_ (bY G n) b).map .l
  |some (.d a)=>(p0 (bY G n) a).map .d
  |some (.z a)=>(p0 (bY G n) a).map .d
  |some (.o c fs)=>(p0 (bY G n) fs).map (.o c)
  |some (.w d)=>some (.t (d.map kP))
  |_=>none
def Vb(G:AH):List Bool->ZY->Option Sto
 |_,[]=>some []
 |[],_::a=>(Vb G [] a).map (none::·)
 |false::bs,_::a=>(Vb G bs a).map (none::·)
 |true::bs,some x::a=>(bY G 8 x).bind λy=>(Vb G bs a).map (some y::·)
 |true::_,none::_=>none
theorem aW{f:HV->Option PV}{N:Ol}(hf:∀x v y,ZD W M A n H x v->f x=some y->Rep W N H y v):∀{a:List HV}{c:Ow}{b:OD},jd W M A n H a c->E_ f a=some b->zX W N H b c
 |[],_,_,h,e=>by cases e;exact h
 |x::a,_,b,h,e=>by obtain⟨v,r,rfl,i,j⟩:=h;unfold E_ at e;obtain⟨y,g,e⟩:=S7.mp e;obtain⟨l,d,rfl⟩:=v1.mp e;exact⟨v,r,rfl,hf _ _ _ i g,aW hf j d⟩
theorem aX{f:HV->Option PV}{N:Ol}(hf:∀x v y,ZD W M A n H x v->f x=some y->Rep W N H y v):∀{a:List (Key×HV)}{c:Ov}{b:Oz},kX (ZD W M A n H) a c->p0 f a=some b->y8 W N H b c
 |[],_,_,h,e=>by cases e;exact h
 |x::a,_,b,h,e=>by obtain⟨v,r,rfl,i,j⟩:=h;unfold p0 at e;obtain⟨y,g,e⟩:=S7.mp e;obtain⟨l,d,rfl⟩:=v1.mp e;exact⟨v,r,rfl,hf _ _ _ i g,aX hf j d⟩
theorem ir{f:HV->Option PV}{N:Ol}(hf:∀x v y,ZD W M A n H x v->f x=some y->Rep W N H y v):∀{a:List (Str×HV)}{c:OU}{b:OK},kX (ZD W M A n H) a c->p0 f a=some b->Zg W N H b c
 |[],_,_,h,e=>by cases e;exact h
 |x::a,_,b,h,e=>by obtain⟨v,r,rfl,i,j⟩:=h;unfold p0 at e;obtain⟨y,g,e⟩:=S7.mp e;obtain⟨l,d,rfl⟩:=v1.mp e;exact⟨v,r,rfl,hf _ _ _ i g,ir hf j d⟩
end
section
variable {Z:HC}{A:Oy}{H:Hp}{G:AH}{σ:St}{ρ:ZY}
theorem fS{W:RC}{M:Ol}{H:Hp}:∀a:List Key,zX W M H (a.map kP) (a.map kV)
 |[]=>rfl
 |k::a=>⟨_,_,rfl,pM k,fS a⟩
theorem Vc(h:HH Z A H G):∀(n:Nat)(x:HV)(v:V)(y:PV),ZD Z.W (HM Z A G.length) A G.length H x v->bY G n x=some y->Rep Z.W (λ_=>True) H y v
 |0,_,_,_,_,e=>by cases e
 |n+1,.v x,v,y,r,e=>by cases e;exact Rep.sub r λ_ _ _=>trivial
 |n+1,.t g,v,y,r,e=>by obtain⟨i,b,rfl⟩:=v1.mp e;obtain⟨p,d,rfl,s,q⟩:=r;exact⟨p,d,rfl,s,aW (Vc h n) q b⟩
 |n+1,.g k,v,y,r,e=>by
  obtain⟨m,rfl⟩:=r;unfold bY at e;split at e
  .rename_i g a;obtain⟨i,b,rfl⟩:=v1.mp e;obtain⟨d,f,q⟩:=h.cell k _ a;exact⟨A k,d,rfl,trivial,f,aW (Vc h n) q b⟩
  .rename_i g a;obtain⟨i,b,rfl⟩:=v1.mp e;obtain⟨d,f,q⟩:=h.cell k _ a;exact⟨A k,d,rfl,trivial,.inl f,aX (Vc h n) q b⟩
  .rename_i g a;obtain⟨i,b,rfl⟩:=v1.mp e;obtain⟨o,d,f,q⟩:=h.cell k _ a;exact⟨A k,d,rfl,trivial,.inr ⟨o,f⟩,aX (Vc h n) q b⟩
  .rename_i c g a;obtain⟨i,b,rfl⟩:=v1.mp e;obtain⟨j,d,f,q⟩:=h.cell k _ a;exact⟨A k,j,d,rfl,trivial,f,ir (Vc h n) q b⟩
  .rename_i l a;cases e;exact⟨A k,_,rfl,.inl (.inl (h.cell k _ a)),fS l⟩
  .cases e
theorem Ka:∀{bs:Ou}{ρ:ZY}{r:Sto}{i:Nat}{x:PV},WH bs ρ=some r->r[i]?=some (some x)->ρ[i]?=some (some (.v x))
 |_,[],r,i,x,e,h=>by cases e;simp at h
 |[],_::ρ,r,i,x,e,h=>by
  obtain⟨b,a,rfl⟩:=v1.mp e;cases i with
  |zero=>cases h
  |succ i=>rw[a0m]at h ⊢;exact Ka a h
 |false::bs,_::ρ,r,i,x,e,h=>by
  obtain⟨b,a,rfl⟩:=v1.mp e;cases i with
  |zero=>cases h
  |succ i=>rw[a0m]at h ⊢;exact Ka a h
 |true::bs,some (.v y)::ρ,r,i,x,e,h=>by
  obtain⟨b,a,rfl⟩:=v1.mp e;cases i with
  |zero=>cases h;rfl
  |succ i=>rw[a0m]at h ⊢;exact Ka a h
 |true::bs,none::ρ,r,i,x,e,h=>by cases e
 |true::bs,some (.g _)::ρ,r,i,x,e,h=>by cases e
 |true::bs,some (.t _)::ρ,r,i,x,e,h=>by cases e
theorem Kb:∀{bs:Ou}{ρ:ZY}{r:Sto},WH bs ρ=some r->r.length=ρ.length
 |_,[],r,e=>by cases e;rfl
 |[],_::ρ,r,e=>by obtain⟨b,a,rfl⟩:=v1.mp e;rw[O1,O1,Kb a]
 |false::bs,_::ρ,r,e=>by obtain⟨b,a,rfl⟩:=v1.mp e;rw[O1,O1,Kb a]
 |true::bs,some (.v y)::ρ,r,e=>by obtain⟨b,a,rfl⟩:=v1.mp e;rw[O1,O1,Kb a]
 |true::bs,none::ρ,r,e=>by cases e
 |true::bs,some (.g _)::ρ,r,e=>by cases e
 |true::bs,some (.t _)::ρ,r,e=>by cases e
theorem WI:∀{bs:Ou}{ρ:ZY}{r:Sto}{i:Nat}{x:PV},Vb G bs ρ=some r->r[i]?=some (some x)->∃y,ρ[i]?=some (some y)/\bY G 8 y=some x
 |_,[],r,i,x,e,h=>by cases e;simp at h
 |[],_::ρ,r,i,x,e,h=>by
  obtain⟨b,a,rfl⟩:=v1.mp e;cases i with
  |zero=>cases h
  |succ i=>rw[a0m]at h ⊢;exact WI a h
 |false::bs,_::ρ,r,i,x,e,h=>by
  obtain⟨b,a,rfl⟩:=v1.mp e;cases i with
  |zero=>cases h
  |succ i=>rw[a0m]at h ⊢;exact WI a h
 |true::bs,some y::ρ,r,i,x,e,h=>by
  obtain⟨z,c,e⟩:=S7.mp e;obtain⟨b,a,rfl⟩:=v1.mp e;cases i with
  |zero=>cases h;exact⟨y,rfl,c⟩
  |succ i=>rw[a0m]at h ⊢;exact WI a h
 |true::bs,none::ρ,r,i,x,e,h=>by cases e
theorem WJ:∀{bs:Ou}{ρ:ZY}{r:Sto},Vb G bs ρ=some r->r.length=ρ.length
 |_,[],r,e=>by cases e;rfl
 |[],_::ρ,r,e=>by obtain⟨b,a,rfl⟩:=v1.mp e;rw[O1,O1,WJ a]
 |false::bs,_::ρ,r,e=>by obtain⟨b,a,rfl⟩:=v1.mp e;rw[O1,O1,WJ a]
 |true::bs,some y::ρ,r,e=>by obtain⟨z,c,e⟩:=S7.mp e;obtain⟨b,a,rfl⟩:=v1.mp e;rw[O1,O1,WJ a]
 |true::bs,none::ρ,r,e=>by cases e
def GP{S:Og}(a:S.all (·==0)=true){i c:Nat}(h:S[i]?=some c):c=0:=by have:=a0d.mp a c (a1x h);simpa using this
def GQ(f:σ.length=r.length)(d:S.all (·==0)=true)(l:∀(i:Nat) x,r[i]?=some (some x)->∃v,σ[i]?=some (some v)/\Rep Z.W M H x v):Rel Z.W (ug H M) S (λ_=>0) H σ r:=by
 have c:∀{k:Nat},S[k]?=some 2->False:=λ{k} h=>by have:=GP d h;omega
 have g:∀{k:Nat},S[k]?=some 1->False:=λ{k} h=>by have:=GP d h;omega
 refine⟨zF.refl _,f,λi x e=>?_,λi b=>(c b).elim,λi j b=>(c b).elim,λb=>(c b).elim,λa h=>h.elim,λi b=>(c b).elim⟩;obtain⟨v,n,o⟩:=l i x e;exact⟨v,n,λz=>(c z).elim,λz=>(g z).elim,λ_ _=>o.sub λa m _=>⟨⟨.inl m,id⟩,λi b=>(c b).elim⟩⟩
def xq(R:HR Z A H σ ρ G)(e:WH bs ρ=some r)(a:S.all (·==0)=true):Rel Z.W (ug H (HM Z A G.length)) S (λ_=>0) H σ r:=
 GQ (R.len.trans (Kb e).symm) a λi x h=>R.var i _ (Ka e h)
def xt(R:HR Z A H σ ρ G)(e:Vb G bs ρ=some r)(d:S.all (·==0)=true):Rel Z.W (ug H λ_=>True) S (λ_=>0) H σ r:=
 GQ (R.len.trans (WJ e).symm) d λi x h=>by obtain⟨y,b,f⟩:=WI e h;obtain⟨v,a,c⟩:=R.var i y b;exact⟨v,a,Vc R.toHH _ _ _ _ c f⟩
def xu(h:HH Z A H G):∀a,Mof (ug H (HM Z A G.length)) S P a->HM Z A G.length a:=λa m=>m.1.1.elim id λn=>h.new a n
end
def hP(bs:Ou)(m:ME):HME:=λa G=>match WH bs a with
 |some r=>match m r with
  |.ok x=>.ok (.v x) G
  |.exc c fs=>.exc c fs G
  |.wall=>.wall
 |none=>match Vb G bs a with
  |some r=>match m r with
   |.ok x=>if imm x=true then .ok (.v x) G else .wall
   |.exc c fs=>if Dr fs=true then .exc c fs G else .wall
   |.wall=>.wall
  |none=>.wall
def hPT(bs:Ou)(m:MT):HMT:=λa G=>match WH bs a with
 |some r=>match m r with
  |.ok x=>.ok x G
  |.exc c fs=>.exc c fs G
  |.wall=>.wall
 |none=>match Vb G bs a with
  |some r=>match m r with
   |.ok x=>.ok x G
   |.exc c fs=>if Dr fs=true then .exc c fs G else .wall
   |.wall=>.wall
  |none=>.wall
def vK{a:Type}(xs:List (a×PV)):List (a×HV):=xs.map λp=>(p.1,.v p.2)
def xw:PV->Option Cell
 |.l b=>some (.l (b.map .v))
 |.d a=>some (.d (vK a))
 |.o c fs=>some (.o c (vK fs))
 |_=>none
def Mm:PV->Bool
 |.l b=>ui b
 |.d a=>ui (a.map (·.2))
 |.o _ fs=>Dr fs
 |_=>false
def hF(bs:Ou)(m:ME):HME:=λa G=>match WH bs a with
 |some r=>match m r with
  |.ok x=>match xw x with
   |some c=>.ok (.g G.length) (G++[c])
   |none=>.wall
  |.exc c fs=>.exc c fs G
  |.wall=>.wall
 |none=>match Vb G bs a with
  |some r=>match m r with
   |.ok x=>if Mm x=true then match xw x with
    |some c=>.ok (.g G.length) (G++[c])
    |none=>.wall else .wall
   |.exc c fs=>if Dr fs=true then .exc c fs G else .wall
   |.wall=>.wall
  |none=>.wall
section
variable {W:RC}{M M':Ol}{A:Oy}{n:Nat}{H:Hp}
theorem GR:∀{a:OD}{b:Ow},zX W M H a b->jd W M A n H (a.map .v) b
 |[],_,h=>h
 |_::_,_,⟨v,r,e,c,d⟩=>⟨v,r,e,c,GR d⟩
theorem GS:∀{a:Oz}{b:Ov},y8 W M H a b->kX (ZD W M A n H) (vK a) b
 |[],_,h=>h
 |_::_,_,⟨v,r,e,c,d⟩=>⟨v,r,e,c,GS d⟩
theorem GU:∀{a:OK}{b:OU},Zg W M H a b->kX (ZD W M A n H) (vK a) b
 |[],_,h=>h
 |_::_,_,⟨v,r,e,c,d⟩=>⟨v,r,e,c,GU d⟩
theorem iu:∀{x:Oz}{v:Ov},ui (x.map (·.2))=true->y8 W M H x v->y8 W M' H x v
 |[],_,_,h=>h
 |x::d,_,e,h=>by rw[R7]at e;unfold ui at e;simp only[Bool.and_eq_true]at e;obtain⟨v,r,a,b,c⟩:=h;exact⟨v,r,a,Xj e.1 b,iu e.2 c⟩
def GV(b:Ub W M H p x)(e:xw x=some c):fR W M A n H p c:=by
 cases x with
 |l f=>cases e;obtain⟨a,h,r⟩:=b;exact⟨a,h,GR r⟩
 |d f=>cases e;obtain⟨a,h,r⟩:=b;exact⟨a,h,GS r⟩
 |o k f=>cases e;obtain⟨g,a,h,r⟩:=b;exact⟨g,a,h,GU r⟩
 |_=>cases e
def xx(e:Mm x=true)(b:Ub W M H p x):Ub W M' H p x:=by
 cases x with
 |l c=>obtain⟨a,h,r⟩:=b;exact⟨a,h,aV e r⟩
 |d c=>obtain⟨a,h,r⟩:=b;exact⟨a,h,iu e r⟩
 |o k c=>obtain⟨f,a,h,r⟩:=b;exact⟨f,a,h,Qu e r⟩
 |_=>cases e
end
section
variable {X:Cx}{W:RC}{E:XK}{fr:Bool}{S:Og}{e a:Ot}{es:Oq}{m:ME}{t:MT}{bs:Ou}{p:Pos}{i:Nat}{m1:HME}{ms:HMA}
def aY(h:HH Z A H G)(q:By Z E A G.length H c fs G)(n:∀d es,Zg Z.W (λa=>M a\/H a=none) d fs es->Zg Z.W (HM Z A G.length) d fs es):XPo ⟨Z.W,E,fr⟩ (ug H M) c fs:=
 λe g es d s j l f=>q A d e g es (h.keep s) (Gro.same s) j l (n d es f)
def N5(bs:Ou)(h:EM X ⟨W,E,fr⟩ S false e m)(u:S.all (·==0)=true:=by rfl):HE X W E e (hP bs m):=λB=>by
 obtain⟨y,w,l⟩:=h B;refine⟨y,w,λZ z A H o C G R Q q=>?_⟩;subst z;unfold hP at q;split at q
 .rename_i r g;refine l _ _ H o r (xq R g u) Q ?_;revert q;cases m r with
  |ok x=>exact λq v d s f=>q A d (R.toHH.keep s) (Gro.same s) v (f.rep.sub λa m _=>xu R.toHH a m)
  |exc c fs=>exact λq=>aY R.toHH q λd es h=>h.sub λa m _=>m.elim id λn=>R.toHH.new a n
  |wall=>exact id
 .split at q
  .rename_i r g;refine l _ _ H o r (xt R g u) Q ?_;revert q;cases m r with
   |ok x=>
    intro q v d s f;dsimp only at q;split at q
    .rename_i j;exact q A d (R.toHH.keep s) (Gro.same s) v (Xj j f.rep)
    .exact q.elim
   |exc c fs=>
    intro q;dsimp only at q;split at q
    .rename_i j;exact aY R.toHH q λd es h=>Qu j h
    .exact q.elim
   |wall=>exact id
  .exact q.elim
def Bz(bs:Ou)(h:TM X ⟨W,E,fr⟩ S e t)(l:S.all (·==0)=true:=by rfl):HT X W E e (hPT bs t):=λy=>by
 obtain⟨v,o,g⟩:=h y;refine⟨v,o,λZ w A H j z G R Q q=>?_⟩;subst w;unfold hPT at q;split at q
 .rename_i r f;refine g _ _ H j r (xq R f l) Q ?_;revert q;cases t r with
  |ok x=>exact λq d s=>q A d (R.toHH.keep s) (Gro.same s)
  |exc c fs=>exact λq=>aY R.toHH q λd es h=>h.sub λa m _=>m.elim id λn=>R.toHH.new a n
  |wall=>exact id
 .split at q
  .rename_i r f;refine g _ _ H j r (xt R f l) Q ?_;revert q;cases t r with
   |ok x=>exact λq d s=>q A d (R.toHH.keep s) (Gro.same s)
   |exc c fs=>
    intro q;dsimp only at q;split at q
    .rename_i u;exact aY R.toHH q λd es h=>Qu u h
    .exact q.elim
   |wall=>exact id
  .exact q.elim
def fT{Z:HC}{A:Oy}{H d:Hp}{G:AH}{c:Cell}{p:Addr}{Q:VK}(h:HH Z A H G)(s:zF H d)(hp:H p=none)(g:fR Z.W (HM Z (exA A G.length p) (G.length+1)) (exA A G.length p) (G.length+1) d p c)(q:HPx Z E A G.length H (KV' Z Q) (.ok (.g G.length) (G++[c]))):Q (.ref p) d:=by
 have f:(G++[c]).length=G.length+1:=by simp
 refine q _ d (h.alloc s hp g) (by rw[f];exact Gro.ext s hp) _ ⟨by rw[f];exact a1V _,?_⟩;rw[Xi]
def GW{Z:HC}{A:Oy}{n:Nat}{p a:Addr}(m:HM Z A n a)(h:a≠p):HM Z (exA A n p) (n+1) a:=⟨m.1,λk d e=>by
 by_cases c:k=n
 .rw[c,Xi]at e;exact h e.symm
 .rw[Vy (by omega)]at e;exact m.2 k (by omega) e⟩
def Na(bs:Ou)(y:LFr ⟨W,E,fr⟩ S te m)(z:S.all (·==0)=true:=by rfl):∀(Z:HC),Z.W=W->∀A H d j G,HR Z A H d j G->∀Q,HPx Z E A G.length H (KV' Z Q) (hF bs m j G)->te d H Q:=λZ B A H d j G R Q q=>by
 subst B;unfold hF at q;split at q
 .rename_i r o;refine y _ _ H d r (xq R o z) Q ?_;revert q;cases m r with
  |ok x=>
   intro q v f s l;dsimp only at q;split at q
   .rename_i c g;obtain⟨p,rfl,hp,w⟩:=l;exact fT R.toHH s hp (GV (w.gen rfl Fr.refl λa m _=>GW (xu R.toHH a m.1) m.2) g) q
   .exact q.elim
  |exc c fs=>exact λq=>aY R.toHH q λf es h=>h.sub λa m _=>m.elim id λn=>R.toHH.new a n
  |wall=>exact id
 .split at q
  .rename_i r o;refine y _ _ H d r (xt R o z) Q ?_;revert q;cases m r with
   |ok x=>
    intro q v f s l;dsimp only at q;split at q
    .rename_i u;split at q
     .rename_i c g;obtain⟨p,rfl,hp,w⟩:=l;exact fT R.toHH s hp (GV (xx u w) g) q
     .exact q.elim
    .exact q.elim
   |exc c fs=>
    intro q;dsimp only at q;split at q
    .rename_i u;exact aY R.toHH q λf es h=>Qu u h
    .exact q.elim
   |wall=>exact id
  .exact q.elim
def N6(bs:Ou)(h:FM X ⟨W,E,fr⟩ S e m)(d:S.all (·==0)=true:=by rfl):HE X W E e (hF bs m):=λg=>by obtain⟨f,j,c⟩:=h g;exact⟨f,j,Na bs c d⟩
def Ud(i:Nat):HME:=λc G=>match c[i]? with
 |some (some x)=>.ok x G
 |_=>.wall
def ZZ(h:PE X e (UJ i)):HE X W E e (Ud i):=λ_=>⟨_,h,λZ l A H g j G R Q q=>by
 unfold Ud at q;split at q
 .rename_i x f;obtain⟨v,c,d⟩:=R.var i x f;exact⟨v,c,q A H R.toHH Gro.refl v d⟩
 .exact q.elim⟩
def uj:HMA:=λ_ G=>.ok [] G
def Qz(m:HME)(ms:HMA):HMA:=λc G=>(m c G).bind λx f=>(ms c f).bind λd g=>.ok (x::d) g
def iw:HA X W E [] uj:=λ_=>⟨_,JO,λZ f A H c d G R Q q=>q A H R.toHH Gro.refl [] rfl⟩
def Jt(h:HE X W E e m1)(D:HA X W E es ms)(L:starEach (e::es) X.env=(false,eval e X.env)::starEach es X.env:=by rfl):HA X W E (e::es) (Qz m1 ms):=λj=>by obtain⟨U,B,n⟩:=h j;obtain⟨T,u,C⟩:=D j;refine⟨_,vi B u L,λZ g A H d c G R Q q=>n Z g A H d c G R _ (HPx.bind q λx I s J w r y v z=>?_)⟩;exact C Z g I s d c J (R.gro w r) _ (HPx.bind y λO F l P K o M f N=>(M F l K Gro.refl (v::f) ⟨v,f,rfl,z.gro o,N⟩))
def jd.len{W:RC}{M:Ol}{A:Oy}{n:Nat}{H:Hp}:∀{c:List HV}{d:Ow},jd W M A n H c d->d.length=c.length
 |[],_,h=>by cases h;rfl
 |x::c,_,h=>by obtain⟨v,r,rfl,_,f⟩:=h;rw[O1,O1,jd.len f]
def iy:List HV->Option (List PV)
 |[]=>some []
 |.v x::c=>(iy c).map (x::·)
 |_::_=>none
def mkT(xs:List HV):HV:=match iy xs with
 |some c=>.v (.t c)
 |none=>.t xs
theorem Kc{W:RC}{M:Ol}{A:Oy}{n:Nat}{H:Hp}:∀{c:List HV}{d:OD}{f:Ow},iy c=some d->jd W M A n H c f->zX W M H d f
 |[],_,_,e,h=>by cases e;exact h
 |.v x::c,d,_,e,h=>by obtain⟨o,g,rfl⟩:=v1.mp e;obtain⟨v,r,rfl,j,l⟩:=h;exact⟨v,r,rfl,j,Kc g l⟩
 |.g _::_,_,_,e,_=>by cases e
 |.t _::_,_,_,e,_=>by cases e
end
section
variable {W:RC}{M:Ol}{A:Oy}{n:Nat}{H:Hp}
def jd.get:∀{a:List HV}{d:Ow}{i:Nat}{x:HV},jd W M A n H a d->a[i]?=some x->∃v,d[i]?=some v/\ZD W M A n H x v
 |[],_,_,_,_,e=>by simp at e
 |x::a,_,0,y,h,e=>by obtain⟨v,r,rfl,b,c⟩:=h;simp at e;subst e;exact⟨v,rfl,b⟩
 |x::a,_,i+1,y,h,e=>by obtain⟨v,r,rfl,b,c⟩:=h;simp only[List.getElem?_cons_succ]at e ⊢;exact jd.get c e
variable {κ:Type}[DecidableEq κ] {R:HV->V->Prop}
def kX.len:∀{a:List (κ×HV)}{b:List (κ×V)},kX R a b->b.length=a.length
 |[],_,h=>by cases h;rfl
 |_::_,_,⟨v,q,e,d,c⟩=>by subst e;rw[O1,O1,kX.len c]
def kX.put{k:κ}{a:List (κ×HV)}{es:List (κ×V)}(h:kX R a es)(j:R x v):kX R (dput a k x) (putK es k v):=by
 have d:∀{a:List (κ×HV)}{es:List (κ×V)},kX R a es->a.any (λb=>decide (b.1=k))=es.any (λb=>decide (b.1=k))/\kX R (a.map λb=>if b.1=k then(b.1,x)else b) (es.map λb=>if b.1=k then(b.1,v)else b)/\kX R (a++[(k,x)]) (es++[(k,v)]):=by
  intro a
  induction a with
  |nil=>intro es h;cases h;exact⟨rfl,rfl,v,[],rfl,j,rfl⟩
  |cons l a m=>
   intro es h;obtain⟨u,q,rfl,i,o⟩:=h;obtain⟨g,c,f⟩:=m o;refine⟨by rw[a0X,a0X,g],?_,⟨u,_,rfl,i,f⟩⟩;rw[R7,R7];by_cases e:l.1=k
   .rw[if_pos e,if_pos e];exact⟨v,_,rfl,j,c⟩
   .rw[if_neg e,if_neg e];exact⟨u,_,rfl,i,c⟩
 obtain⟨g,c,f⟩:=d h;unfold dput putK;rw[g];split
 .exact c
 .exact f
end
def fU(f:List HV->AH->HX HV)(ms:HMA):HME:=λc G=>(ms c G).bind λb a=>f b a
def hsp(W:RC)(n:Nat)(f:List HV->AH->HX HV):Sp:=λb H Q E=>∃(Z:HC)(A:Oy)(G:AH)(a:List HV),Z.W=W/\a.length=n/\HH Z A H G/\jd Z.W (HM Z A G.length) A G.length H a b/\HPx Z E A G.length H (KV' Z Q) (f a G)
def p6:∀a H Q E,hsp W n f a H Q E->a.length=n:=λa H Q E ⟨Z,A,G,c,_,b,_,r,_⟩=>r.len.trans b
def p7(F:qz X.prog X.w X.K X.mg X.base (CXe X.prog X.w) k f fd ps (hsp W n g))(y:j7 k X.A)(r:Gl X x)(m:X.mg x=some (.ref f))(C:keepIn X.K (.ref f)=true)(D:Binds X.K fd ps [])(v:Passes (CXe X.prog X.w) X E)(j:HA X W E (e::es) ms)(s:∀d G a b,ms d G=.ok a b->a.length=n)
  (h:(x==("__debug__":Str))=false:=by decide) (he:starEach (e::es) X.env=(false,eval e X.env)::starEach es X.env:=by rfl) (hpl:(backTo pos (starEach es X.env)).any (·.1)=false:=by rfl):HE X W E (.Call (.Name x p) (e::es) [] pos) (fU g ms):=λK=>by
 obtain⟨M,w,l⟩:=j K;refine⟨_,fb F y r m C D .nil v w h he hpl,λZ i A H z d G R Q q=>l Z i A H z d G R _ ?_⟩;unfold fU at q;revert q;cases I:ms d G with
 |wall=>exact id
 |exc c fs b=>exact id
 |ok a b=>intro q B L u t N J;rw[a0h];exact⟨Z,B,b,a,i,s _ _ _ _ I,u,J,HPx.gro q t⟩
def p_:∀b G a c,uj b G=.ok a c->a.length=0:=λb G a c e=>by cases e;rfl
def Vd(h:∀b G a d,ms b G=.ok a d->a.length=n):∀b G a d,Qz m ms b G=.ok a d->a.length=n+1:=λb G a d e=>by
 unfold Qz at e;cases i:m b G with
 |wall=>rw[i]at e;cases e
 |exc c fs f=>rw[i]at e;cases e
 |ok x f=>
  rw[i]at e;have e:(ms b f).bind (λa j=>.ok (x::a) j)=.ok a d:=e;cases g:ms b f with
  |wall=>rw[g]at e;cases e
  |exc c fs f=>rw[g]at e;cases e
  |ok l j=>rw[g]at e;cases e;rw[O1,h _ _ _ _ g]
inductive HFw where
 |nx (ρ:ZY) (G:AH)|rt (x:HV) (G:AH)|bk (ρ:ZY) (G:AH)|ct (ρ:ZY) (G:AH)|exc (c:Nat) (fs:OK) (G:AH)|wall
abbrev HMS:=ZY->AH->HFw
def HPs(Z:HC)(E:XK)(A:Oy)(n:Nat)(H:Hp)(D:Ends):HFw->Prop
 |.nx f d=>∀e b a,HR Z e b a f d->Gro Z A n H e d.length b->D.nx a b
 |.rt x d=>∀e b v,HH Z e b d->Gro Z A n H e d.length b->ZD Z.W (HM Z e d.length) e d.length b x v->D.rt v b
 |.bk f d=>∀e b a,HR Z e b a f d->Gro Z A n H e d.length b->D.bk a b
 |.ct f d=>∀e b a,HR Z e b a f d->Gro Z A n H e d.length b->D.ct a b
 |.exc c fs d=>By Z E A n H c fs d
 |.wall=>False
def HX.fw{b:Type}:HX b->(b->AH->HFw)->HFw
 |.ok a G,f=>f a G
 |.exc c fs G,_=>.exc c fs G
 |.wall,_=>.wall
def LHS(W:RC)(E:XK)(ts:TS)(m:HMS):Prop:=∀(Z:HC),Z.W=W->∀A H a b G,HR Z A H a b G->∀D,HPs Z E A G.length H D (m b G)->ts D a H
def HS(X:Cx)(W:RC)(E:XK)(st:OY)(m:HMS):Prop:=X.K=W.K->∃a,PS X st a/\LHS W E a m
def HSs(X:Cx)(W:RC)(E:XK)(st:ON)(m:HMS):Prop:=X.K=W.K->∃a,PSs X st a/\LHS W E a m
section
variable {α:Type}{K':α->(Nat->Addr)->Hp->AH->Prop}
def HPs.gro(h:HPs Z E A n H D o)(g:Gro Z A n H A' n' H'):HPs Z E A' n' H' D o:=by
 cases o with
 |nx f G=>exact λd b a r e=>h d b a r (g.trans e)
 |rt x G=>exact λd b v r e=>h d b v r (g.trans e)
 |bk f G=>exact λd b a r e=>h d b a r (g.trans e)
 |ct f G=>exact λd b a r e=>h d b a r (g.trans e)
 |exc c fs G=>exact By.gro h g
 |wall=>exact h
def HPs.bind{o:HX α}{f:α->AH->HFw}(h:HPs Z E A n H D (o.fw f))(k:∀x d b a,HH Z d b a->Gro Z A n H d a.length b->HPs Z E d a.length b D (f x a)->K' x d b a):HPx Z E A n H K' o:=by
 cases o with
 |ok x a=>exact λi g j e=>k x i g a j e (HPs.gro h e)
 |exc c fs a=>exact h
 |wall=>exact h
end
def Yw:HMS:=λa G=>.nx a G
def Yo(a b:HMS):HMS:=λf G=>match a f G with
 |.nx d e=>b d e
 |.rt x e=>.rt x e
 |.bk d e=>.bk d e
 |.ct d e=>.ct d e
 |.exc c fs e=>.exc c fs e
 |.wall=>.wall
def Vz(i:Nat)(m:HME):HMS:=λa G=>(m a G).fw λx b=>.nx (a.set i (some x)) b
def Ke(m:HME):HMS:=λa G=>(m a G).fw λ_ b=>.nx a b
def Ue(m:HME):HMS:=λb G=>(m b G).fw λx a=>.rt x a
def hIf(t:HMT)(a b:HMS):HMS:=λd G=>(t d G).fw λc e=>if c=true then a d e else b d e
section
variable {X:Cx}{W:RC}{E:XK}{e a o:Ot}{es:Oq}{pos pos':Pos}{m m1 m2:HME}{t1:HMT}{s1 s2:HMS}{x:Str}{st:OY}{sts stt:ON}{i:Nat}
def Yx:HSs X W E [] Yw:=λ_=>⟨_,nD,λZ f A H c d G R D q=>q A H c R Gro.refl⟩
def GX(r:LHS W E t s1)(w:LHS W E u s2):LHS W E (Lj t u) (Yo s1 s2):=λZ l A H s j G R D q=>by
 refine r Z l A H s j G R _ ?_;unfold Yo at q;revert q;cases s1 j G with
 |nx d f=>exact λq v y h n g=>w Z l v y h d f n D (HPs.gro (o:=s2 d f) q g)
 |rt x f=>exact id
 |bk d f=>exact id
 |ct d f=>exact id
 |exc c fs f=>exact id
 |wall=>exact id
def z0(h:HS X W E st s1)(j:HSs X W E sts s2):HSs X W E (st::sts) (Yo s1 s2):=λc=>by obtain⟨t,l,g⟩:=h c;obtain⟨u,f,d⟩:=j c;exact⟨_,Wx l f,GX g d⟩
def qF(d:HS X W E st s1):HSs X W E [st] s1:=λf=>by obtain⟨t,g,c⟩:=d f;exact⟨_,Yp g,c⟩
def rf(f:∀(Z:HC),Z.W=W->∀A H d c G,HR Z A H d c G->∀Q,HPx Z E A G.length H (KV' Z Q) (m c G)->te d H Q):LHS W E (AY te (aw i)) (Vz i m):=λZ s A H d c G R D q=>
 f Z s A H d c G R _ (HPs.bind q λx r h t j g l v n=>l r h _ ((R.gro j g).set n) Gro.refl)
def rg(g:X.N.Nodup)(f:X.N[i]?=some x)(l:Loc X.env.scope x)(h:HE X W E e m)(c:swapsWith e (some (.Name x pos')) pos.line X.env=pure false:=by rfl)(hf:X.fn x=true\/X.env.scope.names.lookup x=some .local:=by first|exact .inl rfl|exact .inr rfl|assumption):
  HS X W E (.Assign [.Name x pos'] e pos) (Vz i m):=λj=>by
 obtain⟨q,n,d⟩:=h j;exact⟨_,gQ g f l n c hf,rf d⟩
def aZ(h:HE X W E e m)(t:swapsWith e none pos.line X.env=pure false:=by rfl):HS X W E (.Expr e pos) (Ke m):=λw=>by obtain⟨B,r,d⟩:=h w;exact⟨_,K5 r t,λZ u A H c j G R D q=>d Z u A H c j G R _ (HPs.bind q λx s g z l f n v y=>n s g c (R.gro l f) Gro.refl)⟩
def Yy(h:HE X W E e m):HS X W E (.Return (some e) pos) (Ue m):=λu=>by obtain⟨z,n,c⟩:=h u;exact⟨_,gO n,λZ t A H r f G R D q=>c Z t A H r f G R _ (HPs.bind q λx s d y g w j v l=>j s d v g Gro.refl l)⟩
def dq(h:HT X W E c t1)(g:HSs X W E sts s1)(J:HSs X W E stt s2):HS X W E (.If c sts stt pos) (hIf t1 s1 s2):=λn=>by
 obtain⟨K,B,y⟩:=h n;obtain⟨t,z,C⟩:=g n;obtain⟨u,I,F⟩:=J n;refine⟨_,Fv B z I,λZ l A H d j G R D q=>y Z l A H d j G R _ (HPs.bind q λk v f w g r s=>?_)⟩;cases k with
 |true=>show(if true=true then t D d f else u D d f);exact C Z l v f d j w (R.gro g r) D s
 |false=>show(if false=true then t D d f else u D d f);exact F Z l v f d j w (R.gro g r) D s
def N7{Z:HC}{A:Oy}{H:Hp}{G:AH}{σ:St}{ρ:ZY}{D:Ends}{k:Nat}{c:Cell}{o h:HO}(R:HR Z A H σ ρ G)(f:k<G.length)(j:H (A k)=some h)(d:¬Imm h)(l:fR Z.W (HM Z A G.length) A G.length (upd H (A k) o) (A k) c)(q:HPs Z E A G.length H D (.nx ρ (G.set k c))):D.nx σ (upd H (A k) o):=by
 have g:Gro Z A G.length H A (G.set k c).length (upd H (A k) o):=by rw[a0i];exact R.toHH.frw f j d
 exact q A _ σ (R.gro (R.toHH.write f j d l) g) g
def Nb(h mk g:HME):HMS:=λd G=>(g d G).fw λy j=>(h d j).fw λx l=>(mk d l).fw λz f=>match x,z with
 |.g k,.v z=>match f[k]?,pk z with
  |some (.d c),some q=>if c.length<sizeLine then .nx d (f.set k (.d (dput c q y)))else .wall
  |_,_=>.wall
 |_,_=>.wall
def GY(L:X.A.units+1<cLine)(ho:HE X W E o m)(j:HE X W E a m1)(hv:HE X W E e m2)(hs:swapsWith e (some (.Subscript o a pos')) pos.line X.env=pure false:=by rfl):
  HS X W E (.Assign [.Subscript o a pos'] e pos) (Nb m m1 m2):=λB=>by
 obtain⟨to,o1,o2⟩:=ho B;obtain⟨ta,a1,K⟩:=j B;obtain⟨tv,O,b2⟩:=hv B;refine⟨_,n_ L o1 a1 O hs,λZ t A H s n G R D q=>b2 Z t A H s n G R _ (HPs.bind q λy A1 N G1 S M T v Q=>?_)⟩;have I:=R.gro S M;refine o2 Z t A1 N s n G1 I _ (HPs.bind T λx A2 J Y h2 F q2 w U=>?_);have R2:=I.gro h2 F;refine K Z t A2 J s n Y R2 _ (HPs.bind q2 λz A3 H3 G3 l g d u rz=>?_);split at d
 .rename_i k z;obtain⟨j,rfl⟩:=U;split at d
  .rename_i C q P hq;split at d
   .rename_i hl;obtain⟨es,hp,r⟩:=l.cell k _ P;have f:=R8 j g.le;have g4:=l.frw (o:=.dK (putK es q v)) f hp id;rw[<- g.agr k j];refine⟨_,_,rfl,by rw[fC (yI.iff.mpr rz) hq];exact E8.k hp (by rw[r.len];exact hl),N7 (c:=.d (dput C q y)) (R2.gro l g) f hp id ⟨_,zh,?_⟩ d⟩;exact(r.put ((Q.gro F).gro g)).imp λ_ _ h=>h.gro g4
   .exact d.elim
  .exact d.elim
 .exact d.elim
end
abbrev HMG:=HV->ZY->Option ZY
def HG(X:Cx)(W:RC)(tg:Ot)(mg:HMG):Prop:=X.K=W.K->∃g,PG X tg g/\∀(Z:HC),Z.W=W->∀A H c d G x v,HR Z A H c d G->ZD Z.W (HM Z A G.length) A G.length H x v->∀Q:St->Hp->Prop,(∃b,mg x d=some b/\∀a,HR Z A H a b G->Q a H)->g v c H Q
abbrev N8:=List HV->ZY->Option ZY
def hgN(i:Nat):HMG:=λx a=>some (a.set i (some x))
def rh(a:X.N.Nodup)(b:X.N[i]?=some x)(c:Loc X.env.scope x)(hf:X.fn x=true\/X.env.scope.names.lookup x=some .local:=by first|exact .inl rfl|exact .inr rfl|assumption):HG X W (.Name x pos) (hgN i):=
 λ_=>⟨_,nE a b c hf,λZ h A H f g G x v R r Q ⟨d,e,k⟩=>by cases e;exact k _ (R.set r)⟩
def fV(g:HMG)(b:HMS):List HV->ZY->AH->HFw
 |[],e,G=>.nx e G
 |x::h,e,G=>match g x e with
  |none=>.wall
  |some f=>match b f G with
   |.nx a d=>fV g b h a d
   |.ct a d=>fV g b h a d
   |.bk a d=>.nx a d
   |.rt v d=>.rt v d
   |.exc c fs d=>.exc c fs d
   |.wall=>.wall
def isZ:Cell->Bool
 |.z _=>true
 |.w _=>true
 |_=>false
def xy(A:Oy)(G:AH)(a:Addr):Prop:=∃k c,G[k]?=some c/\isZ c=false/\A k=a
section
variable {W:RC}{E:XK}{Z:HC}{A A':Oy}{H H':Hp}{G G':AH}{σ:St}{ρ:ZY}{D:Ends}
def fR.live{M:Ol}{n:Nat}{p:Addr}:∀{c:Cell},fR W M A n H p c->isZ c=false->∃o,H p=Option.some o/\¬Imm o
 |.l _,⟨_,e,_⟩,_=>⟨_,e,id⟩
 |.d _,⟨_,e,_⟩,_=>⟨_,e,id⟩
 |.z _,_,h=>by cases h
 |.o _ _,⟨_,_,e,_⟩,_=>⟨_,e,id⟩
 |.y _,⟨_,_,e,_⟩,_=>⟨_,e,id⟩
 |.m _ _ _,⟨_,_,e,_⟩,_=>⟨_,e,id⟩
 |.u _,⟨_,e,_⟩,_=>⟨_,e,id⟩
 |.w _,_,h=>by cases h
def fR.zed{M:Ol}{n:Nat}{p:Addr}:∀{c:Cell},fR W M A n H p c->isZ c=true->∃o,H p=Option.some o/\Imm o
 |.l _,_,h=>by cases h
 |.d _,_,h=>by cases h
 |.z _,⟨_,_,e,_⟩,_=>⟨_,e,trivial⟩
 |.o _ _,_,h=>by cases h
 |.y _,_,h=>by cases h
 |.m _ _ _,_,h=>by cases h
 |.u _,_,h=>by cases h
 |.w _,e,_=>⟨_,e,trivial⟩
def Gro.rest(h:HH Z A H G)(h':HH Z A' H' G')(g:Gro Z A G.length H A' G'.length H'):Fr (λa=>¬xy A G a) H H':=λa o e m=>by
 rcases m with m|m
 .by_cases c:∃k,k<G.length/\A k=a
  .obtain⟨k,b,rfl⟩:=c;have d:=O3 b;have hz:isZ G[k]=true:=by
    cases z:isZ G[k]with
    |true=>rfl
    |false=>exact absurd ⟨k,_,d,z,rfl⟩ m
   obtain⟨j,f,i⟩:=(h.cell k _ d).zed hz;rw[f]at e;cases e;exact g.fr _ _ f (.inr i)
  .cases q:Z.H0 a with
   |none=>exact g.fr a o e (.inl ⟨.inr q,λk b z=>c ⟨k,b,z⟩⟩)
   |some u=>have:=h.same a u q;rw[e]at this;cases this;exact h'.same a _ q
 .exact g.fr a o e (.inr m)
open Classical in
def bsH(Z:HC)(A:Oy)(H:Hp)(G:AH):Bs:=⟨λa=>if xy A G a then none else H a,HM Z A G.length,λ_=>False,λ_ h=>h.elim,none,xy A G⟩
def Mn(R:HR Z A H σ ρ G)(e:WH bs ρ=some r)(g:S.all (·==0)=true):Rel Z.W (bsH Z A H G) S (λ_=>0) H σ r:=by
 have d:∀{k:Nat},S[k]?=some 2->False:=λ{k} h=>by have:=GP g h;omega
 have l:∀{k:Nat},S[k]?=some 1->False:=λ{k} h=>by have:=GP g h;omega
 refine⟨λa o h=>?_,R.len.trans (Kb e).symm,λi x q=>?_,λi b=>(d b).elim,λi j b=>(d b).elim,λb=>(d b).elim,λa h=>?_,λi b=>(d b).elim⟩
 .unfold bsH at h;dsimp only at h;split at h
  .cases h
  .exact h
 .obtain⟨v,n,t⟩:=R.var i _ (Ka e q);refine⟨v,n,λz=>(d z).elim,λz=>(l z).elim,λ_ _=> t.sub λa m _=>⟨⟨.inl m,λ⟨k,c,f,_,s⟩=>m.2 k (P5.mp f).1 s⟩,λi b=>(d b).elim⟩⟩
 .obtain⟨k,c,f,hz,rfl⟩:=h;obtain⟨o,u,p⟩:=(R.toHH.cell k c f).live hz;exact⟨o,u,p,by unfold bsH;dsimp only;rw[if_pos ⟨k,c,f,hz,rfl⟩]⟩
def xA(P:Z.W=W)
  (hi:∀R:It->Hp->Prop,(∀J t,zF H t->C2 Z.W (HM Z A G.length) (λa=>¬xy A G a) t J xs->R J t)->wi σ H R)
  (S:∀(Z:HC),Z.W=W->∀A H σ ρ G x v,HR Z A H σ ρ G->ZD Z.W (HM Z A G.length) A G.length H x v->∀Q:St->Hp->Prop,(∃b,mg x ρ=some b/\∀d,HR Z A H d b G->Q d H)->g v σ H Q) (hb:LHS W E tb mb) (R:HR Z A H σ ρ G) (q:HPs Z E A G.length H D (fV mg mb (xs.map .v) ρ G)):Fz wi g tb D σ H:=by
 refine hi _ λJ t s2 io=>?_;have R2:=R.keep s2;have q2:=HPs.gro q (Gro.same s2);refine⟨λi n d H'=>n=xs.length-i/\i<=xs.length/\∃b A' G',HR Z A' H' d b G'/\Gro Z A G.length t A' G'.length H'/\HPs Z E A' G'.length H' D (fV mg mb ((xs.drop i).map .v) b G'),⟨_,rfl,a0c _,ρ,A,G,R2,Gro.refl,q2⟩,?_⟩
 rintro i n d H' ⟨rfl,U,b,A',G',C,O,f⟩
 have z:=io H' (Gro.rest R2.toHH C.toHH O);by_cases p:i<xs.length
 .have hx:=O3 p;obtain⟨go,yl⟩:=z.1 i _ hx;refine .inr ⟨go,λy r=>i+1<=xs.length/\∃b A' G',HR Z A' r y b G'/\Gro Z A G.length t A' G'.length r/\HPs Z E A' G'.length r D (fV mg mb ((xs.drop (i+1)).map .v) b G'),λy r h=>⟨xs.length-(i+1),by omega,rfl,h.1,h.2⟩,λv l hy=>?_⟩;obtain⟨I,ry⟩:=yl v l hy;have Ry:=C.keep I;have L:=O.trans (Gro.same I);have rx:=ry _ λa m T=>L.sM a m T;rw[a0G p,R7]at f;unfold fV at f;split at f
  .exact f.elim
  .rename_i u B;refine S Z P A' l d b G' _ v Ry (show ZD Z.W _ _ _ l (.v xs[i]) v from rx) _ ⟨u,B,λM Y=>hb Z P A' l M u G' Y _ ?_⟩;have f:=HPs.gro f (Gro.same I);revert f;cases mb u G' with
   |wall=>exact id
   |exc c fs s=>exact id
   |nx j s=>exact λf K H3 N F w=>⟨p,j,K,s,F,L.trans w,HPs.gro f w⟩
   |ct j s=>exact λf K H3 N F w=>⟨p,j,K,s,F,L.trans w,HPs.gro f w⟩
   |bk j s=>exact id
   |rt x s=>exact id
 .have e:i=xs.length:=by omega
  subst e;rw[a1W]at f;exact .inl ⟨z.2,f A' H' d C Gro.refl⟩
end
def mB(bs:Ou)(mi:MI)(g:HMG)(b:HMS):HMS:=λa G=>match WH bs a with
 |some r=>match mi r with
  |.ok c=>fV g b (c.map .v) a G
  |_=>.wall
 |none=>.wall
section
variable {X:Cx}{W:RC}{E:XK}{fr:Bool}{S:Og}{tg qd:Ot}{body:ON}{mi:MI}{mg:HMG}{mb:HMS}{pos:Pos}
def Ds(bs:Ou)(hp:PassesOwn (Px X) X.A X.env X.xe)(F:X.calm=true)(U:IM X ⟨W,E,fr⟩ S false tg qd mi)(w:HG X W tg mg)(hb:HSs X W E body mb)(n:S.all (·==0)=true:=by rfl)(Y:∀x,foldedSetIterable qd X.env x=pure x:=by intro _;rfl):
  HS X W E (.For tg qd body [] pos) (mB bs mi mg mb):=λj=>by
 obtain⟨wi,L,u⟩:=U j;obtain⟨g,C,M⟩:=w j;obtain⟨tb,T,Q⟩:=hb j;refine⟨_,gS hp F L C T Y,λZ hZ A H P ρ G R D q=>?_⟩;unfold mB at q;split at q
 .rename_i r O;split at q
  .rename_i xs c;subst hZ;refine xA rfl (λt k=>?_) M Q R q;refine u _ _ H P r (Mn R O n) t ?_;rw[c];intro J p s I;refine k J p s λH' f=>?_;have n2:∀{k:Nat},S[k]?=some 2->False:=λ{k} h=>by have:=GP n h;omega
   obtain⟨e,K⟩:=I H' λa o h m=>f a o h (m.imp (λm z=>m.1 z) id);refine⟨λi x c=>⟨(e i x c).1,λv d l=>⟨((e i x c).2 v d l).1,λB sM=>((e i x c).2 v d l).2 B λa m y=>sM a ?_ y⟩⟩,K⟩;have b:=m.1.1;rcases b with b|b
   .exact b
   .unfold bsH at b;dsimp only at b;split at b
    .rename_i N;exact absurd N m.1.2
    .exact R.toHH.new a b
  .exact q.elim
 .exact q.elim
end
def hB(p:OB)(ms:HMA):HME:=λb G=>(ms b G).bind λc a=>match E_ (bY a 8) c with
 |some d=>match p d with
  |.ok z=>if imm z=true then .ok (.v z) a else .wall
  |_=>.wall
 |none=>.wall
def nq(n:Nat)(ms:HMS)(xs:List HV)(G:AH):HX HV:=match ms (xs.map some++List.replicate (n-xs.length) none) G with
 |.nx _ a=>.ok (.v .n) a
 |.rt x a=>.ok x a
 |.exc c fs a=>.exc c fs a
 |_=>.wall
def mD{xs:List HV}{n k:Nat}{x:HV}(h:(xs.map some++List.replicate (n-xs.length) none)[k]?=some (some x)):xs[k]?=some x:=by grind
def iz(h:HH Z A H G)(r:jd Z.W (HM Z A G.length) A G.length H xs vs):HR Z A H (start N vs) (xs.map some++List.replicate (N.length-xs.length) none) G:=by
 refine⟨h,?_,λi x e=>?_⟩
 .unfold start;rw[P2,P2,u8,u8,a1q,a1q,r.len]
 .obtain⟨v,a,c⟩:=r.get (mD e);have b:=(P5.mp a).1;refine⟨v,?_,c⟩;unfold start;rw[a0n (by grind),S5,a];rfl
section
variable {P:Ox}{w:OE}{K:OL}{mg:Oi}{base:Heap}
def rj{x b:Str}{st:OY}{f:Addr}{u:OH}{N o:Oj}{k n l:Nat}{W:RC}{ms:HMS}(F:Fun K x b st f u)(S:zy N o (zm st))(hW:K=W.K)(t:o.length=l)(J:N.length=n)
  (h:∀(d:Value)(A:OG)(a:List Env)(s:Om)(H:Hp)(E:XK),j7 k (A.deeper (envOfC b (zm st) s.heap.objs.size f d))->HSs (thr (lS (CXe P w) P w K mg base N b (zm st) f d A a s H E) E) W E (Zu st) ms):
  qz P w K mg base (CXe P w) (k+1) f u o (hsp W l (nq n ms)):=by
 subst J t;refine F.okX S p6 λd A a s H U Q E D ⟨Z,L,G,p,T,t,z,r,q⟩=>?_;obtain⟨B,I,C⟩:=h d A a s H E D hW;refine⟨B,I,C Z T L H _ _ G (iz z r) _ ?_⟩;unfold nq at q;revert q;cases ms (p.map some++List.replicate (N.length-p.length) none) G with
 |exc c fs g=>exact id
 |wall=>exact id
 |nx e g=>exact λq m i O R2 j=>q m i R2.toHH j .non rfl
 |rt y g=>exact λq m i v R j M=>q m i R j v M
 |bk e g=>exact λq=>q.elim
 |ct e g=>exact λq=>q.elim
end
def Mo{st:OY}{n:TE}(h:PS X st (AY n (aw j))):PS X st (AY (tGz n) (aw j)):=by
 intro c s m H D I q;rcases q with⟨a,l,g,q⟩|q
 .obtain⟨o,p⟩:=I.Md g;have hz:=I.ig g;refine thn (h c s m _ { nx:=λb i=>(∃o,i a=some (.frz o (.dK l)))/\D.nx b (upd i a (.dK l)),rt:=λ_ _=>False } p (q o)) λf r z=>?_;cases f with
  |next=>obtain⟨b,e,J,⟨t,hf⟩,d⟩:=z;exact⟨b,_,J.C_ hf hz,d⟩
  |brk=>obtain⟨b,e,J,d⟩:=z;exact d.elim
  |cont=>obtain⟨b,e,J,d⟩:=z;exact d.elim
  |ret u=>obtain⟨v,b,e,J,w,d⟩:=z;exact d.elim
 .exact h c s m H D I q
def GZ(bs:Ou)(N:Oj)(fr:OF)(c:Og)(G:X.N.Nodup)(B:X.N[j]?=some y)(t:X.env.scope.names.lookup y=some .local)(n:X.calm=true)(f:l5 X scope N fr=true)(v:PE X qd (UJ i))(l:∀z:CI,GM (cxI X scope N z) ⟨W,E0,false⟩ c c tg mg)(q:∀z:CI,TsM (cxI X scope N z) ⟨W,E0,false⟩ c ifs mc)(he:∀z:CI,EM (cxI X scope N z) ⟨W,E0,false⟩ c false elt me)(e:S[i]?≠some 2:=by decide)(D:c=inS S fr:=by rfl)(p:S.all (·==0)=true:=by rfl)
  (d:swapsWith (.ListComp elt [⟨tg,qd,ifs,0⟩] scope pos) (some (.Name y py)) bW.line X.env=pure true:=by rfl) (F:∀x,foldedSetIterable qd X.env x=pure x:=by intro _;rfl):HS X W E (.Assign [.Name y py] (.ListComp elt [⟨tg,qd,ifs,0⟩] scope pos) bW) (Vz j (hF bs (mLC (qE i) fr mg mc me))):=λh=>by
 obtain⟨g,m,u⟩:=K_ l λ_=>h;obtain⟨I,A,w⟩:=K9 q λ_=>h;obtain⟨J,r,o⟩:=K8 he λ_=>h;exact⟨_,Mo (uS N fr G B t n f (aM v) (λa b s H L=>m ⟨a,b,s,H,L⟩) (λa b s H L=>A ⟨a,b,s,H,L⟩) (λa b s H L=>r ⟨a,b,s,H,L⟩) d F),rf (Na bs (Br (C:=⟨W,E,false⟩) e D u w o) p)⟩
def iA{a:Type}:List (a×HV)->Option (List (a×PV))
 |[]=>some []
 | (k,.v x)::b=>(iA b).map ((k,x)::·)
 |_::_=>none
def Dt:Cell->Option PV
 |.l d=>(iy d).map .l
 |.d a=>(iA a).map .d
 |.z a=>(iA a).map .d
 |.o c fs=>(iA fs).map (.o c)
 |.y _=>none
 |.m _ _ _=>none
 |.u _=>none
 |.w b=>some (.t (b.map kP))
def sres(G:AH):HV->Option PV
 |.v x=>some x
 |.t a=>(iy a).map .t
 |.g k=>(G[k]?).bind Dt
def Ug(G:AH):List Bool->ZY->Option Sto
 |_,[]=>some []
 |[],_::a=>(Ug G [] a).map (none::·)
 |false::bs,_::a=>(Ug G bs a).map (none::·)
 |true::bs,some x::a=>(sres G x).bind λy=>(Ug G bs a).map (some y::·)
 |true::_,none::_=>none
def hW(bs:Ou)(m:ME):HME:=λa G=>match Ug G bs a with
 |some r=>match m r with
  |.ok x=>.ok (.v x) G
  |.exc c fs=>.exc c fs G
  |.wall=>.wall
 |none=>.wall
section
variable {Z:HC}{A:Oy}{H:Hp}{G:AH}{σ:St}{ρ:ZY}
theorem a5{W:RC}{M:Ol}{n:Nat}:∀{a:List (Key×HV)}{b:Oz}{c:Ov},iA a=some b->kX (ZD W M A n H) a c->y8 W M H b c
 |[],_,_,e,h=>by cases e;exact h
 | (k,.v x)::a,b,_,e,h=>by obtain⟨i,d,rfl⟩:=v1.mp e;obtain⟨v,r,rfl,f,g⟩:=h;exact⟨v,r,rfl,f,a5 d g⟩
 | (_,.g _)::_,_,_,e,_=>by cases e
 | (_,.t _)::_,_,_,e,_=>by cases e
theorem iB{W:RC}{M:Ol}{n:Nat}:∀{a:List (Str×HV)}{b:OK}{c:OU},iA a=some b->kX (ZD W M A n H) a c->Zg W M H b c
 |[],_,_,e,h=>by cases e;exact h
 | (k,.v x)::a,b,_,e,h=>by obtain⟨i,d,rfl⟩:=v1.mp e;obtain⟨v,r,rfl,f,g⟩:=h;exact⟨v,r,rfl,f,iB d g⟩
 | (_,.g _)::_,_,_,e,_=>by cases e
 | (_,.t _)::_,_,_,e,_=>by cases e
def xB(h:HH Z A H G)(r:ZD Z.W (HM Z A G.length) A G.length H x v)(e:sres G x=some y):yI Z.W (λa=>H a≠none) (HM Z A G.length) H y v:=by
 cases x with
 |v z=>have e:=e;cases e;exact yI.sub (yI.iff.mpr r) (λ_ _ n=>n) λ_ m _=>m
 |t j=>obtain⟨D,i,rfl⟩:=v1.mp (show(iy j).map PV.t=some y from e);obtain⟨p,B,rfl,s,q⟩:=r;exact⟨p,B,rfl,s,Kc i q⟩
 |g k=>
  obtain⟨I,rfl⟩:=r;obtain⟨c,C,e⟩:=S7.mp (show(G[k]?).bind Dt=some y from e);cases c with
  |y b=>cases e
  |m _ _ _=>cases e
  |u _=>cases e
  |w E=>cases e;exact⟨A k,_,rfl,.inl (.inl (h.cell k _ C)),fS E⟩
  |l j=>obtain⟨D,i,rfl⟩:=v1.mp (show(iy j).map PV.l=some y from e);obtain⟨B,f,q⟩:=h.cell k _ C;exact⟨A k,B,rfl,(λz=>by(rw[f]at z;cases z)),f,Kc i q⟩
  |d j=>obtain⟨D,i,rfl⟩:=v1.mp (show(iA j).map PV.d=some y from e);obtain⟨B,f,q⟩:=h.cell k _ C;exact⟨A k,B,rfl,(λz=>by(rw[f]at z;cases z)),.inl f,a5 i q⟩
  |z j=>obtain⟨D,i,rfl⟩:=v1.mp (show(iA j).map PV.d=some y from e);obtain⟨o,B,f,q⟩:=h.cell k _ C;exact⟨A k,B,rfl,(λz=>by(rw[f]at z;cases z)),.inr ⟨o,f⟩,a5 i q⟩
  |o c j=>obtain⟨D,i,rfl⟩:=v1.mp (show(iA j).map (PV.o c)=some y from e);obtain⟨F,B,f,q⟩:=h.cell k _ C;exact⟨A k,F,B,rfl,(λz=>by(rw[f]at z;cases z)),f,iB i q⟩
theorem Qv:∀{bs:Ou}{ρ:ZY}{r:Sto}{i:Nat}{x:PV},Ug G bs ρ=some r->r[i]?=some (some x)->i<bs.length/\∃y,ρ[i]?=some (some y)/\sres G y=some x
 |_,[],r,i,x,e,h=>by cases e;simp at h
 |[],_::ρ,r,i,x,e,h=>by
  obtain⟨b,a,rfl⟩:=v1.mp e;cases i with
  |zero=>cases h
  |succ i=>exact absurd (Qv a h).1 (Nat.not_lt_zero _)
 |false::bs,_::ρ,r,i,x,e,h=>by
  obtain⟨b,a,rfl⟩:=v1.mp e;cases i with
  |zero=>cases h
  |succ i=>exact⟨a3a (Qv a h).1,(Qv a h).2⟩
 |true::bs,some y::ρ,r,i,x,e,h=>by
  obtain⟨z,c,e⟩:=S7.mp e;obtain⟨b,a,rfl⟩:=v1.mp e;cases i with
  |zero=>cases h;exact⟨Nat.zero_lt_succ _,y,rfl,c⟩
  |succ i=>exact⟨a3a (Qv a h).1,(Qv a h).2⟩
 |true::bs,none::ρ,r,i,x,e,h=>by cases e
theorem WK:∀{bs:Ou}{ρ:ZY}{r:Sto},Ug G bs ρ=some r->r.length=ρ.length
 |_,[],r,e=>by cases e;rfl
 |[],_::ρ,r,e=>by obtain⟨b,a,rfl⟩:=v1.mp e;rw[O1,O1,WK a]
 |false::bs,_::ρ,r,e=>by obtain⟨b,a,rfl⟩:=v1.mp e;rw[O1,O1,WK a]
 |true::bs,some y::ρ,r,e=>by obtain⟨z,c,e⟩:=S7.mp e;obtain⟨b,a,rfl⟩:=v1.mp e;rw[O1,O1,WK a]
 |true::bs,none::ρ,r,e=>by cases e
def Mp(R:HR Z A H σ ρ G)(e:Ug G bs ρ=some r)(s:S.all (·==1)=true)(t:bs.length<=S.length):Rel Z.W (ug H (HM Z A G.length)) S (λ_=>0) H σ r:=by
 have one:∀{k c:Nat},S[k]?=some c->c=1:=λ{k c} h=>by have:=a0d.mp s c (a1x h);simpa using this
 have d:∀{k:Nat},S[k]?=some 2->False:=λ{k} h=>by have:=one h;omega
 refine⟨zF.refl _,R.len.trans (WK e).symm,λi x h=>?_,λi b=>(d b).elim,λi j b=>(d b).elim,λb=>(d b).elim,λa h=>h.elim,λi b=>(d b).elim⟩;obtain⟨b,y,l,q⟩:=Qv e h;obtain⟨v,g,p⟩:=R.var i y l;have f:S[i]?=some 1:=by have o:=R8 b t;have:=O3 o;rw[this,one this]
 exact⟨v,g,λz=>(d z).elim,λ_=>yI.sub (xB R.toHH p q) (λ_ n _=>n) λa m _=>⟨⟨.inl m,id⟩,λi b=>(d b).elim⟩,λ_ z=>absurd f z⟩
end
section
variable {X:Cx}{W:RC}{E:XK}{fr:Bool}{S:Og}{e:Ot}{m:ME}
def N9(bs:Ou)(h:EM X ⟨W,E,fr⟩ S false e m)(l:S.all (·==1)=true:=by rfl)(o:bs.length<=S.length:=by decide):HE X W E e (hW bs m):=λu=>by
 obtain⟨p,g,d⟩:=h u;refine⟨p,g,λZ t A H j w G R Q q=>?_⟩;subst t;unfold hW at q;split at q
 .rename_i r i;refine d _ _ H j r (Mp R i l o) Q ?_;revert q;cases m r with
  |ok x=>exact λq v b s f=>q A b (R.toHH.keep s) (Gro.same s) v (f.rep.sub λa m _=>xu R.toHH a m)
  |exc c fs=>exact λq=>aY R.toHH q λb y h=>h.sub λa m _=>m.elim id λn=>R.toHH.new a n
  |wall=>exact id
 .exact q.elim
end
def QG(m:ME):MS:=λa=>(m a).bind λ_=>.ok (.nx a)
section
variable {X:Cx}{C:LC}{S Sb Sc:Og}{e:Ot}{es:Oq}{ws:Ou}{ms:MA}{pos p pos':Pos}{x y:Str}{k i j:Nat}{f:Addr}{fd:OH}{ps:Oj}{fr:Bool}{g:OB}
def Du(F:qz X.prog X.w X.K X.mg X.base (CXe X.prog X.w) k f fd ps (lsp C.W fr ws g))(t:j7 k X.A)(E:Gl X x)(A:X.mg x=some (.ref f))(N:keepIn X.K (.ref f)=true)(Q:Binds X.K fd ps [])
  (u:AM X.nox C.nox S ws (e::es) ms) (O:swapsWith (.Call (.Name x p) (e::es) [] pos) none pos'.line X.env=pure false:=by rfl)
  (l:(x==("__debug__":Str))=false:=by decide) (he:starEach (e::es) X.env=(false,eval e X.env)::starEach es X.env:=by rfl) (hpl:(backTo pos (starEach es X.env)).any (·.1)=false:=by rfl):
  XM X C S S [.Expr (.Call (.Name x p) (e::es) [] pos) pos'] (QG (QE g ms)):=λT=>by
 obtain⟨W,K,z⟩:=u T;refine⟨_,g5 (gZ (aC F t E A N Q K l he hpl) O),λB P H L d R D Z q=>z B P H L d R _ ?_⟩;unfold QG QE at q;revert q;cases ms d with
 |exc c fs=>exact λq=>q.elim
 |wall=>exact id
 |ok h=>
  intro q Y U n I;have o:=R.keep n;refine⟨_,h,I.args,?_⟩;have q:pG C B S S P H D Z ((g h).bind λ_=>.ok (.nx d)):=q;revert q;cases g h with
  |ok r=>exact λq v b s t=>q P b _ (o.keep s)
  |exc c fs=>exact λq e w es b s J M G=>q e w es b (n.trans s) J M (G.sub λa m _=>Bo o m)
  |wall=>exact id
def zX.G0{W:RC}{M:Ol}{H:Hp}:∀{xs:OD}{vs:Ow},zX W M H xs vs->zX W M H xs.dropLast vs.dropLast
 |[],_,h=>by cases h;exact rfl
 |[x],_,⟨v,r,e,_,h⟩=>by subst e;cases h;exact rfl
 |x::y::xs,_,⟨v,r,e,h1,h2⟩=>by subst e;obtain⟨u,r',e',h3,h4⟩:=h2;subst e';have:=zX.G0 (xs:=y::xs) ⟨u,r',rfl,h3,h4⟩;exact⟨v,_,rfl,h1,this⟩
def xC(i j:Nat):MS:=λb=>match b[i]? with
 |some (some (.l a))=>match a[a.length-1]? with
  |some y=>.ok (.nx ((b.set i (some (.l a.dropLast))).set j (some y)))
  |none=>.wall
 |_=>.wall
def Dv(F:X.N.Nodup)(u:X.N[j]?=some x)(d:Loc X.env.scope x)(E:PE X o (UJ i))(l:S[i]?=some 2:=by rfl)(n:attributeBase o "pop" X.env (eval o X.env)=eval o X.env:=by rfl)(w:(qO.endLine==p.line)=true:=by rfl)(A:swapsWith (.Call (.Attribute o "pop" qO) [] [] p) (some (.Name x pos')) pos.line X.env=pure false:=by rfl)(hf:X.fn x=true\/X.env.scope.names.lookup x=some .local:=by first|exact .inl rfl|exact .inr rfl|assumption):
  SM X C S (S.set j 0) Sb Sc (.Assign [.Name x pos'] (.Call (.Attribute o "pop" qO) [] [] p) pos) (xC i j):=λJ=>by
 refine⟨_,gQ F u d (FO a1d a3Q a3R FP E n w) A hf,λB P H I G R D q=>?_⟩;unfold xC at q;split at q
 .rename_i s d;obtain⟨a,⟨b,hp,c⟩,t⟩:=R.at2 l d;split at q
  .rename_i y z;obtain⟨v,h,r⟩:=c.get z;have h:b[b.length-1]?=some v:=by rw[c.len];exact h
   have f:=Mof.wr (o:=.lst b.dropLast) R l;refine⟨_,a,.inl ⟨rfl,_,SqL.of hp⟩,_,b,v,rfl,rfl,hp,h,q P _ _ ((R.wr (x':=.l s.dropLast) l t a (by exact id) ⟨_,zh,c.G0.gen f λ_ m _=>m⟩).set (r.gen f λ_ m _=>m))⟩
  .exact q.elim
 .exact q.elim
end
def signsOf:PV->Out (List PV)
 |.s z=>.ok (z.cps.toList.map λc=>.s ⟨#[c]⟩)
 |_=>.wall
def dr(m:ME):MI:=λa=>(m a).bind signsOf
def G4:C2 W M N H2 (Its z) (z.cps.toList.map λc=>PV.s ⟨#[c]⟩):=λh f=>by refine⟨λi x d=>?_,by rw[u8];exact a28 a0S.symm⟩;rw[S5]at d;obtain⟨c,b,rfl⟩:=v1.mp d;rw[a1Q]at b;refine⟨(a1Y.mp b).1,λv e g=>?_⟩;obtain⟨rfl,j,a,rfl⟩:=g;rw[b]at a;cases a;exact⟨zF.refl _,λ_ _=>rfl⟩
def Dw:List PV->Option (List Str)
 |[]=>some []
 |.s z::a=>(Dw a).map (z::·)
 |_::_=>none
def Dx:∀{c:Ow}{a:Oj},zX W M H b c->Dw b=some a->c=a.map V.str:=by
 induction b with
 |nil=>intro c a r e;cases e;exact r
 |cons x b h=>
  intro c a r e;obtain⟨v,q,rfl,d,g⟩:=r;cases x with
  |s z=>obtain⟨i,f,rfl⟩:=v1.mp (show(Dw b).map (z::·)=some a from e);rw[h g f,d];rfl
  |_=>cases(show(none:Option (List Str))=some a from e)
theorem iC:∀{a:Oj},Dw (a.map .s)=some a
 |[]=>rfl
 |y::a=>by show(Dw (a.map .s)).map _=_;rw[iC];rfl
def G5(h:EM X C S w e m):IM X C S cc (.Name y py) e (dr m):=λg=>by
 obtain⟨j,i,f⟩:=h g;refine⟨_,F8 i,λB P H b a R Q q=>f B P H b a R _ ?_⟩;unfold dr at q;revert q;cases m a with
 |exc c fs=>exact id
 |wall=>exact id
 |ok x=>
  intro q v d s r;cases x with
  |s z=>have ev:=r.weak;exact⟨z,ev,q _ d s G4⟩
  |_=>exact q.elim
def Ve(k:Nat)(g:HMG)(b:HMS):Nat->Nat->ZY->AH->HFw
 |r,i,f,G=>match G[k]? with
  |some (.l h)=>match h[i]? with
   |none=>.nx f G
   |some x=>match r with
    |0=>.wall
    |r+1=>match g x f with
     |none=>.wall
     |some e=>match b e G with
      |.nx a d=>Ve k g b r (i+1) a d
      |.ct a d=>Ve k g b r (i+1) a d
      |.bk a d=>.nx a d
      |.rt v d=>.rt v d
      |.exc c fs d=>.exc c fs d
      |.wall=>.wall
  |_=>.wall
def xD(m:HME)(g:HMG)(b:HMS):HMS:=λa G=>(m a G).fw λx c=>match x with
 |.g k=>match c[k]? with
  |some (.l d)=>Ve k g b d.length 0 a c
  |_=>.wall
 |_=>.wall
def Dy(hp:PassesOwn (Px X) X.A X.env X.xe)(hc:X.calm=true)(hi:HE X W E qd m)(hg:HG X W tg mg)(hb:HSs X W E body mb)(hs:∀x,foldedSetIterable qd X.env x=pure x:=by intro _;rfl):
  HS X W E (.For tg qd body [] pos) (xD m mg mb):=λP=>by
 obtain⟨te,a1,a2⟩:=hi P;obtain⟨g,b1,b2⟩:=hg P;obtain⟨tb,c1,c2⟩:=hb P;refine⟨_,gS hp hc (oZ a1) b1 c1 hs,λZ U A H σ ρ G R D q=>a2 Z U A H σ ρ G R _ (HPs.bind q λx C H1 T h1 g1 z v rx=>?_)⟩;split at z
 .rename_i k;obtain⟨hk,rfl⟩:= rx;split at z
  .rename_i xs hx;have L:=R.gro h1 g1;obtain⟨vs,hl,rs⟩:=h1.cell k _ hx;refine .inl ⟨C k,rfl,⟨vs,SqL.of hl⟩,?_⟩;refine⟨λi n j B=>∃a f d,HR Z f B j a d/\Gro Z C T.length H1 f d.length B/\HPs Z E f d.length B D (Ve k mg mb n i a d),⟨xs.length,ρ,C,T,L,Gro.refl,z⟩,?_⟩
   rintro i n j B ⟨a,f,d,R',O,b⟩
   have ak:=O.agr k hk;unfold Ve at b;split at b
   .rename_i ys hy;obtain⟨K,J,ru⟩:=R'.toHH.cell k _ hy;rw[ak]at J;split at b
    .rename_i hn;refine .inl ⟨⟨K,SqL.of J,?_⟩,b f B j R' Gro.refl⟩;rw[ru.len];exact a13.mp hn
    .rename_i y hyi;obtain⟨u,w,rui⟩:=ru.get hyi;split at b
     .exact b.elim
     .rename_i r;refine .inr ⟨⟨K,u,SqL.of J,w⟩,λF l=>∃a f d,HR Z f l F a d/\Gro Z C T.length H1 f d.length l/\HPs Z E f d.length l D (Ve k mg mb r (i+1) a d),λF l h=>⟨r,a1V _,h⟩,λv' I M=>?_⟩;obtain⟨rfl,M⟩:=M;have:=M K (SqL.of J);rw[w]at this;cases this;split at b
      .exact b.elim
      .rename_i s Y;refine b2 Z U f I j a d y u R' rui _ ⟨s,Y,λN L=>c2 Z U f I N s d L _ ?_⟩;revert b;cases mb s d with
       |wall=>exact id
       |exc c fs p=>exact id
       |nx e p=>exact λb A3 H3 Q S t=>⟨e,A3,p,S,O.trans t,HPs.gro b t⟩
       |ct e p=>exact λb A3 H3 Q S t=>⟨e,A3,p,S,O.trans t,HPs.gro b t⟩
       |bk e p=>exact id
       |rt x p=>exact id
   .exact b.elim
  .exact z.elim
 .exact z.elim
def Fb(kvs:Oz)(y:PV):Out PV:=match pk y with
 |some k=>.ok ((qB kvs k).getD .n)
 |none=>.wall
def Nc(c d:ME):ME:=λb=>(c b).bind λx=>match x with
 |.d a=>(d b).bind (Fb a)
 |_=>.wall
def G6(A:X.A.units+1<cLine)(I:EM X C S w1 o m1)(M:EM X C S w2 e m2)(m:M1 X o "get" qO e jK):EM X C S false (.Call (.Attribute o "get" qO) [e] [] jK) (Nc m1 m2):=λt=>by
 obtain⟨T,J,w⟩:=I t;obtain⟨U,F,K⟩:=M t;refine⟨_,uI A J F m,λB P H r i R Q q=>w B P H r i R _ (zT q λx v E D G n=>?_)⟩;cases x with
 |d a=>
  obtain⟨p,g,rfl,_,s,rk⟩:=G.weak;refine⟨p,rfl,.inl ⟨g,s⟩,K B P E r i (R.keep D) _ (zT n λy u h s2 N b=>?_)⟩;cases l:pk y with
  |none=>
   have e:Fb a y=.wall:=by unfold Fb;rw[l]
   rw[e]at b;exact b.elim
  |some k=>
   have e:Fb a y=.ok ((qB a k).getD .n):=by unfold Fb;rw[l]
   rw[e]at b;have O:=fC N.weak l;subst O;have j:Rd h p (.dK g):=s.elim (λz=>.inl (s2 _ _ z)) λ⟨o,z⟩=>.inr ⟨o,s2 _ _ z⟩;refine⟨Ui g k,.inl ⟨g,k,j,rfl,rfl⟩,?_⟩;cases c:qB a k with
   |none=>rw[c]at b;rw[rk.IU c];exact b _ h (zF.refl _) (RV.of rfl)
   |some x=>rw[c]at b;obtain⟨v,ev,L⟩:=rk.get c;rw[ev];exact b _ h (zF.refl _) (RV.of (L.same s2))
 |_=>exact n.elim
def Mq{g:Type}{P:List g->Prop}{us:List g}(i:us.length=6)(h:∀a b c d e f,P [a,b,c,d,e,f]):P us:=by
 match us,i with|[a,b,c,d,e,f],_=>exact h a b c d e f
end L2
namespace L2
open PySem PySem.W PyProof.Rows
def VA{b:Type}(P:Pf)(f:Pb):KasT b->(b->Prop)->Prop
 |.ret a,Q=>Q a
 |.ask i j k,Q=>P i/\P j/\VA P f (k (f i j)) Q
theorem Zl{b c:Type}{P:Pf}{f:Pb}{g:b->KasT c}{Q:c->Prop}:∀{t:KasT b},VA P f t (λa=>VA P f (g a) Q)->VA P f (t.bind g) Q
 |.ret _,h=>h
 |.ask _ _ _,h=>⟨h.1,h.2.1,Zl h.2.2⟩
theorem y9{c:Type}{P:Pf}{f:Pb}{Q b:c->Prop}(d:∀a,Q a->b a):∀{t:KasT c},VA P f t Q->VA P f t b
 |.ret _,h=>d _ h
 |.ask _ _ _,h=>⟨h.1,h.2.1,y9 d h.2.2⟩
theorem rl{e:Type}{P:Pf}{f:Pb}{b:Nat->Nat->(Bool->Shared->Prop)->Shared->Prop}{J:Shared->Prop}(l:∀i j C s,P i->P j->J s->(∀g,J g->C (f i j) g)->b i j C s){Q:e->Prop}{R:e->Shared->Prop}(m:∀a s,Q a->J s->R a s):∀{t:KasT e}{s:Om},J s->VA P f t Q->t.kasWp b R s
 |.ret a,s,d,h=>m a s h d
 |.ask i j k,s,d,h=>l i j _ s h.1 h.2.1 d λg c=>rl l m c h.2.2
abbrev at0(p:Pa)(k:Nat):Nat:=p.getD k 0
def Kf:at0 p k=(p[k]?).getD 0:=by simp
def a6(a:j<=p.size)(k:Nat):at0 (kas_rev p i j) k=if i<=k/\k<j then at0 p (i+j-1-k)else at0 p k:=by rw[Kf,Kf,Kf];unfold kas_rev;rw[getElem?_mirror_all a];split<;>rfl
def UW(a:k<p.size)(b:l<=k)(i:Nat):at0 (bubble p k (k-l)) i=if i=l then at0 p k else if l<i/\i<=k then at0 p (i-1)else at0 p i:=by
 rw[Kf,Kf,Kf,Kf,getElem?_bubble a (k-l) (by omega),show k-(k-l)=l by omega];split
 .rfl
 .split<;>rfl
section
variable {O:KeyOrd}{key:Nat->O.α}{n:Nat}
abbrev kk(key:Nat->O.α)(p:Pa)(i:Nat):O.α:=key (at0 p i)
abbrev ans(key:Nat->O.α)(i j:Nat):Bool:=O.blt (key i) (key j)
structure Pm(n:Nat)(p:Pa):Prop where
 perm:p.toList.Perm (List.range n)
 size:p.size=n
def Pm.rev(h:Pm n p):Pm n (kas_rev p i j):=⟨(a2U.mp (mirror_perm p i j _)).trans h.perm,(kas_rev_size i j).trans h.size⟩
def Pm.bub(h:Pm n p):Pm n (bubble p i j):=⟨(a2U.mp (bubble_perm p i j)).trans h.perm,(bubble_size p i j).trans h.size⟩
def Pm.lt(h:Pm n p)(b:0<n)(k:Nat):at0 p k<n:=by
 rw[Kf];by_cases a:k<p.size
 .rw[getElem?_pos p k a];have:p[k]∈p.toList:=by simp
  exact a0a.mp (h.perm.mem_iff.mp this)
 .rw[getElem?_neg p k a];exact b
def Up(key:Nat->O.α)(p:Pa)(m:Nat):Prop:=∀i j,i<=j->j<m->O.kle (kk key p i) (kk key p j)
def Dn(key:Nat->O.α)(p:Pa)(m:Nat):Prop:=∀i j,i<=j->j<m->O.kle (kk key p j) (kk key p i)
theorem rn{p:Pa}(hp:Pm n p)(o:0<n):∀{f m:Nat},1<=m->m+f<=n->Up key p m->VA (·<n) (ans key) (kas_asc p f m) λr=>m<=r/\r<=m+f/\Up key p r/\(r<m+f->O.klt (kk key p r) (kk key p (r-1)))
 |0,m,_,_,e=>⟨O2 _,O2 _,e,λh=>absurd h (by omega)⟩
 |f+1,m,v,u,e=>by
  refine⟨hp.lt o _,hp.lt o _,?_⟩;show VA _ _ (if O.blt (kk key p m) (kk key p (m-1))=true then _ else _) _;cases q:O.blt (kk key p m) (kk key p (m-1))with
  |true=>exact⟨O2 _,by omega,e,λ_=>q⟩
  |false=>
   have l:Up key p (m+1):=λi j g t=>by
    by_cases c:j=m
    .subst c;by_cases s:i=j
     .subst s;exact O.irrefl _
     .exact a3d (e i (j-1) (by omega) (by omega)) q
    .exact e i j g (by omega)
   exact y9 (λr ⟨a,b,c,d⟩=>⟨by omega,by omega,c,λh=>d (by omega)⟩) (rn hp o (by omega) (by omega) l)
structure Fc(key:Nat->O.α)(n:Nat)(p:Pa)(m q:Nat):Prop where
 pm:Pm n p
 dn:Dn key p m
 le:m<=n
 qm:q+1<=m
 eq:∀k,m-(q+1)<=k->k<m->kk key p k=kk key p (m-1)
def Fc.alike(h:Fc key n p m q)(k:Nat):kk key (kas_rev p (m-(q+1)) m) k=kk key p k:=by
 have f:=h.le;have d:=h.pm.size;unfold kk;rw[a6 (by omega)];split
 .rename_i c;have b:=h.eq (m-(q+1)+m-1-k) (by omega) (by omega);have a:=h.eq k c.1 c.2;exact b.trans a.symm
 .rfl
theorem fW(g:0<n):∀{f m q:Nat}{p:Pa},m+f<=n->Fc key n p m q->VA (·<n) (ans key) (kas_desc f p m q) λr=>m<=r.2.1/\r.2.1<=m+f/\Fc key n r.1 r.2.1 r.2.2
 |0,m,q,p,_,h=>⟨O2 _,O2 _,h⟩
 |f+1,m,q,p,z,h=>by
  have B:=h.qm;refine⟨h.pm.lt g _,h.pm.lt g _,?_⟩;show VA _ _ (if O.blt (kk key p m) (kk key p (m-1))=true then _ else _) _;have l:∀{d:Pa},(∀k,kk key d k=kk key p k)->O.kle (kk key p m) (kk key p (m-1))->Dn key d (m+1):=λ{d} o t i j s A=>by
   rw[o,o];by_cases c:j=m
   .subst c;by_cases y:i=j
    .subst y;exact O.irrefl _
    .exact a3d t (h.dn i (j-1) (by omega) (by omega))
   .exact h.dn i j s (by omega)
  cases u:O.blt (kk key p m) (kk key p (m-1))with
  |true=>
   have t:=a3e u;have go:∀{d:Pa},Pm n d->(∀k,kk key d k=kk key p k)->VA (·<n) (ans key) (kas_desc f d (m+1) 0) λr=>m<=r.2.1/\r.2.1<=m+(f+1)/\Fc key n r.1 r.2.1 r.2.2:=λ{d} hp o=>
    y9 (λr ⟨a,b,c⟩=>⟨by omega,by omega,c⟩) (fW g (by omega) ⟨hp,l o t,by omega,by omega,λk x w=>by rw[show k=m+1-1 by omega]⟩)
   by_cases c:q>0
   .rw[if_pos c];exact go h.pm.rev h.alike
   .rw[if_neg c];exact go h.pm λ_=>rfl
  |false=>
   refine⟨h.pm.lt g _,h.pm.lt g _,?_⟩;show VA _ _ (if O.blt (kk key p (m-1)) (kk key p m)=true then _ else _) _;cases v:O.blt (kk key p (m-1)) (kk key p m)with
   |true=>exact⟨O2 _,by show m<=m+(f+1);omega,h⟩
   |false=>
    have e:=O.total _ _ u v;refine y9 (λr ⟨a,b,c⟩=>⟨by omega,by omega,c⟩) (fW g (by omega) ⟨h.pm,l (λ_=>rfl) v,by omega,by omega,λk x w=>?_⟩);by_cases c:k=m
    .rw[c];rfl
    .rw[show m+1-1=m by omega,e];exact h.eq k (by omega) (by omega)
abbrev Mr(key:Nat->O.α)(n:Nat):Nat×Array Nat->Prop:=λr=>Pm n r.2/\1<=r.1/\r.1<=n/\Up key r.2 r.1
def iD(l:0<n)(hp:Pm n p)(h:1<=m)(s:m<=n)(e:Dn key p m):VA (·<n) (ans key) (kas_tail3 m n p) (Mr key n):=by
 have o:=hp.size;have g:Up key (kas_rev p 0 m) m:=λi j d q=>by unfold kk;rw[a6 (by omega),a6 (by omega),if_pos ⟨by omega,by omega⟩,if_pos ⟨by omega,by omega⟩];exact e (0+m-1-j) (0+m-1-i) (by omega) (by omega)
 refine Zl (y9 (λr ⟨a,b,c,_⟩=>?_) (rn hp.rev l h (by omega) g));exact⟨hp.rev,by omega,by omega,c⟩
def Xk(e:0<n)(hp:Pm n p)(w:1<=m)(x:m+1<=n)(he:∀k,k<m->kk key p k=kk key p (m-1))(l:O.klt (kk key p m) (kk key p (m-1))):VA (·<n) (ans key) (kas_descPart m n p) (Mr key n):=by
 have hf:Fc key n p (m+1) 0:=⟨hp,λi j d g=>by
  by_cases c:j=m
  .subst c;by_cases o:i=j
   .subst o;exact O.irrefl _
   .rw[he i (by omega)];exact a3e l
  .rw[he i (by omega),he j (by omega)];exact O.irrefl _,by omega,by omega,λk u s=>by rw[show k=m+1-1 by omega]⟩
 refine Zl (y9 (λr ⟨a,b,c⟩=>?_) (fW e (by omega) hf));by_cases h:r.2.2>0
 .rw[if_pos h];exact iD e c.pm.rev (by omega) c.le λi j d g=>by rw[c.alike,c.alike];exact c.dn i j d g
 .rw[if_neg h];exact iD e c.pm (by omega) c.le c.dn
def xE(h:0<n)(hp:Pm n p):VA (·<n) (ans key) (kas_count n p) (Mr key n):=by
 have y:=hp.size;refine Zl (y9 (λm ⟨a,b,c,d⟩=>?_) (rn hp h (O2 _) (by omega) λi j w x=>by rw[show i=j by omega];exact O.irrefl _));by_cases s:(m==n)=true
 .rw[if_pos s];exact⟨hp,a,by omega,c⟩
 .rw[if_neg s];have g:m<n:=by have:m≠n:=λq=>s (by grind);omega
  have u:=d (by omega);by_cases t:m>1
  .rw[if_pos t];refine⟨hp.lt h _,hp.lt h _,?_⟩;show VA _ _ (if O.blt (kk key p 0) (kk key p (m-1))=true then _ else _) _;cases v:O.blt (kk key p 0) (kk key p (m-1))with
   |true=>exact⟨hp,a,by omega,c⟩
   |false=>
    have e:=O.total _ _ v (c 0 (m-1) (by omega) (by omega));have r:=λk o=>O.total _ _ (by rw[<- e];exact c 0 k (by omega) o) (c k (m-1) (by omega) (by omega));have l:∀k,kk key (kas_rev p 0 m) k=kk key p k:=λk=>by
     unfold kk;rw[a6 (by omega)];split
     .rename_i z;exact(r (0+m-1-k) (by omega)).trans (r k z.2).symm
     .rfl
    exact Xk h hp.rev a g (λk o=>by rw[l,l];exact r k o) (by grind)
  .rw[if_neg t];exact Xk h hp a g (λk o=>by rw[show k=m-1 by omega]) u
theorem a7{p:Pa}(hp:Pm n p)(d:0<n){k:Nat}(a:Up key p k):∀{f l r:Nat},l<=r->r<=k->r-l<=f->(∀i,i<l->O.kle (kk key p i) (kk key p k))->(∀i,r<=i->i<k->O.klt (kk key p k) (kk key p i))->
  VA (·<n) (ans key) (kas_place p k f l r) λl=>l<=k/\(∀i,i<l->O.kle (kk key p i) (kk key p k))/\∀i,l<=i->i<k->O.klt (kk key p k) (kk key p i)
 |0,l,r,o,rk,hf,b,e=>⟨by omega,b,λi h=>e i (by omega)⟩
 |f+1,l,r,o,rk,hf,b,e=>by
  show VA _ _ (if l ≥ r then KasT.ret l else _) _;by_cases c:l ≥ r
  .rw[if_pos c];exact⟨by omega,b,λi h=>e i (by omega)⟩
  .rw[if_neg c];refine⟨hp.lt d _,hp.lt d _,?_⟩;show VA _ _ (if O.blt (kk key p k) (kk key p ((l+r) / 2))=true then _ else _) _;cases g:O.blt (kk key p k) (kk key p ((l+r) / 2))with
   |true=>exact a7 hp d a (by omega) (by omega) (by omega) b λi j m=>KeyOrd.klt_of_klt_of_kle g (a _ _ j m)
   |false=>exact a7 hp d a (by omega) rk (by omega) (λi h=>a3d (a i ((l+r) / 2) (by omega) (by omega)) g) e
theorem BA(q:0<n):∀{f k:Nat}{p:Pa},Pm n p->k+f<=n->Up key p k->VA (·<n) (ans key) (kas_bin f p k) λh=>Pm n h/\Up key h (k+f)
 |0,k,p,hp,_,d=>⟨hp,d⟩
 |f+1,k,p,hp,w,d=>by
  have v:=hp.size;refine Zl (y9 (λl ⟨a,b,c⟩=>?_) (a7 hp q d (a0c _) (O2 _) (by omega) (λi t=>absurd t (Nat.not_lt_zero _)) λi o g=>absurd g (by omega)));refine y9 (λh ⟨x,y⟩=>⟨x,by rw[show k+(f+1)=k+1+f by omega];exact y⟩) (BA q hp.bub (by omega) λi j m u=>?_);unfold kk;rw[UW (by omega) a,UW (by omega) a];by_cases o:i=l
  .rw[if_pos o];by_cases e:j=l
   .rw[if_pos e];exact O.irrefl _
   .rw[if_neg e,if_pos ⟨by omega,by omega⟩];exact a3e (c (j-1) (by omega) (by omega))
  .rw[if_neg o];by_cases e:j=l
   .rw[if_pos e,if_neg (by omega)];exact b i (by omega)
   .rw[if_neg e];by_cases g:l<i/\i<=k
    .rw[if_pos g,if_pos ⟨by omega,by omega⟩];exact d (i-1) (j-1) (by omega) (by omega)
    .rw[if_neg g];by_cases s:l<j/\j<=k
     .rw[if_pos s];exact d i (j-1) (by omega) (by omega)
     .rw[if_neg s];exact d i j m (by omega)
def rA(e:0<n):VA (·<n) (ans key) (kas_sort n) λp=>Pm n p/\Up key p n:=by
 refine Zl (y9 (λr ⟨a,b,c,d⟩=>?_) (xE e ⟨List.Perm.refl _,by simp⟩));by_cases h:r.1<n
 .rw[if_pos h,show max r.1 1=r.1 by omega];refine y9 (λp ⟨x,y⟩=>⟨x,by rw[show n=r.1+(n-r.1) by omega];exact y⟩) (BA e a (by omega) d)
 .rw[if_neg h];exact⟨a,by rw[show n=r.1 by omega];exact d⟩
end
end L2
namespace L2
open PySem PySem.Spec PyProof.Rows PySem.W
section
variable {X:Cx}{pins:Oh}{σ:St}{H:Hp}{s:Om}{h':Heap}
def Inv.Ms(I:Inv X pins σ H s)(k:∀b o,b≠it->s.heap.get? b=some o->h'.get? b=some o)(j:H it=none)(h:it≠X.env.locals)
  (w:it∈X.ex\/X.s₀.heap.objs.size<=it) (B:∀x c,X.env.cells.lookup x=some c->c≠it) (l:∀p∈X.pn++pins,p.1≠it) (new:yR X.prog X.w (upd H it o) h' it o) (D:X.m<=t':=by ac_rfl):Inv X pins σ (upd H it o) { s with heap:=h',toks:=t' }:=by
 have a:∀b u,H b=some u->b≠it:=λb u e z=>by rw[z,j]at e;cases e
 have f:∀b,b∉[it]->b≠it:=λb d z=>d (by simp[z]);refine I.step (λb g=>?_) (λb o _ _ d e _=>k b o (f b d) e) (λb o _ _ d e _=>⟨o.slots,k b o (f b d) e⟩) (λb _ d _ n=>by rw[zj (f b d)];exact n)
  (λb o d e=>⟨o,k b o (f b d) e⟩) (λb y e=>by rw[zj (a b _ e)];exact e) (λb _ _ e=>by rw[zj (a b _ e)];exact e) (λb E e=>⟨#[],by rw[zj (a b _ e),e];simp⟩) (λm i=>?_) (λb u e=>?_) I.bare
 .have e:=by simpa using g
  subst e;exact⟨w,h,B,l⟩
 .obtain⟨o,t,A,C,r⟩:=i;exact⟨o,t,A,k _ o (Ne.symm h) C,r⟩
 .by_cases g:b=it
  .subst g;rw[zh]at e;cases e;exact new
  .rw[zj g]at e;refine(I.hok b u e).m6 (λc v d q=>k c v ?_ q) (λc q=>by rw[zj (a c _ q)];exact q) λc y q=>by rw[zj (a c _ q)];exact q
   rcases d with z|z
   .rw[z];exact a b u e
   .exact a c _ z
structure xF(X:Cx)(pins:Oh)(a:Addr):Prop where
 loc:a≠X.env.locals
 fs:a∉X.fs
 ex:a∈X.ex\/X.s₀.heap.objs.size<=a
 cel:∀x c,X.env.cells.lookup x=some c->c≠a
 pin:∀p∈X.pn++pins,p.1≠a
def Inv.Nd{H':Hp}(I:Inv X pins σ H s)(a:s.heap.objs.size<=b):xF X pins b:=by have:=I.E5 (H':=λ_=>none) a rfl;exact⟨this.2.1,this.2.2.1,this.2.2.2.1,this.2.2.2.2.1,this.2.2.2.2.2⟩
def Inv.IZ(I:Inv X pins σ H s)(w:xF X pins a)(d:H a=none)(c:s.heap.get? a=some o)(b:∀v,o.data≠.cell v):Inv X (pins++[(a,o)]) σ H s:=
 I.K4 λp hp=>(a0q.mp hp).elim (λz=>I.pin p (R4 _ z)) λz=>by rw[T6.mp z];exact⟨c,d,w.loc,w.fs,b⟩
def Inv.at1(I:Inv X (pins++[(a,o)]) σ H s):s.heap.get? a=some o/\H a=none:=by have:=I.pin (a,o) (R4 _ (R4 _ O7));exact⟨this.1,this.2.1⟩
end
def rB(sp:Sp):List V->List V->Hp->(List V->Hp->Prop)->Prop
 |[],a,H,Q=>Q a H
 |v::c,a,H,Q=>sp [v] H (λz b=>rB sp c (a++[z]) b Q) (λ_ _ _=>False)
section
def Vals.getD(r:Vals ys its)(i:Nat):RelV (ys.getD i .non) (its.getD i .none):=by
 induction r generalizing i with
 |nil=>exact rfl
 |cons r b a=>
  cases i with
  |zero=>exact r
  |succ i=>exact a i
theorem a8{ys:Ow}{its:Oo}(r:Vals ys its):∀q:List Nat,Vals (q.map λi=>ys.getD i .non) (q.map λi=>its.getD i .none)
 |[]=>.nil
 |i::q=>.cons (r.getD i) (a8 r q)
end
section
variable {X:Cx}
def dw{pins:Oh}{σ:St}{A:OG}{E:Of}{c D:Addr}{e d:Nat}{H:Hp}{s:Om}{us outU:Oo}{a:Ow}{st:SortSt}{Q:VK}{P:PySem.Fin->Shared->Prop}
  (i:xF X pins D) (h:xF X (pins++[(D,seqObj "list" #[] d)]) c) (y:us.length<64) (l:outU.length<64) (q:Vals a outU) (g:(arrOf st).map (·.2)=List.toArray outU) (hf:failedOf st=none)
  (I:Inv X (pins++[(D,seqObj "list" #[] d)]++[(c,seqObj "list" us.toArray e)]) σ H s) (x:Q (.ref D) (upd H D (.lst a))) (hP:∀n,EP X pins σ Q (.ref D) n->P (.done (.ret .none)) n):wpAny (Px X) A (ksk_tail D false d (.ref c) st) P E s:=by
 have p:=I.at1;have t:=I.jL;have w:c≠D:=λz=>h.pin (D,seqObj "list" #[] d) (R4 _ (R4 _ O7)) z.symm;have r:Inv X (pins++[(D,seqObj "list" #[] d)]) σ H { s with heap:=s.heap.update c (Obj.mapSeq λ_=>(#[]:Array Value)),toks:=s.toks }:=t.turned (λb o m l=>(T9 s.heap _ (Ne.symm m)).trans l) p.2 h.loc h.ex h.cel h.pin;have j:=r.at1;unfold ksk_tail
 try dsimp only
 rw[g];refine f8 (a2V p.1 rfl ?_ (by rw[P4,a0E];omega) (a0c _));refine f8 (wpAny_letGo ?_);refine f8 (seqEpoch_at j.1 rfl ?_);refine f8 (a2V j.1 rfl ?_ (a0c _) (by simp only[Bool.false_eq_true,if_false,List.size_toArray];rw[a0E];omega));rw[hf];simp only[bne_self_eq_false,if_false];refine v4 (hP _ ?_);have u:=get?_update_seq j.1 λ_=>List.toArray outU;have B:=q.length;have v:=Inv.Ms (s:={ s with heap:=s.heap.update c (Obj.mapSeq λ_=>(#[]:Array Value)),toks:=s.toks }) r.jL (λb o m l=>(T9 _ _ (Ne.symm m)).trans l) j.2 i.loc i.ex i.cel i.pin (o:=.lst a) ⟨by rw[a0E];omega,outU,_,q,u⟩;exact⟨.ref D,_,v,rfl,x⟩
end
def zX.rC{W:RC}{M:Ol}{H:Hp}{xs:OD}{vs:Ow}(h:zX W M H xs vs):∀q:List Nat,zX W M H (q.map λi=>xs.getD i .n) (q.map λi=>vs.getD i .non)
 |[]=>rfl
 |i::q=>by
  refine⟨_,_,rfl,?_,h.rC q⟩;simp only[List.getD_eq_getElem?_getD];cases a:xs[i]? with
  |some x=>obtain⟨v,e,r⟩:=h.get a;rw[e];exact r
  |none=>
   cases b:vs[i]? with
   |none=>exact rfl
   |some v=>obtain⟨x,e,_⟩:=h.Bc b;rw[a]at e;cases e
def Dz{K:OL}{H:Hp}{P l:Addr}{d:OJ}{o:HO}{ys:Ow}(h:SqL K H l ys)(hP:H P=some (.tbl d)):SqL K (upd H P o) l ys:=by
 have b:∀u,H l=some u->(∀a,u≠.tbl a)->l≠P:=λu e n q=>by rw[q,hP]at e;cases e;exact n _ rfl
 rcases h with h|h
 .rcases h with h|⟨c,h⟩
  .exact .inl (.inl (by rw[zj (b _ h λa z=>by cases z)];exact h))
  .exact .inl (.inr ⟨c,by rw[zj (b _ h λa z=>by cases z)];exact h⟩)
 .exact .inr h
def DA(P:Addr)(H:Hp):Prop:=H P=some (.tbl #[])/\∀b,b=P\/H b=none\/∃o a,H b=some (.frz o (.lst a))
structure uk(base:Heap)(mg:Oi)(c P:Addr):Prop where
 hd:CodeHd base c P
 bl:base.BuiltinsAt mg P
 ne:mainGlobals≠P
def rD{P:Ox}{w:OE}{K:OL}{mg mb:Oi}{CX:CXT}{k:Nat}{fa a c g:Addr}{fd:OH}{x:Str}{sp:Sp}{f:Om}{vs:Oo}{ns:OC}
  (KX:K.In f.heap) (A:f.heap.Ns mainGlobals mg) (p:f.heap.Ns builtinsNs mb) (hbb:∀x:Str,x≠"__name__"->mb x=bootBuiltins x) (hlim:f.heap.NoLimit) (hg:f.gens = #[])
  (N:f.heap.get? a=some { cls:=.type "list",data:=.seq vs.toArray }) (hi:IntsAre vs ns) (hl:ns.length<=sizeLine) (hr:j7 k callerA)
  (hC:CodeHd f.heap c g) (y:f.heap.get? g=some (tabObj #[])) (hnt:noTabs K=true) (hbm:∃bm ob,mg "__builtins__"=some (.ref bm)/\bm≠builtinsNs/\f.heap.get? bm=some ob/\ob.cls=.type "module"/\ob.dict=some builtinsNs/\ob.data=.plain)
  (F:∀l:Heap,K.In l->l.Ns mainGlobals mg->uk l mg c g->qz P w K mg l CX k fa fd [x] sp) (M:∀(s:Om)(u:Value),BindsTo s fd ⟨[u],[]⟩ [(x,u)])
  (hsp:∀H:Hp,DA g H->SqL K H a (ns.map V.int)->sp [.ref a] H (λv _=>v=.bl true) λ_ _ _=>False)
  (hCX:∀H e t,CX [] H f (λ_ _ _=>False) e t->False):
  codeAny (model P w) callerA (.call (.ref fa) ⟨[.ref a],[]⟩) (λr t=>r=.ok (.ret (.bool true))/\OldK f.heap t.heap/\t.os=f.os/\AllBare t.gens) f:=by
 have rv:=cI hi;have R:=hi.length;have aP:a≠g:=λq=>by rw[q,y]at N;cases N
 have gP:mainGlobals≠g:=λq=>by obtain⟨o,C,D,e,hd,_⟩:=A;rw[q,y]at e;cases e;cases hd
 have G:∀H:Hp,DA g H->SqL K H a (ns.map V.int)->HOk P w H f.heap->(∀b,H b≠none->b=a\/b=g)->(H a≠none->K.lookup a=none)->
   codeAny (model P w) callerA (.call (.ref fa) ⟨[.ref a],[]⟩) (λr t=>r=.ok (.ret (.bool true))/\OldK f.heap t.heap/\t.os=f.os/\AllBare t.gens) f:=by
  intro H hO hS U hA hK;have j:∀{b:Addr}{o:Obj},f.heap.get? b=some o->H b=none->(t_ f.heap H).get? b=some o:=λe n=>ur e n;have X:∀{b:Addr}{o:Obj},f.heap.get? b=some o->o.cls≠.type "list"->o.cls≠.none->H b=none:=λ{b o} e d1 d2=>by
   cases q:H b with
   |none=>rfl
   |some u=>
    rcases hA b (by rw[q];simp)with e'|e'
    .subst e';rw[N]at e;cases e;exact absurd rfl d1
    .subst e';rw[y]at e;cases e;exact absurd rfl d2
  have noA:∀{b:Addr}{o:Obj}{C:Array DictEntry}{D:Nat},f.heap.get? b=some o->o.data=.dict C D->H b=none:=λ{b o C D} e d=>by
   cases q:H b with
   |none=>rfl
   |some u=>
    rcases hA b (by rw[q];simp)with e'|e'
    .subst e';rw[N]at e;cases e;have d':=d;cases d'
    .subst e';rw[y]at e;cases e;have d':=d;cases d'
  have B:∀{b:Addr}{m:Oi},f.heap.Ns b m->(t_ f.heap H).Ns b m:=λ{b m} ⟨o,C,D,e,d,r⟩=>⟨o,C,D,j e (noA e d),d,r⟩;have Z:=λb o e=>j (KX b o e) (by
   cases q:H b with
   |none=>rfl
   |some u=>
    rcases hA b (by rw[q];simp)with e'|e'
    .subst e';rw[hK (by rw[q];simp)]at e;cases e
    .subst e';have h1:=KX _ _ e;rw[y]at h1;cases h1;have h2:=a0d.mp hnt _ (mem_of_lookupK e);exact absurd h2 P0)
  have hM:Mod K mg (t_ f.heap H):=⟨Z,B A,⟨mb,B p,hbb⟩,let⟨mc,h1,h2⟩:=hlim;⟨mc,B h1,h2⟩⟩;have tb:uk (t_ f.heap H) mg c g:=by
   refine⟨?_,?_,gP⟩
   .obtain⟨o,vs,T,tf,O,tg,inF,W,tt,e,e2,r⟩:=hC;exact⟨o,vs,T,tf,O,tg,inF,W,tt,j e (X e (by grind) (by grind)),e2,r⟩
   .obtain⟨bm,ob,b1,b2,Q,b4,b5,b6⟩:=hbm;refine⟨bm,ob,b1,b2,λq=>?_,λq=>?_,j Q (X Q (by grind) (by grind)),b4,b5,b6⟩
    .obtain⟨o,C,D,e,hd,_⟩:=A;rw[q,e]at Q;cases Q;rw[hd]at b6;cases b6
    .rw[q,y]at Q;cases Q;cases b4
  have e0:ub P w K mg (t_ f.heap H) callerA [] f H:=⟨rfl,hM,λb o e=>Cj e,a28 (nB _ _),trivial,λb p=>absurd (show b∈([]:List Addr)from p) (by simp),U,.of_eq hg⟩;refine a03 ((F _ Z (B A) tb).run callerA [] f H ⟨[.ref a],[]⟩ [.ref a] [.ref a] _ _ hr e0 (M f (.ref a)) (.cons rfl .nil) (hsp H hO hS)) λr t h=>?_;cases r with
  |error e=>exact(hCX H e t h).elim
  |ok fl=>
   cases fl with
   |next=>exact False.elim h
   |brk=>exact False.elim h
   |cont=>exact False.elim h
   |ret u=>
    obtain⟨v,H',os,S,un,E,r',q⟩:=h;have q':=q;subst q';obtain rfl:u=Value.bool true:=r';have keep:=λb o hne e=>by
     cases q:H b with
     |none=>exact un.keep b o e q (by intro z;exact absurd (show b∈([]:List Addr)from z) (by simp)) (by simp)
     |some u=>
      rcases hO.2 b with z|z|⟨ob,xs,z⟩
      .exact absurd z hne
      .rw[q]at z;cases z
      .have z2:=un.nA b ob _ z;obtain⟨e1,_⟩:=U b _ z;obtain⟨e2,_⟩:=E b _ z2;rw[e]at e1;cases e1;exact e2
    obtain⟨I,hm⟩:=un.t4 g _ hO.1;have Y:=E g _ hm;refine⟨rfl,⟨λb o e=>?_,λb o e=>?_⟩,os,S⟩
    .by_cases i:b=g
     .subst i;rw[y]at e;cases e;exact .inr (.inl ⟨(hC.tab y).isCodeTable,rfl,#[],I,rfl,Y⟩)
     .exact .inl (keep b o i e)
    .by_cases i:b=g
     .subst i;exact⟨_,Y⟩
     .exact⟨o,keep b o i e⟩
 have hTo:=y;cases hk:K.lookup a with
 |some o=>
  have e:=KX a o hk;rw[N]at e;cases e;refine G (λb=>if b=g then some (.tbl #[])else none) ⟨if_pos rfl,λb=>?_⟩ (.inr ⟨_,vs.toArray,_,hk,rfl,rfl,rfl,by rw[P4,R];exact hl,by simpa using rv⟩) (λb u z=>?_) (λb z=>?_) λz=>absurd (if_neg aP) z
  .by_cases i:b=g
   .exact .inl i
   .exact .inr (.inl (if_neg i))
  .by_cases i:b=g
   .have J:=(if_pos i).symm.trans z;cases J;subst i;exact y
   .have J:=(if_neg i).symm.trans z;cases J
  .by_cases i:b=g
   .exact .inr i
   .exact absurd (if_neg i) z
 |none=>
  refine G (λb=>if b=a then some (.frz { cls:=.type "list",data:=.seq vs.toArray } (.lst (ns.map V.int)))else if b=g then some (.tbl #[])else none) ⟨(if_neg (Ne.symm aP)).trans (if_pos rfl),λb=>?_⟩ (.inl (.inr ⟨{ cls:=.type "list",data:=.seq vs.toArray },if_pos rfl⟩)) (λb u z=>?_) (λb z=>?_) λ_=>hk
  .by_cases p:b=a
   .exact .inr (.inr ⟨_,_,if_pos p⟩)
   .by_cases i:b=g
    .exact .inl i
    .exact .inr (.inl ((if_neg p).trans (if_neg i)))
  .by_cases p:b=a
   .have J:=(if_pos p).symm.trans z;cases J;subst p;exact⟨N,by rw[u8];exact hl,vs,_,rv,N⟩
   .have J:=(if_neg p).symm.trans z;by_cases i:b=g
    .have L:=(if_pos i).symm.trans J;cases L;subst i;exact y
    .have L:=(if_neg i).symm.trans J;cases L
  .by_cases p:b=a
   .exact .inl p
   .by_cases i:b=g
    .exact .inr i
    .exact absurd ((if_neg p).trans (if_neg i)) z
def xG{l:OpenLaw}{n k:Nat}{q:Ox}{j:Oj}{XP:(Str->Option Value)->Heap->Prop}{L:World->Heap->Prop}{d d':DefRec}{K:Params->Frag}{CX:World->CXT}{sp:World->Addr->Sp}{x y:Str}
  (U:l.most=some n) (C:n<=sizeLine) (z:d.params.defaults=[]) (X:j7 k callerA)
  (Q:∀(w:OE)(h:Heap),L w h->(K w.params).In h) (Z:(recsOf q).find? (λe=>e.name==y)=some d')
  (F:∀(w:OE)(m:Oi)(fa:Addr)(h:Heap),(K w.params).In h->h.Ns mainGlobals m->m d.name=some (.ref fa)->
   ∃(I:OH)(c P:Addr),tabIn (K w.params) y=some (c,P)/\noTabs (K w.params)=true/\(∀(s:Om)(u:Value),BindsTo s I ⟨[u],[]⟩ [(x,u)])/\
    ∀b:Heap,(K w.params).In b->b.Ns mainGlobals m->uk b m c P->qz l.prog w (K w.params) m b (CX w) k fa I [x] (sp w P))
  (hsp:∀(w:OE)(P:Addr)(H:Hp)(a:Addr)(t:OC),t.length<=n->DA P H->SqL (K w.params) H a (t.map V.int)->sp w P [.ref a] H (λv _=>v=.bl true) λ_ _ _=>False)
  (E:∀(w:OE)(H:Hp)(s:Om)(e:Value)(A:Om),CX w [] H s (λ_ _ _=>False) e A->False):
  WalkO q j XP L l.row.toRowW d [] (λf N=>PySem.call f N):=by
 refine Att.fi U z λw M r m mb fa o pm cd doc a N t G Y ho hd R J p i g S=>?_;have D:=Q w _ Y;obtain⟨I,c,P,W,B,hb,hF⟩:=F w m fa _ D G.T.g J;obtain⟨T,hT⟩:=tab_of G.T D Z W;exact rD D G.T.g G.T.b G.T.builtins G.T.nolimit S p i (P8 g C) X T hT B G.T.bmain hF hb (λH O hS=>hsp w P H a t g O hS) λH e A=>E w H r e A
def G7{K:OL}{x:Str}{f c P:Addr}{e:OH}{j a:Value}{od d:OP}{sl b:OI}{vs:OJ}(i:nsIn K mainGlobals x=some (some (.ref f)))(m:K.lookup f=some ⟨j,od,.func e,sl⟩)(g:e.code=.ref c)(l:K.lookup c=some ⟨a,d,.fields vs,b⟩)(h:vs[11]?=some (.ref P)):tabIn K x=some (c,P):=by unfold tabIn;rw[i];dsimp only;rw[m];dsimp only;rw[g];dsimp only;rw[l];dsimp only;rw[h]
end L2
namespace L2
open PySem PySem.Spec PyProof.Rows PySem.W
theorem dy{W:RC}{M:Ol}{H:Hp}:∀{a:Oz}{b:Ov},y8 W M H a b->zX W M H (a.map (·.2)) (b.map (·.2))
 |[],_,h=>by cases h;exact rfl
 |f::r,_,⟨v,q,e,c,d⟩=>by subst e;exact⟨v,_,rfl,c,dy d⟩
section
variable {prog:Ox}{w:OE}{A:OG}{E:Of}{s:Om}
def G8{K:Type}[DecidableEq K]{knd:KeyKind prog w K}{Z:String}{a b:Addr}{c f:List (K×Value)}{Q:Pp}(na:(a==sysModules)=false)(S:(b==sysModules)=false)(da:s.heap.DictOf knd a c)(X:s.heap.DictOf knd b f)(U:c.length=f.length)
  (g:∀k v,(k,v)∈c->∃y,valueAt f k=some y/\Xf prog w A s v y true) (h:Q true s):wpAny (model prog w) A (Builtin.Dict.samePairs Z a b) Q E s:=by
 obtain⟨o1,d,p1,n,_,r,R,F,_⟩:=da;obtain⟨o2,l,p2,m,_,o,D,C,_⟩:=X;have G:d.size=c.length:=by rw[<- F.length,a0S]
 have I:l.size=f.length:=by rw[<- C.length,a0S]
 have O:∀k,findBy knd.is l k=valueAt f k:=λk=>by rw[<- C.find k];cases l;simp[findBy]
 unfold Builtin.Dict.samePairs Builtin.Dict.showsAll;rw[na,S];simp only[if_false];refine f8 (v4 (f8 (v4 (f8 (a1w n r (f8 (a1w m o ?_)))))));rw[if_neg (by rw[G,I,U];simp)];refine f8 (a3B n r (f8 ?_));rw[a11];simp only[Std.Legacy.Range.size,Nat.add_sub_cancel,Nat.div_one];refine a1D _ (λt q z=>z=s/\q=(none,())/\∃i,i<=d.size/\t=List.range' i (d.size-i)) _ ?_ ?_ _ _ ⟨rfl,rfl,0,a0c _,by rw[a4p]⟩
 .rintro x t q z ⟨rfl,rfl,i,Y,p⟩
  have lt:i<d.size:=Nat.lt_of_le_of_ne Y λe=>by rw[e,a2C]at p;cases p
  rw[show d.size-i=d.size-(i+1)+1 by omega,a3f]at p;obtain⟨rfl,rfl⟩:=a1H p;refine f8 (a1w n r ?_);rw[a09 lt];have P:x<c.length:=G▸lt;have B:(c[x].1,c[x].2)∈c:=a1g P;obtain⟨N,W⟩:=F.get? (i:=x) (e:=d[x]) (v:=c[x].2) (by rw[a1Q,a09 lt]) (O3 P);obtain⟨y,L,J⟩:=g _ _ B;obtain⟨k',T,M⟩:=R d[x] (Array.getElem_mem lt);rw[knd.inj _ _ _ T N]at M;show wpAny _ _ (holding [d[x].key,d[x].val] _ >>= _) _ _ _;rw[M];refine f8 (W1 (f8 (wpAny_dictFind_of N m o D ?_)));cases u:l.findIdx? λe=>knd.is c[x].1 e.key with
  |none=>
   have:valueAt f c[x].1=none:=by rw[<- O,findBy_of_findIdx?,u]
   rw[L]at this;cases this
  |some j=>
   obtain⟨H,_⟩:=Array.findIdx?_eq_some_iff_getElem.mp u;have:valueAt f c[x].1=some l[j].val:=by rw[<- O,findBy_of_findIdx?,u];simp[Array.getElem?_eq_getElem H]
   rw[L]at this;cases this;refine f8 (a1w m o ?_);rw[a09 H];rw[<- W]at J;refine W1 (J _ _ ?_);refine f8 (a3B n r ?_);rw[if_neg (by simp)];exact v4 ⟨rfl,rfl,x+1,lt,rfl⟩
 .rintro q z ⟨rfl,rfl,_⟩
  exact v4 h
def xH{K:Type}[DecidableEq K]{knd:KeyKind prog w K}{a b:Addr}{f g:List (K×Value)}(na:(a==sysModules)=false)(l:(b==sysModules)=false)(d:s.heap.DictOf knd a f)(e:s.heap.DictOf knd b g)(i:f.length=g.length)(j:A.units<cLine)
  (c:∀k v,(k,v)∈f->∃y,valueAt g k=some y/\Xf prog w A.in1 s v y true):Bt prog w A s (.ref a) (.ref b) true/\Dh prog w A s (.ref a) (.ref b) false:=by
 constructor
 .intro E Q h;refine a0x d.typeIs e.typeIs a37 (a1T a37 d.typeIs PySem.F.entry_dict_eq ?_ (PySem.F.args_dict_eq_2 _ _)) j;show wpAny _ A.in1 (Builtin.Dict.dictSlotArgs "__eq__" ⟨[.ref a,.ref b],[]⟩ >>= _) _ E s;refine f8 (f8 (a2u d.typeIs ?_));refine v4 (f8 (a07 e.typeIs a3S ?_));simp only[Bool.not_true,if_false];exact f8 (v4 (f8 (v4 (f8 (G8 na l d e i c (v4 ⟨_,rfl,(λx=>nomatch x),h⟩))))))
 .intro E Q h;refine a0x d.typeIs e.typeIs a38 (a1T a38 d.typeIs PySem.F.entry_dict_ne ?_ (PySem.F.args_dict_ne_2 _ _)) j;show wpAny _ A.in1 (Builtin.Dict.dictSlotArgs "__ne__" ⟨[.ref a,.ref b],[]⟩ >>= _) _ E s;refine f8 (f8 (a2u d.typeIs ?_));refine v4 (f8 (a07 e.typeIs a3S ?_));simp only[Bool.not_true,if_false];exact f8 (v4 (f8 (v4 (f8 (G8 na l d e i c (v4 ⟨_,rfl,(λx=>nomatch x),h⟩))))))
def xI(l b:Addr)(xs ys:OJ)(n m:Nat)(d1 d2:OP)(z1 z2:OI)(hsz:xs.size=ys.size):
  MeetsIn prog w (Builtin.«tuple.__eq__» ⟨[.ref l,.ref b],[]⟩) (λA R s=>s.heap.get? l=some { cls:=.type "tuple",dict:=d1,data:=.seq xs n,slots:=z1 }/\s.heap.get? b=some { cls:=.type "tuple",dict:=d2,data:=.seq ys m,slots:=z2 }/\
   (∀j (h1:j<xs.size) (h2:j<ys.size),Xf prog w A.in1 s xs[j] ys[j] true)/\R (.ok (.ret (.bool true))) s):=.of_wp λA R s h=>by
 obtain⟨hp,g,d,tk,os⟩:=s;obtain⟨h1,h2,he,h⟩:=h;have f2:=a3g;have hz:(xs.toList.zip ys.toList).length=xs.size:=by simp[hsz]
 wp_walk using P6 h1,P6 h2,a1D _ (λt q z=>q.1=none/\z=⟨hp,g,d,tk,os⟩/\∃i,t=(xs.toList.zip ys.toList).drop i) _
 case turn=>
  rintro⟨x,y⟩ t q z ⟨hq,rfl,i,ht⟩
  have lt:i<(xs.toList.zip ys.toList).length:=Nat.lt_of_not_le λz=>by rw[a1M z]at ht;cases ht
  rw[a0G lt]at ht;obtain⟨e,rfl⟩:=a1H ht;have a1:i<xs.size:=hz▸lt;have a2:i<ys.size:=hsz▸a1;have ex:x=xs[i]:=by have:=R9 Prod.fst e;simpa using this
  have ey:y=ys[i]:=by have:=R9 Prod.snd e;simpa using this
  subst ex ey;refine f8 (he i a1 a2 _ _ ?_)
  wp_walk
  exact⟨rfl,rfl,i+1,rfl⟩
 case fin=>
  rintro⟨b1,b2⟩ z ⟨hq,rfl,_⟩
  simp only at hq;subst hq
  wp_walk
  exact⟨_,rfl,by simpa[Builtin.Tuple.tupleCompareSizes,hsz]using h⟩
 case h=>exact⟨rfl,rfl,0,rfl⟩
def xJ(l b:Addr)(xs ys:OJ)(n m:Nat)(d1 d2:OP)(z1 z2:OI)(hsz:xs.size=ys.size):
  MeetsIn prog w (Builtin.«tuple.__ne__» ⟨[.ref l,.ref b],[]⟩) (λA R s=>s.heap.get? l=some { cls:=.type "tuple",dict:=d1,data:=.seq xs n,slots:=z1 }/\s.heap.get? b=some { cls:=.type "tuple",dict:=d2,data:=.seq ys m,slots:=z2 }/\
   (∀j (h1:j<xs.size) (h2:j<ys.size),Xf prog w A.in1 s xs[j] ys[j] true)/\R (.ok (.ret (.bool false))) s):=.of_wp λA R s h=>by
 obtain⟨hp,g,d,tk,os⟩:=s;obtain⟨h1,h2,he,h⟩:=h;have f2:=a3g;have hz:(xs.toList.zip ys.toList).length=xs.size:=by simp[hsz]
 wp_walk using P6 h1,P6 h2,a1D _ (λt q z=>q.1=none/\z=⟨hp,g,d,tk,os⟩/\∃i,t=(xs.toList.zip ys.toList).drop i) _
 case turn=>
  rintro⟨x,y⟩ t q z ⟨hq,rfl,i,ht⟩
  have lt:i<(xs.toList.zip ys.toList).length:=Nat.lt_of_not_le λz=>by rw[a1M z]at ht;cases ht
  rw[a0G lt]at ht;obtain⟨e,rfl⟩:=a1H ht;have a1:i<xs.size:=hz▸lt;have a2:i<ys.size:=hsz▸a1;have ex:x=xs[i]:=by have:=R9 Prod.fst e;simpa using this
  have ey:y=ys[i]:=by have:=R9 Prod.snd e;simpa using this
  subst ex ey;refine f8 (he i a1 a2 _ _ ?_)
  wp_walk
  exact⟨rfl,rfl,i+1,rfl⟩
 case fin=>
  rintro⟨b1,b2⟩ z ⟨hq,rfl,_⟩
  simp only at hq;subst hq
  wp_walk
  exact⟨_,rfl,by simpa[Builtin.Tuple.tupleCompareSizes,hsz]using h⟩
 case h=>exact⟨rfl,rfl,0,rfl⟩
def xK(t:s.heap.IsTuple l xs)(u:s.heap.IsTuple b ys)(hsz:xs.size=ys.size)(i:A.units<cLine)(he:∀j (y:j<xs.size) (D:j<ys.size),Xf prog w A.in1 s xs[j] ys[j] true):Bt prog w A s (.ref l) (.ref b) true/\Dh prog w A s (.ref l) (.ref b) false:=by
 obtain⟨⟨C,q,B,c⟩,a,g,n,p⟩:=id t;obtain⟨⟨z,o,v,d⟩,e,f,m,r⟩:=id u;subst g p f r;exact⟨λE Q h=>a0x ⟨_,a,rfl⟩ ⟨_,e,rfl⟩ a3T (a1A a3T ⟨_,a,rfl⟩ PySem.F.entry_tuple_eq (PySem.F.args_tuple_eq_2 _ _) (xI l b xs ys n m q o c d hsz) ⟨a,e,he,show Value.bool _≠Value.notImplemented/\Q (.bool _) s from⟨(λx=>nomatch x),h⟩⟩) i,
  λE Q h=>a0x ⟨_,a,rfl⟩ ⟨_,e,rfl⟩ a3U (a1A a3U ⟨_,a,rfl⟩ PySem.F.entry_tuple_ne (PySem.F.args_tuple_ne_2 _ _) (xJ l b xs ys n m q o c d hsz) ⟨a,e,he,show Value.bool _≠Value.notImplemented/\Q (.bool _) s from⟨(λx=>nomatch x),h⟩⟩) i⟩
end
def al2(f:Pg):List PV->List PV->Bool
 |[],[]=>true
 |x::b,y::a=>f x y&&al2 f b a
 |_,_=>false
def alD(f:Pg)(b:Oz):List (Key×PV)->Bool
 |[]=>true
 |a::r=>(match qB b a.1 with|some y=>f a.2 y|none=>false)&&alD f b r
def fX:Nat->PV->PV->Bool
 |n+1,.l c,.l d=>al2 (fX n) c d
 |n+1,.t c,.t d=>al2 (fX n) c d
 |n+1,.d a,.d b=>decide (a.length=b.length)&&alD (fX n) b a
 |n,x,y=>Wa n x y==some true
theorem BB{f:Pg}:∀{b d:OD},al2 f b d=true->b.length=d.length/\∀(j:Nat) x y,b[j]?=some x->d[j]?=some y->f x y=true
 |[],[],_=>⟨rfl,λj x y h=>by simp at h⟩
 |[],_::_,h=>by cases h
 |_::_,[],h=>by cases h
 |x::b,y::d,h=>by
  have h:(f x y&&al2 f b d)=true:=h;rw[S8]at h;obtain⟨i,l⟩:=BB h.2;refine⟨by rw[O1,O1,i],λj a c e g=>?_⟩;cases j with
  |zero=>cases e;cases g;exact h.1
  |succ j=>exact l j a c e g
section
variable {X:Cx}{pins:Oh}{σ:St}{H:Hp}{s:Om}{W:RC}
theorem iE(I:Inv X pins σ H s){f:Pg}{A:OG}{b:Oz}{w:Ov}{t:OZ}{M n:Ol}(r:y8 W n H b w)(B:KV w t)
  (hf:∀x y m l u v,f x y=true->Rep W M H x m->Rep W n H y l->RelV m u->RelV l v->Xf X.prog X.w A s u v true):
  ∀{a:Oz}{p:Ov}{o:OZ},y8 W M H a p->KV p o->alD f b a=true->∀k v,(k,v)∈o->∃y,valueAt t k=some y/\Xf X.prog X.w A s v y true
 |[],_,_,h,k,e=>by cases h;cases k;exact λ_ _ z=>by cases z
 |g::a,_,_,h,k,e=>by
  obtain⟨v,q,rfl,K,N⟩:=h;cases k with
  |@cons _ u _ Q C kk=>
   obtain⟨P,u⟩:=u;obtain⟨L,D⟩:=C;cases L;have e:((match qB b g.1 with|some y=>f g.2 y|none=>false)&&alD f b a)=true:=e;rw[S8]at e;intro J E F;rcases P7.mp F with z|z
   .cases z;cases i:qB b g.1 with
    |none=>rw[i]at e;cases e.1
    |some y=>rw[i]at e;obtain⟨l,d,G⟩:=r.get i;obtain⟨O,j,c⟩:=Bg B d;exact⟨O,j,hf _ _ _ _ _ _ e.1 K G D c⟩
   .exact iE I r B hf N kk e.2 J E z
def G9(I:Inv X pins σ H s)(hK:W.K=X.K):∀(n:Nat){A:OG}{x y:PV}{D C:V}{u v:Value}{N M R B:Ol},fX n x y=true->yI W N M H x D->yI W R B H y C->RelV D u->RelV C v->A.units+n+1<cLine->
  Xf X.prog X.w A s u v true/\Bt X.prog X.w A s u v true/\Dh X.prog X.w A s u v false:=by
 have w:∀(n:Nat){A:OG}{x y:PV}{D C:V}{u v:Value}{N M R B:Ol},(Wa n x y==some true)=true->yI W N M H x D->yI W R B H y C->RelV D u->RelV C v->A.units+n+1<cLine->
   Xf X.prog X.w A s u v true/\Bt X.prog X.w A s u v true/\Dh X.prog X.w A s u v false:=λn {A x y D C u v N M R B} h i m b f G=>by
  obtain⟨q1,q2,q3⟩:=uZ I hK n (A:=A) (eq_of_beq h) i m b f (by omega);exact⟨λE Q z=>q1 _ _ E Q z,λE Q z=>q2 _ _ E Q z,λE Q z=>q3 _ _ E Q z⟩
 intro n
 induction n with
 |zero=>intro A x y D C u v N M R B h i m b f G;exact w 0 (by cases x<;>cases y<;>exact h) i m b f G
 |succ n ih=>
  intro A x y D C u v N M R B h i m b f G;have top:∀{p q:Addr},u=.ref p->v=.ref q->Bt X.prog X.w A s u v true/\Dh X.prog X.w A s u v false->Xf X.prog X.w A s u v true/\Bt X.prog X.w A s u v true/\Dh X.prog X.w A s u v false:=λ{p q} e1 e2 hr=>by
   refine⟨?_,hr⟩;by_cases c:p=q
   .subst c;rw[e1,e2];exact Xf.same _
   .rw[e1,e2]at hr ⊢;exact Xf.of_refs c hr.1
  have T:∀{S O:OD}{P g:Ow}{o ws:Oo}{M B:Ol},al2 (fX n) S O=true->zX W M H S P->zX W B H O g->Vals P o->Vals g ws->o.toArray.size=ws.toArray.size/\∀j i (m:j<ws.toArray.size),Xf X.prog X.w A.in1 s o.toArray[j] ws.toArray[j] true:=λ{S O P g o ws M B} h r L J K=>by
   obtain⟨hl,hf⟩:=BB h;have l1:o.toArray.size=S.length:=by rw[P4,<- J.length,r.len]
   have l2:ws.toArray.size=O.length:=by rw[P4,<- K.length,L.len]
   refine⟨by rw[l1,l2,hl],λj g1 g2=>?_⟩;have t1:o[j]?=some o.toArray[j]:=by simp at g1 ⊢
   have t2:ws[j]?=some ws.toArray[j]:=by simp at g2 ⊢
   have k1:j<P.length:=by rw[J.length];simpa using g1
   have k2:j<g.length:=by rw[K.length];simpa using g2
   obtain⟨u0,w1,b⟩:=J.get (O3 k1);obtain⟨v0,w2,f⟩:=K.get (O3 k2);rw[t1]at w1;cases w1;rw[t2]at w2;cases w2;obtain⟨x',hx',rx'⟩:=r.Bc (O3 k1);obtain⟨y',hy',ry'⟩:=L.Bc (O3 k2);exact(ih (hf j x' y' hx' hy') (yI.iff.mpr rx') (yI.iff.mpr ry') b f (by grind)).1
  cases x with
  |l S=>
   cases y with
   |l O=>
    obtain⟨p,P,rfl,_,e,r⟩:=i;obtain⟨p',g,rfl,_,Y,L⟩:=m;cases b;cases f;obtain⟨o,J,U,_⟩:=I.list (SqL.of e);obtain⟨ws,K,p2,_⟩:=I.list (SqL.of Y);obtain⟨F,Z⟩:=T h r L J K;have a1:=pP U.isList p2.isList F (by omega) Z;have a2:=pQ U.isList p2.isList F (by omega) Z;have:((List.range o.toArray.size).all λ_=>true)=true:=by simp
    rw[this]at a1 a2;exact top rfl rfl ⟨a1,a2⟩
   |_=>exact w (n+1) h i m b f G
  |t S=>
   cases y with
   |t O=>obtain⟨p,P,rfl,e,r⟩:=i;obtain⟨p',g,rfl,Y,L⟩:=m;cases b;cases f;rw[hK]at e Y;obtain⟨o,J,U,_⟩:=I.tuple e;obtain⟨ws,K,p2,_⟩:=I.tuple Y;obtain⟨F,Z⟩:=T h r L J K;exact top rfl rfl (xK U p2 F (by omega) Z)
   |_=>exact w (n+1) h i m b f G
  |d a=>
   cases y with
   |d c=>
    obtain⟨p,es,rfl,_,ha,ra⟩:=i;obtain⟨p',es',rfl,_,hb,rb⟩:=m;cases b;cases f;have h:(decide (a.length=c.length)&&alD (fX n) c a)=true:=h;rw[S8,a4q]at h;obtain⟨_,na,va,ka,da⟩:=wC I.hok ha;obtain⟨_,nb,vb,kb,db⟩:=wC I.hok hb;have l1:va.length=a.length:=by rw[<- a0I ka];have:=R9 List.length (y8.iff.mp ra).1;simpa using this
    have l2:vb.length=c.length:=by rw[<- a0I kb];have:=R9 List.length (y8.iff.mp rb).1;simpa using this
    refine top rfl rfl (xH na nb da db (by omega) (by omega) (iE I rb kb (λx y D C u v hxy rx ry b f=>(ih hxy (yI.iff.mpr rx) (yI.iff.mpr ry) b f (by grind)).1) ra ka h.2))
   |_=>exact w (n+1) h i m b f G
  |_=>exact w (n+1) (by cases y<;>exact h) i m b f G
end
def G_(a:Bool)(x y:PV):Out PV:=if fX 8 x y=true then .ok (.b (xor a true))else .wall
def Ha(W:RC)(a:Bool):R2:=λb c H Q=>∃M x y,yI W (λ_=>True) M H x b/\yI W (λ_=>True) M H y c/\fX 8 x y=true/\Q (.bl (xor a true)) H
def DB(g:W.K=X.K)(i:X.A.units+64<cLine):OpR X (compareOp .Eq) (Ha W false):=by intro a s j H h l u v Q I b d ⟨M,x,y,c,f,e,q⟩;exact(G9 I g 8 e c f b d (by omega)).2.1 _ _ ⟨.bl true,H,I,rfl,q⟩
def DC(l:r=Ha C.W neg)(i:LEv C S ta m1)(m:LEv C S tb m2):LE C S false (tOp r ta tb) (mOp (G_ neg) m1 m2):=λB P H c b R Q q=>
 i B P H c b R _ (zT q λx v g f h j=>m B P g c b (R.keep f) _ (zT j λy u d s2 n a=>by
  subst l;unfold G_ at a;split at a
  .rename_i e;exact⟨IY,x,y,yI.iff.mpr (h.same s2),yI.iff.mpr n,e,a _ d (zF.refl _) (RV.of rfl)⟩
  .exact a.elim))
def Hb(g:X.A.units+64<cLine)(h:EVm X C S a m1)(i:EVm X C S b m2):EM X C S false (.Compare a [.Eq] [b] pos) (mOp (G_ false) m1 m2):=λc=>by obtain⟨l,j,f⟩:=h c;obtain⟨m,e,d⟩:=i c;exact⟨_,e_ (DB c.symm g) j e (Ww _ (by decide) (by decide)),DC rfl f d⟩
def Hc(d:TE):TE:=λe H Q=>d e H λx c=>∃(a:Addr)(b:Ov),x=.ref a/\Rd c a (.dK b)/\∀l,c l=none->Q (.ref l) (upd c l (.lst (b.map (·.2))))
theorem Hd:∀{a:Ov}{b:OZ},KV a b->∀(i:Nat) x k u,(a.map (·.2))[i]?=some x->b[i]?=some (k,u)->RelV x u
 |[],b,h,i,x,k,u,e,_=>by cases e
 |f::a,b,h,i,x,k,u,e,q=>by
  cases h with
  |cons c d=>
   cases i with
   |zero=>cases q;cases e;exact c.2
   |succ i=>exact Hd d i x k u e q
def xM(N:X.calm=true)(m:Gl X "list")(J:X.mg "list"=none)(Z:PE X o to)(K:attributeBase o "values" X.env (eval o X.env)=eval o X.env:=by rfl)(T:(qO.endLine==jK.line)=true:=by rfl)
  (E:starEach [.Call (.Attribute o "values" qO) [] [] jK] X.env=[(false,eval (.Call (.Attribute o "values" qO) [] [] jK) X.env)]:=by rfl):PE X (.Call (.Name "list" p) [.Call (.Attribute o "values" qO) [] [] jK] [] pos) (Hc to):=by
 intro c s y H Q I h;refine Call_ (WS I m J a3J (a1l ?_ E rfl));refine a1m (a3n K T (thn (Z c s y H _ I h) λv l ⟨x,M,g,O,a,i,G,w,q⟩=>?_));subst G;obtain rfl:v=Value.ref a:=O;obtain⟨S,R,_⟩:=oa g (.inl ⟨i,w⟩);obtain⟨z,Y,D,f,t⟩:=wC g.hok w;refine⟨"dict","dict.values",a2h,a3h,PySem.F.type_dict_values,S,R,a1j rfl (a4f ?_)⟩;refine a1A a3h t.typeIs PySem.F.entry_dict_values (PySem.F.args_dict_values_1 _) (meets_dict_values (z9 X.prog X.w) a Y) ⟨⟨D,t⟩,?_⟩;refine a1O ?_;obtain⟨C,da⟩:=t.dictAt;have U:Inv X c y M { l with heap:=l.heap.push { cls:=.type "dict_values",data:=.fields #[.ref a] },toks:=l.toks }:=g.kept λb u e=>O0 _ e;refine a0g g.tk<|kdl_call (kdl_values) (g.ok.hd N) ⟨⟨_,P9 _ rfl,rfl,rfl⟩,da.push _⟩ (by rw[<- f.length];exact z) λh' tk A c' W m B hn=>?_
 refine ie U (O2 _) W m ?_ ?_ ?_ q
 .rw[u8];exact z
 .rw[u8,B.1,f.length]
 .intro j x v P F;obtain⟨k,L⟩:=B.2 j v F;exact Hd f j x k v P L
def BC(m:ME):ME:=λb=>(m b).bind λy=>match y with
 |.d a=>.ok (.l (a.map (·.2)))
 |_=>.wall
def xN(i:X.calm=true)(f:Gl X "list")(e:X.mg "list"=none)(h:EM X C S w o m)(g:attributeBase o "values" X.env (eval o X.env)=eval o X.env:=by rfl)(u:(qO.endLine==jK.line)=true:=by rfl)
  (y:starEach [.Call (.Attribute o "values" qO) [] [] jK] X.env=[(false,eval (.Call (.Attribute o "values" qO) [] [] jK) X.env)]:=by rfl):FM X C S (.Call (.Name "list" p) [.Call (.Attribute o "values" qO) [] [] jK] [] pos) (BC m):=λA=>by
 obtain⟨G,s,c⟩:=h A;refine⟨_,xM i f e s g u y,λB P H t j R Q q=>c B P H t j R _ (fG q λx v F E n a=>?_)⟩;cases x with
 |d D=>obtain⟨p,r,rfl,_,z,rk⟩:=n.weak;exact⟨p,r,rfl,z,λl b=>a _ _ (zF.upd b) (JW (dy rk) b)⟩
 |_=>exact a.elim
section
variable {X:Cx}
def DD:V->List V->Hp->VK->Prop:=λx b H Q=>∃l a i y,x=.ref l/\b=[.int i,y]/\H l=some (.lst a)/\0<=i/\i.toNat<=a.length/\a.length<sizeLine/\Q .non (upd H l (.lst (a.take i.toNat++y::a.drop i.toNat)))
def rF:MtM X "list.insert" DD:=by
 intro d s E H x F v A Q I g m h;obtain⟨l,j,i,y,rfl,rfl,c,C,B,hz,q⟩:=h;cases g;obtain⟨u,w,rfl,f,b⟩:=m.two;obtain⟨t,rfl⟩:=f;obtain⟨z,a,n,r,D,e⟩:=I.Cw c;have o:i<2 ^ 63:=by
  have:j.length<2 ^ 40:=by rw[a0E]at hz;omega
  omega
 have hf:¬(!Builtin.List.listFitsIndex i)=true:=by
  unfold Builtin.List.listFitsIndex;rw[O5 (show -(2 ^ 63:Int)<=i by omega),O5 o]
  decide
 refine a2f a3i ⟨_,e,rfl⟩ PySem.F.entry_list_insert (PySem.F.args_list_insert_3 _ _ _) (AutoSeq1.list_insert_list_int_val_1 l a.toArray n i t w hf (by grind)) ⟨e,?_⟩;refine⟨.non,_,I.IL c e ?_ ((r.take _).append (.cons b (r.drop _))) ?_,rfl,q⟩
 .have p:(if i<0 then(i+a.toArray.size).toNat else min i.toNat a.toArray.size)=i.toNat:=by rw[if_neg (by omega),P4];omega
  rw[p];apply a3j.mp;simp[List.extract_eq_drop_take];apply a0N;rw[a05];exact O2 _
 .rw[P2,O1,a0F,a05];omega
end
def He:PV->Option Int->Option Int->Out PV
 |.t a,c,b=>if HT.sIx a.length 0 c=0/\HT.sIx a.length a.length b=a.length then .wall else .ok (.t (Uc a c b))
 |_,_,_=>.wall
section
variable {X:Cx}{C:LC}{S:Og}{w:Bool}{e:Ot}{lo hi:Pe}{m:ME}{ml mh:MO}{p2 pos:Pos}
def rG(h:EM X C S w e m)(K:OM X C S lo ml)(y:OM X C S hi mh):EM X C S false (.Subscript e (.Slice lo hi none p2) pos) (mSl He m ml mh):=λg=>by
 obtain⟨W,J,D⟩:=h g;obtain⟨T,G,L⟩:=K g;obtain⟨U,N,M⟩:=y g;refine⟨_,ax FJ J G N,λB P H i b R Q q=>D B P H i b R _ (zT q λx v s r I a=>L B P s i b (R.keep r) _ ?_)⟩;revert a;cases ml b with
 |exc c fs=>exact id
 |wall=>exact id
 |ok l=>
  intro a A s2;refine M B P A i b ((R.keep r).keep s2) _ ?_;have a:=a;have a:=vg a s2;revert a;cases mh b with
  |exc c fs=>exact id
  |wall=>exact id
  |ok h=>
   intro a O n;have a:=vg a n;have E:=(I.same s2).same n;cases x with
   |t d=>
    obtain⟨p,u,rfl,hp,j⟩:=E;have f:u.length=d.length:=(zX.len j).symm▸rfl;have a:z_ C B O (RV C B S P false) Q (if HT.sIx d.length 0 l=0/\HT.sIx d.length d.length h=d.length then .wall else .ok (.t (Uc d l h))):=a;split at a
    .exact a.elim
    .rename_i F;exact⟨p,u,rfl,g▸hp,by rw[f];exact F,λz hz=>a _ _ (zF.upd hz) (RV.of (oC hz j.cut))⟩
   |_=>exact a.elim
end
def LFr.le(h:LFr C S te m):LE C S false te m:=λB P H b c R Q q=>h B P H b c R Q (Zj q λx v d s a=>RV.of (a.rep R.new))
section
variable {X:Cx}{W:RC}{E:XK}{fr' fr:Bool}{S:Og}{qd tg elt:Ot}{ifs:Oq}{m me:ME}{mc:MT}{mg:MG}{mi:MI}{pos bW py:Pos}{j:Nat}{scope:Scope}{y:Str}
def N_(bs:Ou)(o:LE ⟨W,E,fr⟩ S false te m)(p:S.all (·==0)=true:=by rfl):∀(Z:HC),Z.W=W->∀A H d e G,HR Z A H d e G->∀Q,HPx Z E A G.length H (KV' Z Q) (hP bs m e G)->te d H Q:=λZ u A H d e G R Q q=>by
 subst u;unfold hP at q;split at q
 .rename_i r g;refine o _ _ H d r (xq R g p) Q ?_;revert q;cases m r with
  |ok x=>exact λq v b s f=>q A b (R.toHH.keep s) (Gro.same s) v (f.rep.sub λa m _=>xu R.toHH a m)
  |exc c fs=>exact λq=>aY R.toHH q λb t h=>h.sub λa m _=>m.elim id λn=>R.toHH.new a n
  |wall=>exact id
 .split at q
  .rename_i r g;refine o _ _ H d r (xt R g p) Q ?_;revert q;cases m r with
   |ok x=>
    intro q v b s f;dsimp only at q;split at q
    .rename_i l;exact q A b (R.toHH.keep s) (Gro.same s) v (Xj l f.rep)
    .exact q.elim
   |exc c fs=>
    intro q;dsimp only at q;split at q
    .rename_i l;exact aY R.toHH q λb t h=>Qu l h
    .exact q.elim
   |wall=>exact id
  .exact q.elim
def BD(bs:Ou)(N:Oj)(fr:OF)(c:Og)(I:X.N.Nodup)(D:X.N[j]?=some y)(v:X.env.scope.names.lookup y=some .local)(o:X.calm=true)(f:l5 X scope N fr=true)(C:IM X ⟨W,E,fr'⟩ S true tg qd mi)(l:∀z:CI,GM (cxI X scope N z) ⟨W,E0,false⟩ c c tg mg)(r:∀z:CI,TsM (cxI X scope N z) ⟨W,E0,false⟩ c ifs mc)(he:∀z:CI,EM (cxI X scope N z) ⟨W,E0,false⟩ c false elt me)(F:c=inS S fr:=by rfl)(q:S.all (·==0)=true:=by rfl)
  (e:swapsWith (.ListComp elt [⟨tg,qd,ifs,0⟩] scope pos) (some (.Name y py)) bW.line X.env=pure true:=by rfl) (G:∀x,foldedSetIterable qd X.env x=pure x:=by intro _;rfl):HS X W E (.Assign [.Name y py] (.ListComp elt [⟨tg,qd,ifs,0⟩] scope pos) bW) (Vz j (hP bs (mLC mi fr mg mc me))):=λd=>by
 obtain⟨J,u,h⟩:=C d;obtain⟨g,n,w⟩:=K_ l λ_=>d;obtain⟨K,B,A⟩:=K9 r λ_=>d;obtain⟨M,t,p⟩:=K8 he λ_=>d;exact⟨_,uS N fr I D v o f u (λa b s H L=>n ⟨a,b,s,H,L⟩) (λa b s H L=>B ⟨a,b,s,H,L⟩) (λa b s H L=>t ⟨a,b,s,H,L⟩) e G,rf (N_ bs (xg h rfl F w A p).le q)⟩
end
def HEX(X:Cx)(W:RC)(e:Ot)(m:HME):Prop:=X.K=W.K->∃b:TEx,PEx X e b/\∀(Z:HC),Z.W=W->∀A H c d G,HR Z A H c d G->∀Q a,HPx Z a A G.length H (KV' Z Q) (m d G)->b c H Q a
def HXS(X:Cx)(W:RC)(st:ON)(m:HMS):Prop:=X.K=W.K->∃t:TSx,CC X st t/\∀(Z:HC),Z.W=W->∀A H b c G,HR Z A H b c G->∀D a,HPs Z a A G.length H D (m c G)->t D a b H
def iF(g:List HV->AH->HX HV)(ms:HMA):HME:=λc G=>match ms c G with
 |.ok b a=>g b a
 |_=>.wall
def DE(F:qz X.prog X.w X.K X.mg X.base (CXe X.prog X.w) k f fd ps (hsp W n g))(w:j7 k X.A)(r:Gl X x)(m:X.mg x=some (.ref f))(B:keepIn X.K (.ref f)=true)(C:Binds X.K fd ps [])(j:HA X.nox W E0 (e::es) ms)(s:∀d G a b,ms d G=.ok a b->a.length=n)
  (h:(x==("__debug__":Str))=false:=by decide) (he:starEach (e::es) X.env=(false,eval e X.env)::starEach es X.env:=by rfl) (hpl:(backTo pos (starEach es X.env)).any (·.1)=false:=by rfl):HEX X W (.Call (.Name x p) (e::es) [] pos) (iF g ms):=λI=>by
 obtain⟨L,v,l⟩:=j I;refine⟨_,aC F w r m B C v h he hpl,λZ i A H y d G R Q K q=>l Z i A H y d G R _ ?_⟩;unfold iF at q;revert q;cases D:ms d G with
 |wall=>exact id
 |exc c fs b=>exact λq=>q.elim
 |ok a b=>intro q z J u t M E;exact⟨Z,z,b,a,i,s _ _ _ _ D,u,E,HPx.gro q t⟩
def leS(a b:Str):Bool:=!ltCps b.cps.toList a.cps.toList
def Ju:leS a b=true↔a.cps.toList<=b.cps.toList:=by unfold leS;rw[ltCps_eq];simp
def dz(a b c:Str)(d:leS a b=true)(e:leS b c=true):leS a c=true:=Ju.mpr (List.le_trans (Ju.mp d) (Ju.mp e))
def rH(a b:Str):(leS a b||leS b a)=true:=by
 rcases List.le_total a.cps.toList b.cps.toList with h|h
 .rw[Ju.mpr h];rfl
 .rw[Ju.mpr h];exact a26 _
def xO(c:leS a b=true)(d:leS b a=true):a=b:=by have h:=List.le_antisymm (Ju.mp c) (Ju.mp d);obtain⟨x⟩:=a;obtain⟨y⟩:=b;exact R9 Str.mk (a3j.mp h)
def qQ(l:Oj):List Str:=l.mergeSort leS
def iG{a b:Oj}(h:a.Perm b)(c:a.Pairwise λx y=>leS x y=true)(d:b.Pairwise λx y=>leS x y=true):a=b:=
 List.Perm.eq_of_pairwise (λ_ _ _ _ e f=>xO e f) c d h
def Xl:(qQ l).Pairwise λx y=>leS x y=true:=List.pairwise_mergeSort dz rH l
def rJ(h:a.Perm b):qQ a=qQ b:=iG (((a1E a leS).trans h).trans (a1E b leS).symm) Xl Xl
theorem pw_of_rising:∀{l:Oj}{p:Str},risingS p l=true->(p::l).Pairwise λx y=>leS x y=true
 |[],p,_=>List.pairwise_singleton _ _
 |x::r,p,h=>by
  unfold risingS at h;rw[S8]at h;have b:=pw_of_rising h.2;refine a2b.mpr ⟨λy a=>?_,b⟩;rcases P7.mp a with rfl|a
  .exact h.1
  .exact dz p x y h.1 ((a2b.mp b).1 y a)
def pw_of_sorted(h:sortedS l=true):l.Pairwise λx y=>leS x y=true:=by
 cases l with
 |nil=>exact List.Pairwise.nil
 |cons x r=>exact pw_of_rising h
def dA(hp:l'.Perm l)(h:sortedS l'=true):l'=qQ l:=iG (hp.trans (a1E l leS).symm) (pw_of_sorted h) Xl
theorem UX:∀{b:Oj}{a:Oo},Vals (b.map V.str) a->StrsAre a b
 |[],_,h=>by cases h;exact .nil
 |z::b,_,h=>by cases h with|cons r t=>obtain⟨k,rfl⟩:=r;exact .cons z k (UX t)
theorem a9:∀{b:Oj}{a:Oo},StrsAre a b->Vals (b.map V.str) a
 |_,_,.nil=>.nil
 |_,_,.cons z t h=>.cons ⟨t,rfl⟩ (a9 h)
def rK(K:OL):List V->Hp->VK->Prop:=λb H Q=>∃p a,b=[.ref p]/\SqL K H p (a.map V.str)/\a.length<64/\∀l,H l=none->Q (.ref l) (upd H l (.lst ((qQ a).map V.str)))
def UY:jR X (.builtin "sorted") (rK X.K):=by
 intro j s B H A z Q I r h;obtain⟨p,i,rfl,y,d,q⟩:=h;obtain⟨u,rfl,o⟩:=vals1 r;cases o;obtain⟨b,g,l,hz⟩:=I.list y;have x:=UX g;have a:b.length=i.length:=by rw[<- g.length,u8]
 refine sorted_strs l.isList x (by omega) λc w t f n=>?_;obtain⟨e,v⟩:=sortedAll_at s.heap b c;have m:=dA f n;subst m;exact⟨.ref _,_,I.laid (λ_ _=>sortedAll_old) (a0Y _) (show yR X.prog X.w _ _ _ (.lst ((qQ i).map V.str))from⟨by rw[u8,f.length_eq];rw[u8]at hz;exact hz,c.toList,e,a9 t,by exact v⟩),rfl,q _ (I.hok.fresh (a0Y _))⟩
def Xm:List PV->Out PV
 |[.l b]=>match Dw b with
  |some a=>if a.length<64 then .ok (.l ((qQ a).map .s))else .wall
  |none=>.wall
 |_=>.wall
theorem a_{W:RC}{M:Ol}{H:Hp}:∀{a:Oj},zX W M H (a.map PV.s) (a.map V.str)
 |[]=>rfl
 |_::_=>⟨_,_,rfl,rfl,a_⟩
def iH:LfF W (rK W.K) Xm:=λM C B H i j Q n h q=>by
 unfold Xm at q;split at q
 .split at q
  .rename_i f e;split at q
   .rename_i b;obtain⟨v,r,rfl,⟨p,g,rfl,_,a,c⟩,d⟩:=h;cases d;rw[Dx c e]at a;exact⟨p,f,rfl,SqL.of a,b,λl a=>q _ _ (zF.upd a) (JW a_ a)⟩
   .exact q.elim
  .exact q.elim
 .exact q.elim
def iI{id:String}{r:List V->Hp->VK->Prop}{g:OB}(f:X.K=C.W.K->jR X (.builtin id) r)(L:LfF C.W r g)(j:Gl X x)(i:X.mg x=none)(c:bootBuiltins x=some (.builtin id))(d:AM X C S ws (e::es) ms)(l:x≠"__name__":=by decide)(a:(x==("__debug__":Str))=false:=by decide)
  (he:starEach (e::es) X.env=(false,eval e X.env)::starEach es X.env:=by rfl) (hpl:(backTo pos (starEach es X.env)).any (·.1)=false:=by rfl):FM X C S (.Call (.Name x p) (e::es) [] pos) (zf g ms):=λb=>by
 obtain⟨n,m,h⟩:=d b;exact⟨_,Wy (f b) j i c m l a he hpl,Gq L h⟩
def xP(a:Gl X "sorted")(d:X.mg "sorted"=none)(c:AM X C S ws [e] ms)(he:starEach [e] X.env=[(false,eval e X.env)]:=by rfl):FM X C S (.Call (.Name "sorted" p) [e] [] pos) (zf Xm ms):=
 iI (λb=>b▸UY) iH a d a4A c (he:=he)
section
variable {prog:Ox}{w:OE}{A:OG}{E:Of}{s:Om}{K:Type}[DecidableEq K] {knd:PySem.KeyKind prog w K}
def VB{Q:List Value->Shared->Prop}{d:Addr}{kvs:List (K×Value)}{ep:Nat}(O:A.handled=none)(W:(d==sysModules)=false)(hm:s.heap.DictAt knd d kvs ep)(P:kvs.length<=sizeLine)
  (Y:∀G tk c,(∀b o,s.heap.get? b=some o->G.get? b=some o)->s.heap.objs.size<=G.objs.size->ItemsOf (λi v=>∃k x,kvs[i]?=some (k,x)/\knd.is k v=true) c kvs.length->Q c.toList { s with heap:=G,toks:=tk }):
  wpAny (model prog w) A (collect (.ref d)) Q E s:=by
 have M:d<s.heap.objs.size:=by obtain⟨o,_,X,_⟩:=hm;exact O8 X
 refine f8 (wpAny_runValue (a0C PySem.F.entry_proto_collect ?_));refine f8 (a0O ?_);refine v4 ⟨a04 a3q _,a0C PySem.F.entry_list_iadd ?_⟩;have a:(s.heap.push { cls:=.type "list",data:=.seq ([]:List Value).toArray }).get? s.heap.objs.size=some { cls:=.type "list",data:=.seq ([]:List Value).toArray }:=P9 _ rfl;have I:∀b o,s.heap.get? b=some o->(s.heap.push { cls:=.type "list",data:=.seq ([]:List Value).toArray }).get? b=some o:=λb o e=>O0 _ e;show wpAny _ A.in1 (Builtin.List.listExtendWith (.ref s.heap.objs.size) (.ref d) (.ref s.heap.objs.size)) _ _ _;generalize(s.heap.push { cls:=.type "list",data:=.seq ([]:List Value).toArray })=h2 at a I;have m:=hm.at' λo e=>I _ _ e;have y:∀{p:Om},p.heap.DictAt knd d kvs ep->p.TypeIs (.ref d) "dict":=λz=>z.dictOf.typeIs;refine f8 (a1z (y m) ?_);have f:=a0B M;have S:Builtin.List.listSameRef (.ref s.heap.objs.size) (.ref d)=false:=by simp[Builtin.List.listSameRef,f]
 rw[if_neg (by grind)];refine f8 (a20 W m ?_);have n:∀b o,h2.get? b=some o->(h2.push { cls:=.type "dict_keyiterator",data:=.fields #[.ref d,.int 0 0,.int kvs.length 0,.int ep 0] }).get? b=some o:=λb o e=>O0 _ e;have j:=m.at' λo e=>n _ _ e;refine f8 (W1 (pY (y j) ?_));refine f8 (a22 ?_);have s2:=O8 a;have U:=P1 (a1R M s2);have h:=n _ _ a;have r:(h2.push { cls:=.type "dict_keyiterator",data:=.fields #[.ref d,.int 0 0,.int kvs.length 0,.int ep 0] }).get? h2.objs.size=some { cls:=.type "dict_keyiterator",data:=.fields #[.ref d,.int 0 0,.int kvs.length 0,.int ep 0] }:=P9 _ rfl;have J:=λb o e=>n _ _ (I b o e);generalize(h2.push { cls:=.type "dict_keyiterator",data:=.fields #[.ref d,.int 0 0,.int kvs.length 0,.int ep 0] })=h3 at h r J j;refine f8 (f8 (a14 h rfl ?_));have t:=a0w (Obj.mapSeq (λx:Array Value=>x.push Value.none)) h rfl;refine a14 t rfl ?_;have C:=a0w (Obj.mapSeq (λx:Array Value=>x.pop)) t rfl;have H:∀b o,b≠s.heap.objs.size->h3.get? b=some o->((h3.update s.heap.objs.size (Obj.mapSeq λx=>x.push Value.none)).update s.heap.objs.size (Obj.mapSeq λx=>x.pop)).get? b=some o:=λb o N e=>
  (T9 _ _ (Ne.symm N)).trans ((T9 _ _ (Ne.symm N)).trans e)
 have B:=j.at' λo e=>H _ _ (Ne.symm f) e;have u:=H _ _ (a0B s2) r;have L:=λb o e=>H b o (P1 (O8 e)) (J b o e);generalize((h3.update s.heap.objs.size (Obj.mapSeq λx=>x.push Value.none)).update s.heap.objs.size (Obj.mapSeq λx=>x.pop))=h5 at C B u L;refine v4 ⟨a04 a23 _,a35 (Walks.dictKeys (A:=A.in1) O h2.objs.size d U kvs ep).toS P s.heap.objs.size (by grind) _ kvs.length 0 _ _ _ rfl (a0c _) (show _/\_ from⟨⟨_,u,rfl,rfl⟩,B⟩) C (ItemsOf.nil _) λp c Z F g q=>?_⟩;rw[a4c F]at g ⊢;refine f8 (a21 g ?_);refine v4 (Y p.heap p.toks c (λb o e=>F.heap b o (λD=>?_) (L b o e)) (a1k (O8 g)) q);have:=O8 e;rcases P7.mp D with R|hm
 .exact P1 this R
 .exact P1 (a1R this s2) (T6.mp hm)
def fY{Q:Of}{d:Addr}{kvs:List (K×Value)}{ep:Nat}{vs:Oo}{ss:Oj}(hh:A.handled=none)(hd:(d==sysModules)=false)(hm:s.heap.DictAt knd d kvs ep)(h64:kvs.length<64)
  (hS:∀vs:List Value,ItemsOf (λi v=>∃k x,kvs[i]?=some (k,x)/\knd.is k v=true) vs.toArray kvs.length->StrsAre vs ss)
  (h:∀(h':Heap)(tk:Nat)(out:OJ)(ss':Oj)(e:Nat)(l:Addr),(∀b o,s.heap.get? b=some o->h'.get? b=some o)->s.heap.objs.size<=l->h'.get? l=some (seqObj "list" out e)->StrsAre out.toList ss'->ss'.Perm ss->sortedS ss'=true->Q (.ref l) { s with heap:=h',toks:=tk }):
  wpAny (model prog w) A (call (.builtin "sorted") [.ref d]) Q E s:=by
 refine Calls.call_function_entry kind_sorted plain_sorted entry_sorted (args_sorted1 _) ?_;unfold Builtin.«sorted»;refine f8 (m:=checkCount "sorted" 1 1 _) (v4 ?_);have hz:kvs.length<=sizeLine:=by rw[a0E];omega
 refine f8 (VB (A:=A.in1) hh hd hm hz λh' tk acc hk hsz hi=>?_);have hSs:=hS acc.toList (by rw[a2D];exact hi);have hlen:acc.toList.length=kvs.length:=hi.1;refine f8 (a4d ?_ (by rw[hlen];exact hz));have hoL:(h'.push (seqObj "list" acc.toList.toArray 0)).get? h'.objs.size=some (seqObj "list" acc.toList.toArray 0):=P9 _ rfl;show wpAny _ _ _ _ _ { s with heap:=h'.push (seqObj "list" acc.toList.toArray 0),toks:=tk };refine f8 (W1 (a1T slot_list_sort ⟨_,hoL,rfl⟩ entry_list_sort (list_sort_treeK strKind_oneLt hoL hSs.keysOf (λv₁ v₂ rest e=>keyKind_strs (by rw[<- e];exact hSs)) (by rw[hlen];exact h64) λst' a1 a2=>⟨_,rfl,?_⟩) (args_list_sort _)));obtain⟨ss',b1,b2,b3⟩:=sorted_out_str hSs a1 a2;obtain⟨e,he⟩:=sortedHeap_at (out:=(arrOf st').map (·.2)) hoL;refine v4 ⟨_,rfl,h _ _ _ ss' e _ (λb o q=>?_) hsz he b1 b2 b3⟩;have hb:=O8 (hk b o q);rw[sortedHeap_old (P1 hb) (by rw[a39];exact a1v hb)];exact O0 _ (hk b o q)
end
def BE:List V->Hp->VK->Prop:=λc H Q=>∃p b a,c=[.ref p]/\Rd H p (.dK b)/\b.map (·.1)=a.map Sum.inr/\a.length<64/\∀l,H l=none->Q (.ref l) (upd H l (.lst ((qQ a).map V.str)))
theorem UZ:∀{a:Oj}{b:Oo},b.length=a.length->(∀(i:Nat)(v:Value),b[i]?=some v->∃(x:Str)(t:Tok),a[i]?=some x/\v=Value.str x t)->StrsAre b a
 |[],[],_,_=>.nil
 |x::a,v::b,c,h=>by obtain⟨y,t,e,rfl⟩:=h 0 v rfl;cases e;exact .cons _ t (UZ (by grind) λi v e=>h (i+1) v e)
def mE(P:X.calm=true):jR X (.builtin "sorted") BE:=by
 intro K s σ H xs us Q I r h;obtain⟨p,a,f,rfl,hS,J,h64,q⟩:=h;obtain⟨u,rfl,L⟩:=vals1 r;cases L;obtain⟨z,hd,w,b,o,N,G,Z,j,U,Y,S,R⟩:=wC I.hok hS;have hl:=b.length.symm;have A:=by simpa using R9 List.length J
 refine a0g (by ac_rfl)<|fY (vs:=[]) (ss:=f) (I.ok.hd P) hd ⟨o,N,Z,j,U,Y,S,R⟩ (by omega) (λws F=>UZ (by have:=F.1;simp at this;omega) λi v W=>?_) λh' tk C ss' e l B c he O E b3 hn=>?_
 .obtain⟨k,x,m,g⟩:=F.2 i v (by grind);have d:i<a.length:=by have:=(P5.mp m).1;omega
  obtain⟨w',M⟩:=dg b (k:=a[i].1) (O3 d);rw[M]at m;cases m;have D:(a.map (·.1))[i]?=some a[i].1:=by rw[S5,O3 d];rfl
  rw[J,S5]at D;obtain⟨y,hy,T⟩:=v1.mp D;rw[<- T]at g;obtain⟨t,rfl⟩:=(show ∃t:Tok,v=Value.str y t from by
   rw[K3]at g;rcases yf g with⟨i,t,e,_⟩|⟨x,t,e,rfl⟩
   .cases e
   .cases e;exact⟨t,rfl⟩)
  exact⟨y,t,hy,rfl⟩
 .have j:=dA E b3;subst j;exact⟨.ref _,_,I.laid B c (show yR X.prog X.w _ _ _ (.lst ((qQ f).map V.str))from⟨by rw[u8,E.length_eq,<- A];exact z,C.toList,e,a9 O,by exact he⟩),rfl,q _ (I.hok.fresh c)⟩
def fZ:List (Key×PV)->Option (List Str)
 |[]=>some []
 | (.inr x,_)::r=>(fZ r).map (x::·)
 |_::_=>none
theorem iJ:∀{a:Oz}{b:Oj},fZ a=some b->a.map (·.1)=b.map Sum.inr
 |[],_,h=>by cases h;rfl
 | (.inr x,y)::r,b,h=>by obtain⟨c,e,rfl⟩:=v1.mp h;rw[R7,R7,iJ e]
 | (.inl x,y)::r,b,h=>by cases h
def U0:List PV->Out PV
 |[.l c]=>Xm [.l c]
 |[.d a]=>match fZ a with
  |some b=>if b.length<64 then .ok (.l ((qQ b).map .s))else .wall
  |none=>.wall
 |_=>.wall
def xQ:LfF W (λb H Q=>rK W.K b H Q\/BE b H Q) U0:=λM C B H j b Q n h q=>by
 unfold U0 at q;split at q
 .exact .inl (iH M C B H _ b Q n h q)
 .split at q
  .rename_i i g;split at q
   .rename_i c;obtain⟨v,r,rfl,⟨p,e,rfl,_,a,d⟩,f⟩:=h;cases f;exact .inr ⟨p,e,i,rfl,a,(y8.iff.mp d).1.trans (iJ g),c,λl a=>q _ _ (zF.upd a) (JW a_ a)⟩
   .exact q.elim
  .exact q.elim
 .exact q.elim
def xR(b:X.calm=true)(d:Gl X "sorted")(c:X.mg "sorted"=none)(a:AM X C S ws [e] ms)(he:starEach [e] X.env=[(false,eval e X.env)]:=by rfl):FM X C S (.Call (.Name "sorted" p) [e] [] pos) (zf U0 ms):=
 iI (λf=>f▸UY.or (mE b)) xQ d c a4A a (he:=he)
def Xn:bootBuiltins "set"=some (.type "set"):=by rfl
def nr(n:Nat)(m:ME)(xs:OD):Out PV:=match m (xs.map some++List.replicate (n-xs.length) none)with
 |.ok y=>.ok y
 |_=>.wall
def xS(o:X.K=W.K)(j:N.length=n)(l:ws.length<=n)(h:EM X ⟨W,E,false⟩ (aJ ws n) false body m)(q:lsp W false ws (nr n m) vs H Q E):∃b,PE X body b/\b (start N vs) H Q:=by
 subst j;obtain⟨M,d,e,q⟩:=q;obtain⟨b,f,g⟩:=h o;refine⟨b,f,g (ug H M) _ H _ _ (c9 e l) _ ?_⟩;unfold nr at q;revert q;cases m (d.map some++List.replicate (N.length-d.length) none)with
 |exc c fs=>exact λq=>q.elim
 |wall=>exact id
 |ok y=>intro q v i s r;refine q v i s ?_;unfold RtV;exact r.rep.sub λa m _=>m.1.1
section
variable {P:Ox}{w:OE}{K:OL}{mg:Oi}{base:Heap}
def DF{x b:Str}{st:OY}{f c:Addr}{u:OH}{N z:Oj}{k n l:Nat}{W:RC}{ms:HMS}(F:Fun K x b st f u)(d:u.code=.ref c)(S:zy N z (zm st))(hW:K=W.K)(C:z.length=l)(hN:N.length=n)
  (h:∀(A:OG)(a:List Env)(s:Om)(H:Hp)(E:XK),j7 k (A.deeper (envOfC b (zm st) s.heap.objs.size f (.ref c)))->HSs (thr (lS (CXe P w) P w K mg base N b (zm st) f (.ref c) A a s H E) E) W E (Zu st) ms):
  qz P w K mg base (CXe P w) (k+1) f u z (hsp W l (nq n ms)):=by
 subst hN C;obtain⟨oc,od,kV,Y,pm,an,m,ct,L,rfl,lk,p⟩:=F.ex;have e:=d;subst e;refine FH lk p S p6 λA a s H vs Q E M ⟨Z,R,G,B,hZ,C,D,r,q⟩=>?_;obtain⟨I,O,J⟩:=h A a s H E M hW;refine⟨I,O.F1 λv s h=>Bb h,J Z hZ R H _ _ G (iz D r) _ ?_⟩;unfold nq at q;revert q;cases ms (B.map some++List.replicate (N.length-B.length) none) G with
 |exc c fs i=>exact id
 |wall=>exact id
 |nx g i=>exact λq t j U R2 o=>q t j R2.toHH o .non rfl
 |rt y i=>exact λq t j v X o T=>q t j X o v T
 |bk g i=>exact λq=>q.elim
 |ct g i=>exact λq=>q.elim
end
def xT(i:H (W.cls 1000)=some (.tbl #[]))(s:SqL W.K H p (ns.map V.int))(h:∃G,g [.v (.sc ns)] [.y true]=.ok (.v (.b true)) G)(k:∀t,Q (.bl true) t):hsp W 1 g [.ref p] H Q E:=by
 obtain⟨G,h⟩:=h;have l:∀{u:HO},H p=some u->(∀w,u≠.tbl w)->W.cls 1000≠p:=λe n z=>by rw[<- z,i]at e;cases e;exact n _ rfl
 refine⟨⟨W,λb=>if b=W.cls 1000 then none else H b,λ_=>True⟩,λ_=>W.cls 1000,[.y true],[.v (.sc ns)],rfl,rfl,⟨λa o e=>?_,λk c e=>?_,λj k d f _=>?_,λk _=>if_pos rfl⟩,⟨.ref p,[],rfl,⟨p,rfl,?_⟩,rfl⟩,?_⟩
 .by_cases z:a=W.cls 1000
  .have q:=(if_pos z).symm.trans e;cases q
  .exact(if_neg z).symm.trans e
 .cases k with
  |zero=>cases e;exact⟨rfl,#[],i,λ_=>rfl⟩
  |succ k=>simp at e
 .have d:j<1:=d;have f:k<1:=f;omega
 .rcases s with z|z
  .refine .inl ⟨⟨.inl trivial,λ_ _=>?_⟩,z⟩;rcases z with z|⟨o,z⟩
   .exact l z λ_=>by nofun
   .exact l z λ_=>by nofun
  .exact .inr z
 .rw[h];intro y m A x v r;cases r;exact k m
theorem rL{W:RC}{M:Ol}{A:Oy}{n:Nat}{H:Hp}:∀{a:OD}{b:Ow},zX W M H a b->jd W M A n H (a.map .v) b
 |[],_,h=>h
 |_::_,_,⟨v,r,e,c,d⟩=>⟨v,r,e,c,rL d⟩
def DG{b:Type}(f:Pb):KasT b->b
 |.ret a=>a
 |.ask i j k=>DG f (k (f i j))
theorem iK{b:Type}{P:Pf}{f:Pb}{Q:b->Prop}:∀{t:KasT b},VA P f t Q->VA P f t λa=>Q a/\a=DG f t
 |.ret _,h=>⟨h,rfl⟩
 |.ask i j k,h=>⟨h.1,h.2.1,iK h.2.2⟩
theorem iL{a:Type}{P:Pf}{f:Pb}{Q:a->Prop}:∀{t:KasT a},VA P f t Q->Q (DG f t)
 |.ret _,h=>h
 |.ask i j k,h=>iL (t:=k (f i j)) h.2.2
def DH:KeyOrd where
 α:=Int
 blt a b:=decide (a<b)
 irrefl a:=O4 (Int.lt_irrefl a)
 trans a b c d e:=O5 (Int.lt_trans (a0P d) (a0P e))
 negTrans a b c h:=by
  have h:=a0P h;by_cases f:a<b
  .exact .inl (O5 f)
  .exact .inr (O5 (by omega))
 total a b d e:=by have d:=a2Q d;have e:=a2Q e;omega
def eW(kz:OC):List Nat:=if kz.length<2 then List.range kz.length else(DG (ans (O:=DH) λi=>kz.getD i 0) (kas_sort kz.length)).toList
def f6(kz:OC):(eW kz).Perm (List.range kz.length)/\(eW kz).Pairwise λi j=>kz.getD i 0<=kz.getD j 0:=by
 unfold eW;by_cases h:kz.length<2
 .rw[if_pos h];refine⟨.refl _,?_⟩;rw[a15];intro i j c b a;rw[a0p]at c b;omega
 .rw[if_neg h];obtain⟨hp,f⟩:=iL (rA (O:=DH) (n:=kz.length) (by omega));refine⟨hp.perm,?_⟩;rw[a15];intro i j c b a;have g:=hp.size;rw[a0S]at c b;have:=f i j (a1k a) (by omega);have e:∀k (d:k<(DG (ans (O:=DH) λi=>kz.getD i 0) (kas_sort kz.length)).size),at0 (DG (ans (O:=DH) λi=>kz.getD i 0) (kas_sort kz.length)) k=(DG (ans (O:=DH) λi=>kz.getD i 0) (kas_sort kz.length)).toList[k]'(by omega):=λk d=>by rw[Kf,getElem?_pos _ k d];simp
  unfold kk at this;rw[e i c,e j b]at this;exact Int.not_lt.mp (a2Q this)
theorem dB:∀{a:OC}{b:Oo},Vals (a.map V.int) b->IntsAre b a
 |[],_,.nil=>.nil
 |k::a,_,.cons r c=>by obtain⟨t,rfl⟩:=r;exact .cons _ _ (dB c)
theorem ints_get:∀{a:OC}{b:Oo}{i:Nat},IntsAre b a->i<a.length->∃t,b.getD i .none=.int (a.getD i 0) t
 |_,_,0,.cons k t _,_=>⟨t,rfl⟩
 |_,_,i+1,.cons k t h,c=>ints_get (i:=i) h (Nat.lt_of_succ_lt_succ c)
def KCs(X:Cx)(σ:St)(k:Nat)(b:Oh)(f:Addr)(sp:Sp):Prop:=∀{a:Oh}{H:Hp}{s:Om}{Q:VK}{E:Of}{A:OG}{u:Value}{v:V},(∀p∈b,p∈a)->j7 k A->ub X.prog X.w X.K X.mg X.base A X.stack s H->Inv X a σ H s->RelV v u->sp [v] H Q (λ_ _ _=>False)->wpAny (Px X) A (call (.ref f) [u]) (EP X a σ Q) E s
def rM(sp:Sp)(ys:Ow)(H:Hp)(Q:VK):Prop:=ys.length<64/\rB sp ys [] H λd c=>∃b:List Int,b.length=ys.length/\d=b.map V.int/\∀a,c a=none->Q (.ref a) (upd c a (.lst ((eW b).map λi=>ys.getD i .non)))
def I_(X:Cx)(s:Om)(l:Addr)(ys:Ow):Prop:=∀{Q:List Value->Shared->Prop}{E:Of},(∀c tk a,Vals ys a->(∀b o,s.heap.get? b=some o->c.get? b=some o)->s.heap.objs.size<=c.objs.size->Q a { s with heap:=c,toks:=tk })->wpAny (Px X) X.A.in1 (collect (.ref l)) Q E s
section
variable {X:Cx}{k:Nat}{f:Addr}{sp:Sp}
theorem dC{pins:Oh}{σ:St}{A:OG}{E:Of}{kS:Addr}{Q0:List V->Hp->Prop}{body:Value->PUnit->Sem (ForInStep PUnit)}{lp:Oh}(F:KCs X σ k lp f sp)(hlp:∀p∈lp,p∈pins)(hr:j7 k A)(hA:A.frames=X.A.frames)
  (w:xF X pins kS)
  (JK:∀x s (C:Shared->Prop),wpAny (Px X) A (call (.ref f) [x]) (λz s'=>wpAny (Px X) A (Builtin.List.listUpdate (.ref kS) (·.push z)) (λ_ s''=>C s'') (λ_ _=>False) s') (λ_ _=>False) s->wpAny (Px X) A (body x ⟨⟩) (λr s'=>r=.yield ⟨⟩/\C s') E s):
  ∀{ys:Ow}{its:Oo}{acc:Ow}{us:Oo}{e:Nat}{H:Hp}{s:Om},acc.length+ys.length<64->Vals ys its->Vals acc us->Inv X (pins++[(kS,seqObj "list" us.toArray e)]) σ H s->rB sp ys acc H Q0->
   wpAny (Px X) A (forIn its PUnit.unit body) (λ_ s'=>∃zs us' e' H',zs.length=acc.length+ys.length/\Vals zs us'/\Inv X (pins++[(kS,seqObj "list" us'.toArray e')]) σ H' s'/\Q0 zs H') E s
 |[],_,acc,us,e,H,s,_,.nil,ra,I,h=>by exact v4 ⟨acc,us,e,H,rfl,ra,I,h⟩
 |v::ys,_,acc,us,e,H,s,hl,.cons (b:=u) (l₂:=its) r rs,ra,I,h=>by
  rw[O1]at hl;have hul:=ra.length;rw[List.forIn_cons];refine f8 (a0f (JK u s (λs'=>∃(zs:(V×Nat)×Value) (H':Hp),Inv X (pins++[(kS,seqObj "list" (us++[zs.2]).toArray zs.1.2)]) σ H' s'/\RelV zs.1.1 zs.2/\rB sp ys (acc++[zs.1.1]) H' Q0) ?_) (λq s' hq=>?_) λ_ _ x=>x)
  .have A0:ub X.prog X.w X.K X.mg X.base A X.stack s H:=⟨hA.trans I.nR.frames,I.nR.mod,I.nR.bs,I.nR.bsz,I.nR.eT,I.nR.frf,I.nR.hok,I.nR.bare⟩;refine a0f (F (λp hp=>a0A _ (hlp p hp)) hr A0 I r h) (λz s1 ⟨y,H1,I1,r1,q1⟩=>?_) λ_ _ x=>x;have a1:=I1.at1;have J1:=I1.jL;obtain⟨e2,he2⟩:∃e2,(s1.heap.update kS (Obj.mapSeq (·.push z))).get? kS=some (seqObj "list" (us++[z]).toArray e2):=⟨_,by
    have:=get?_update_seq a1.1 (·.push z);rw[show us.toArray.push z=(us++[z]).toArray by simp]at this;exact this⟩
   refine a2V a1.1 rfl ?_ (by rw[P4,a0E];omega) (P8 (a28 (Array.size_push ..)) (by rw[P4,a0E];omega));have J2:Inv X pins σ H1 { s1 with heap:=s1.heap.update kS (Obj.mapSeq (·.push z)),toks:=s1.toks }:=J1.turned (λb o hb ho=>(T9 s1.heap _ (Ne.symm hb)).trans ho) a1.2 w.loc w.ex w.cel w.pin;exact⟨((y,e2),z),H1,J2.IZ w a1.2 he2 (λv h=>by cases h),r1,q1⟩
  .obtain⟨rfl,zs,H',I',r',q'⟩:=hq;refine a0f (dC F hlp hr hA w JK (by grind) rs (ra.append (.cons r' .nil)) I' q') (λ_ s2 ⟨zs',us',e',H2,hl',h2,h3,h4⟩=>⟨zs',us',e',H2,?_,h2,h3,h4⟩) λ_ _ x=>x;rw[hl',P2,a2r,O1];omega
def rN
  (u:xF X pins D) (v:xF X (pins++[(D,seqObj "list" #[] l)]) kS) (Z:ys.length<64) (o:Vals ys its) (w:Vals zs us) (z:zs=kz.map V.int) (S:kz.length=ys.length)
  (I:Inv X (pins++[(D,seqObj "list" #[] l)]++[(kS,seqObj "list" us.toArray e)]) σ H s) (m:Q (.ref D) (upd H D (.lst ((eW kz).map λi=>ys.getD i .non)))) (hP:∀a,EP X pins σ Q (.ref D) a->P (.done (.ret .none)) a):wpAny (Px X) A (ksk_end D false its.toArray l (.ref kS) us.toArray) P E s:=by
 have W:=o.length;have T:zs.length=kz.length:=by rw[z,u8]
 have L:=w.length;have g:us.length=its.length:=by omega
 unfold ksk_end
 try dsimp only
 simp only[Bool.false_eq_true,if_false];by_cases d:its.toArray.size<2
 .rw[if_pos d,if_pos d];rw[P4]at d;refine f8 (v4 ?_);refine f8 (v4 ?_)
  try dsimp only
  have t:eW kz=List.range its.length:=by unfold eW;rw[if_pos (by omega),show kz.length=its.length by omega]
  rw[t]at m;refine dw u v (by omega) (by grind) (a8 o _) ?_ rfl I m hP;apply a3j.mp;rw[Array.toList_map,ksk_zip,List.map_snd_zip (by grind)];refine a3k (by rw[u8,a0p]) λi q d=>?_;simp[q]
 .rw[if_neg d,if_neg d];rw[P4]at d;subst z;have r:=dB w;refine f8 (a2O (ksk_kind (kz:=kz) (by simpa using r) (by grind)) ?_);have h:(kas_sort its.length).kasWp (kas_ask X.prog X.w A oneType' us) (λp a=>a=s/\p.toList=eW kz) s:=by
   refine rl (P:=(·<kz.length)) (f:=ans (O:=DH) λi=>kz.getD i 0) (J:=λa=>a=s) (λi j C a R N t F=>?_) (λp a q d=>⟨d,q⟩) rfl ?_
   .subst t;obtain⟨Y,l⟩:=ints_get r R;obtain⟨U,G⟩:=ints_get r N;show wpAny _ _ (keyLt' oneType' (us.getD i .none) (us.getD j .none)) _ _ _;rw[l,G];exact oneLt_int (F _ rfl)
   .have:=iK (rA (O:=DH) (key:=λi=>kz.getD i 0) (n:=kz.length) (by omega));rw[show its.length=kz.length by omega];refine y9 (λp ⟨_,b⟩=>?_) this;unfold eW;rw[if_neg (by omega),b]
  refine f8 (a0f (kat_run (ks:=us) (vs:=its) (Q:=λc a=>a=s/\∃p:Array Nat,p.size=its.length/\arrOf c=p.map (kas_item (us.toArray.zip its.toArray))/\failedOf c=none/\p.toList=eW kz) g (by omega) (by omega) (λp c a M B K y=>⟨y.1,p,M,B,K,y.2⟩) h) ?_ λ_ _ x=>x)
  rintro⟨⟨⟩,c⟩ a ⟨rfl,p,hp,har,hf,srt⟩
  try dsimp only
  rw[<- srt]at m;exact dw u v (by omega) (by grind) (a8 o _) (kat_snds g har) hf I m hP
def U1(F:KCs X σ k lp f sp)(hlp:∀p∈lp,p∈pins)(hr:j7 (k+2) X.A)
  (I:Inv X pins σ H s) (hcol:I_ X s l ys) (h:rM sp ys H Q):wpAny (Px X) X.A (call (.builtin "sorted") [.ref l] [(Str.ofString "key",.ref f)]) (EP X pins σ Q) E s:=by
 obtain⟨hy,h⟩:=h;refine call_function_entry_kw kind_sorted plain_sorted entry_sorted (ksk_s1 _ _) ?_;unfold Builtin.«sorted»;refine f8 (m:=checkCount "sorted" 1 1 _) (v4 ?_);refine f8 (a0g (n:=X.m) I.tk<|hcol λh0 tk its ry hk0 hs0 hn=>?_);have hlen:=ry.length;refine f8 (a4d ?_ (by rw[a0E];omega));have I0:Inv X pins σ H { s with heap:=h0,toks:=tk }:=I.kept hk0;have hoL:(h0.push (seqObj "list" its.toArray 0)).get? h0.objs.size=some (seqObj "list" its.toArray 0):=P9 _ rfl;have I1:Inv X pins σ H { s with heap:=h0.push (seqObj "list" its.toArray 0),toks:=tk }:=Inv.kept (s:={ s with heap:=h0,toks:=tk }) I0 λb o q=>O0 _ q;have hs1:(h0.push (seqObj "list" its.toArray 0)).objs.size=h0.objs.size+1:=a39 ..;have w1:xF X pins h0.objs.size:=I0.Nd (H':=H) (O2 _);have n1:H h0.objs.size=none:=I0.hok.fresh (O2 _);show wpAny _ _ _ _ _ { s with heap:=h0.push (seqObj "list" its.toArray 0),toks:=tk };generalize h0.push (seqObj "list" its.toArray 0)=h1 at hoL hs1 I1;generalize hD:h0.objs.size=D at hoL w1 n1 hs1;refine f8 (W1 (wpAny_call_entry_kw slot_list_sort ⟨_,hoL,rfl⟩ entry_list_sort ?body (ksk_l1 _ _)))
 case body=>
  show wpAny (Px X) X.A.in1.in1 (Builtin.«list.sort» ⟨[.ref D],[(Str.ofString "key",.ref f)]⟩) _ _ _;rw[ksk_t1];obtain⟨e1,ho1⟩:∃e1,(h1.update D (Obj.mapSeq λ_=>(#[]:Array Value))).get? D=some (seqObj "list" #[] e1):=⟨_,get?_update_seq hoL λ_=>#[]⟩;have I2:Inv X pins σ H { s with heap:=h1.update D (Obj.mapSeq λ_=>(#[]:Array Value)),toks:=tk }:=Inv.turned (s:={ s with heap:=h1,toks:=tk }) I1 (λb o hb ho=>(T9 h1 _ (Ne.symm hb)).trans ho) n1 w1.loc w1.ex w1.cel w1.pin;have hs2:(h1.update D (Obj.mapSeq λ_=>(#[]:Array Value))).objs.size=D+1:=by rw[Heap.size_update,hs1]
  unfold ksk_tree;refine f8 (listItems_at hoL rfl ?_);refine f8 (a2V hoL rfl ?_ (by rw[P4,a0E];omega) (a0c _));generalize h1.update D (Obj.mapSeq λ_=>(#[]:Array Value))=h2 at ho1 I2 hs2;refine f8 (seqEpoch_at ho1 rfl ?_);refine f8 (wpAny_newTuple ?_ (by show its.length<=_;rw[a0E];omega));refine f8 (a4d ?_ (a0c _));refine W1 ?_;have hk3:(h2.push { cls:=.type "tuple",data:=.seq its.toArray.toList.toArray }).objs.size=D+2:=by rw[a39,hs2]
  have keep3:∀b o,h2.get? b=some o->((h2.push { cls:=.type "tuple",data:=.seq its.toArray.toList.toArray }).push { cls:=.type "list",data:=.seq ([]:List Value).toArray }).get? b=some o:=λb o q=>O0 _ (O0 _ q);have I3:Inv X pins σ H { s with heap:=(h2.push { cls:=.type "tuple",data:=.seq its.toArray.toList.toArray }).push { cls:=.type "list",data:=.seq ([]:List Value).toArray },toks:=tk }:=Inv.kept (s:={ s with heap:=h2,toks:=tk }) I2 keep3;have hoK:((h2.push { cls:=.type "tuple",data:=.seq its.toArray.toList.toArray }).push { cls:=.type "list",data:=.seq ([]:List Value).toArray }).get? (h2.push { cls:=.type "tuple",data:=.seq its.toArray.toList.toArray }).objs.size=some (seqObj "list" ([]:List Value).toArray 0):=P9 _ rfl;have hoD:=keep3 D _ ho1;show wpAny (Px X) X.A.in1.in1 (ksk_rest D (.ref f) false its.toArray e1 (.ref (h2.push { cls:=.type "tuple",data:=.seq its.toArray.toList.toArray }).objs.size)) _ _ { s with heap:=(h2.push { cls:=.type "tuple",data:=.seq its.toArray.toList.toArray }).push { cls:=.type "list",data:=.seq ([]:List Value).toArray },toks:=tk };have w2:xF X (pins++[(D,seqObj "list" #[] e1)]) (h2.push { cls:=.type "tuple",data:=.seq its.toArray.toList.toArray }).objs.size:=by have J:Inv X (pins++[(D,seqObj "list" #[] e1)]) σ H { s with heap:=h2,toks:=tk }:=Inv.IZ (s:={ s with heap:=h2,toks:=tk }) I2 w1 n1 ho1 (λv h=>by cases h);exact J.Nd (H':=H) (by show h2.objs.size<=_;rw[hk3,hs2];omega)
  have n2:H (h2.push { cls:=.type "tuple",data:=.seq its.toArray.toList.toArray }).objs.size=none:=I0.hok.fresh (by rw[hk3];show h0.objs.size<=_;omega);generalize(h2.push { cls:=.type "tuple",data:=.seq its.toArray.toList.toArray }).push { cls:=.type "list",data:=.seq ([]:List Value).toArray }=h3 at I3 hoK hoD;generalize(h2.push { cls:=.type "tuple",data:=.seq its.toArray.toList.toArray }).objs.size=kS at hoK w2 n2;have I4:Inv X (pins++[(D,seqObj "list" #[] e1)]++[(kS,seqObj "list" ([]:List Value).toArray 0)]) σ H { s with heap:=h3,toks:=tk }:=
   Inv.IZ (s:={ s with heap:=h3,toks:=tk }) (Inv.IZ (s:={ s with heap:=h3,toks:=tk }) I3 w1 n1 hoD (λv h=>by cases h)) w2 n2 hoK (λv h=>by cases h)
  unfold ksk_rest;refine f8 (a22 ?_)
  first
   |rw[List.forIn_toArray]
   | (rw[<- a4r];simp only[List.toList_toArray])
   |rw[<- a4r]
  refine f8 (a0f (dC (pins:=pins++[(D,seqObj "list" #[] e1)]) (σ:=σ) (A:=X.A.in1.in1) (E:=E) F (λp hp=>a0A _ (hlp p hp)) hr.in1.in1 rfl w2 (λx s' C hx=>?_) (ys:=ys) (its:=its) (acc:=[]) (us:=[]) (e:=0) (H:=H) (by rw[a2A];omega) ry .nil I4 h) (λ_ s' hd=>?_) λ_ _ x=>x)
  .refine f8 (a1X (a0f hx (λz s'' hz=>?_) λ_ _ hF=>hF.elim))
   try dsimp only
   exact f8 (a0f hz (λ_ s3 h3=>v4 ⟨rfl,h3⟩) λ_ _ hF=>hF.elim)
  .obtain⟨zs,us,e2,H',hzl,rz,I5,kz,hkl,hk3,hq⟩:=hd;have aK:=I5.at1;have aD:=I5.jL.at1
   try dsimp only
   refine f8 (listItems_at aK.1 rfl ?_);exact rN w1 w2 hy ry rz hk3 hkl I5 (hq D aD.2) λs3 he=>⟨_,rfl,v4 ⟨_,rfl,he⟩⟩
end
structure rO(x y:Str)(scope:Scope):Prop where
 kind:scope.kind=.function
 co:scope.isCoroutine=false
 gen:scope.isGenerator=false
 lx:scope.names.lookup x=some .local
 ly:scope.names.lookup y=some .free
 Cf:∀z∈scope.names,z.2≠.cell
 free:∀z,scope.names.lookup z=some .free->z=y
def cxL(CX:CXT)(P:Ox)(w:OE)(K:OL)(mg:Oi)(c:Heap)(N:Oj)(b:Str)(a:Scope)(f:Addr)(cd:Value)(g:OO)(A:OG)(outer:List Env)(s:Om)(H:Hp)(E:XK):Cx where
 prog:=P
 w:=w
 K:=K
 mg:=mg
 base:=c
 A:=A.deeper (envX b a s.heap.objs.size f cd g)
 N:=N
 s₀:=s
 H₀:=H
 env:=envX b a s.heap.objs.size f cd g
 outer:=outer
 stack:=envX b a s.heap.objs.size f cd g::outer
 ex:=[]
 calm:=true
 fn:=λ_=>false
 pn:=[]
 xe:=λe h=>wpAny (model P w) (A.deeper (envX b a s.heap.objs.size f cd g)) (leaving (envX b a s.heap.objs.size f cd g) e) (λ_ d=>CX outer H s E e d) (λi d=>CX outer H s E i d) h
section
variable {CX:CXT}{P:Ox}{w:OE}{K:OA}{mg:Oi}{base:Heap}{k:Nat}{f:Addr}{name qual x y:Str}{params:Arguments}{body:Ot}{scope:Scope}{pm ctv:Value}{c c':Addr}{oc:Obj}{ws:OJ}{tq:Tok}{sp:Sp}
def xU(S:rO x y scope)(hd:oc.data=.fields ws)(hq:ws[1]?=some (.str qual tq))(hbind:∀(s:Om)(u:Value),BindsTo s (kla_fn name qual params body scope [(y,c)] pm (.ref c') ctv) ⟨[u],[]⟩ [(x,u)])
  (JK:∀(A:OG)(outer:List Env)(s:Om)(H:Hp)(vs:Ow)(Q:VK)(E:XK),j7 k (A.deeper (envX qual scope s.heap.objs.size f (.ref c') [(y,c)]))->sp vs H Q E->∃te,PE (cxL CX P w K mg base [x,y] qual scope f (.ref c') [(y,c)] A outer s H E) body te/\te (start [x,y] vs) H Q) (hr:j7 (k+1) A) (e0:ub P w K mg base A outer s H) (hof:s.heap.get? f=some (kla_obj name qual params body scope [(y,c)] pm c' ctv)) (hoc:s.heap.get? c'=some oc) (r:RelV v u)
  (hc:s.heap.IsCell c (some uw)) (rw':RelV vw uw) (hH:H c=none) (hsp:sp [v,vw] H Q E):
  codeAny (model P w) A (.call (.ref f) ⟨[u],[]⟩) (CR CX outer P w H s Q E) s:=by
 have lim:=e0.mod.nolimit.keeps λb o e=>(e0.bs b o e).1;refine kla_callFunE hr.depth hof rfl S.co S.gen rfl ⟨c',oc,ws,tq,rfl,hoc,hd,hq⟩ (hbind s u _ _ _ _ ?_);refine wpAny_newFunctionEnv S.Cf (λz hz=>by rw[T6.mp hz];exact S.lx) (λh₁ hns hsb=>⟨lim.fresh _ hsb,?_⟩) S.kind;have hk₁:=λb o e=>hsb.extBut b o (P1 (O8 e)) (O0 _ e);refine kla_codeExpr ?_;obtain⟨te,ht,q⟩:=JK A outer s H [v,vw] Q E (hr.deeper _) hsp;have noA:∀b:Addr,b∉(cxL CX P w K mg base [x,y] qual scope f (.ref c') [(y,c)] A outer s H E).ex:=λb z=>absurd (show b∈([]:List Addr)from z) (by simp);have cy:∀z a,List.lookup z [(y,c)]=some a->z=y/\a=c:=λz a h=>by
  rw[a0o]at h;split at h
  .rename_i e;cases h;exact⟨eq_of_beq e,rfl⟩
  .cases h
 have hcell:h₁.IsCell c (some uw):=by obtain⟨o,ho,hd⟩:=hc;exact⟨o,hk₁ _ _ ho,hd⟩
 have ly:List.lookup y [(y,c)]=some c:=by simp
 have I:Inv (cxL CX P w K mg base [x,y] qual scope f (.ref c') [(y,c)] A outer s H E) [] (start [x,y] [v,vw]) H { s with heap:=h₁,toks:=s.toks+[(x,u)].length }:=by
  refine⟨⟨e0.mod,S.kind,rfl,rfl,O2 _,λa b d h1 h2=>?_,λa ha=>?_,λa d h _=>absurd h P0,λ_=>hr.hd,a30 e0.frames,.inr ⟨rfl,rfl⟩,λb z=>absurd z (noA b),e0.bs,e0.bsz,λb _ _=>noA b,λb z=>absurd z (noA b),e0.eT,e0.frf⟩,
   rfl,e0.bare,Un.kept hk₁,⟨_,hns,λi a b h1 h2 h3=>?_⟩,λa d h=>?_,e0.hok.fresh (O2 _),λa d h=>?_,λp hp=>absurd (show p∈([]:List (Addr×Obj))from hp) (by simp),e0.hok.kept hk₁,rfl,a0c _⟩
  .rw[(cy a d h1).1,(cy b d h2).1]
  .have ha:=ha;rcases ha with ha|ha
   .exact absurd rfl (S.Cf _ (a01 ha))
   .rw[S.free a ha];exact⟨c,ly⟩
  .match i,h1,h2 with
   |0,h1,h2=>cases h1;cases h2;exact⟨u,r,.inl ⟨S.lx,by simp⟩⟩
   |1,h1,h2=>cases h1;cases h2;exact⟨uw,rw',.inr ⟨.inr S.ly,c,ly,hcell⟩⟩
   |i+2,h1,_=>cases(show([]:List Str)[i]?=some a from h1)
  .rw[(cy a d h).2];exact⟨_,hcell⟩
  .rw[(cy a d h).2];exact hH
 refine a0f (ht [] _ (start [x,y] [v,vw]) H _ I q) (λz s' hs=>?_) λe s' hs=>hs;obtain⟨z',H',J,rz,q'⟩:=hs;exact⟨z',H',J.os,J.bare,J.base,J.hok,rz,q'⟩
end
theorem rP:∀{c:Ow}{a:Oo},a.length=c.length->(∀(i:Nat) v y,a[i]?=some v->c[i]?=some y->RelV y v)->Vals c a
 |[],[],_,_=>.nil
 |y::c,v::a,b,h=>.cons (h 0 v y rfl rfl) (rP (by grind) λi v y d e=>h (i+1) v y d e)
 |[],_::_,b,_=>by cases b
 |_::_,[],b,_=>by cases b
def xV(I:Inv X pins σ H s)(e:SqL X.K H l ys):I_ X s l ys:=λh=>by
 obtain⟨c,d,f,hz⟩:=I.list e;refine collect_list f.isList (h _ s.toks c d (λb o q=>?_) ?_) (by rw[<- d.length];exact hz)
 .have a:=O8 q;rw[a2J _ _ _ _ (P1 a),Heap.get?_push_ne _ _ _ (P1 a)];exact q
 .rw[Heap.size_update,a39];exact a0Y _
def xW(C:X.calm=true)(I:Inv X pins σ H s)(N:Rd H l (.dK es)):I_ X s l (es.map λb=>kV b.1):=λh=>by
 obtain⟨z,P,r,a,o,w,p,M,B,F,K,E,D⟩:=wC I.hok N;have G:=a.length.symm;refine VB (I.ok.hd C) P ⟨o,w,M,B,F,K,E,D⟩ (by omega) λL tk f O g n=>h L tk f.toList (rP ?_ λi v y J q=>?_) O g
 .have:=n.1;simpa[G]using this
 .obtain⟨k,x,m,j⟩:=n.2 i v (by grind);rw[S5]at q;obtain⟨b,c,rfl⟩:=v1.mp q;obtain⟨Q,u⟩:=dg a c;rw[u]at m;cases m;rcases yf j with⟨i,t,e,d⟩|⟨x,t,e,d⟩
  .rw[e,d];exact⟨t,rfl⟩
  .rw[e,d];exact⟨t,rfl⟩
def DI(h:Rd H l u)(a:∀c,u≠.tbl c)(hP:H P=some (.tbl ps)):Rd (upd H P o) l u:=by
 rcases h with h|⟨b,h⟩
 .exact .inl (by rw[zj (λq=>by rw[q,hP]at h;cases h;exact a _ rfl)];exact h)
 .exact .inr ⟨b,by rw[zj (λq=>by rw[q,hP]at h;cases h)];exact h⟩
def DJ(K:OL)(H:Hp)(l:Addr)(ys:Ow):Prop:=SqL K H l ys\/∃a,Rd H l (.dK a)/\ys=a.map λb=>kV b.1
def ba(g:PV->Out PV):List PV->Option (List Int)
 |[]=>some []
 |x::a=>match g x with
  |.ok (.i n)=>(ba g a).map (n::·)
  |_=>none
theorem Xo{g:PV->Out PV}:∀{a:OD}{b:OC},ba g a=some b->b.length=a.length
 |[],_,h=>by cases h;rfl
 |x::a,_,h=>by
  unfold ba at h;split at h
  .obtain⟨c,e,rfl⟩:=v1.mp h;rw[O1,O1,Xo e]
  .cases h
def BF:PV->Option (List PV)
 |.l c=>some c
 |.d a=>some (a.map λb=>kP b.1)
 |_=>none
def rQ(h:Rep W M H x v)(e:BF x=some ys):∃l c,v=.ref l/\DJ W.K H l c/\zX W M H ys c:=by
 cases x with
 |l j=>cases e;obtain⟨l,g,rfl,_,a,b⟩:=h;exact⟨l,g,rfl,.inl (SqL.of a),b⟩
 |d i=>cases e;obtain⟨l,f,rfl,_,a,b⟩:=h;exact⟨l,_,rfl,.inr ⟨f,a,rfl⟩,aU b⟩
 |_=>cases e
def Nf(x y:Str)(a:Scope):Bool:=(match a.kind with | .function=>true|_=>false)&&(!a.isCoroutine&&(!a.isGenerator&&((match a.names.lookup x with|some .local=>true|_=>false)&&((match a.names.lookup y with|some .free=>true|_=>false)&&a.names.all λz=>match z.2 with | .cell=>false | .free=>z.1==y|_=>true))))
def Mu(h:Nf x y sc=true):rO x y sc:=by
 unfold Nf at h;simp only[Bool.and_eq_true,List.all_eq_true]at h;obtain⟨d,g,b,f,c,a⟩:=h;refine⟨?_,by simpa using g,by simpa using b,?_,?_,λz hz e=>?_,λz hz=>?_⟩
 .revert d;cases sc.kind<;>simp
 .split at f<;>simp_all
 .split at c<;>simp_all
 .have:=a z hz;rw[e]at this;cases this
 .have:=a _ (a01 hz);exact eq_of_beq this
def Hf(b:sc.names=[(x,.local),(y,.free)])(h:env.cells.lookup y=some a):closureFor sc env=pure [(y,a)]:=by unfold closureFor cellOf;rw[b];simp[h]
def Inv.Mv(I:Inv X pins σ H s)(hP:H P=some (.tbl ps))(i:s.heap.objs.size<=c')(k:∀b u,b≠P->s.heap.get? b=some u->h'.get? b=some u)(p:h'.get? P=some { cls:=.none,data:=.fields (ps++more) })(h:h'.get? c'=some oc)(x:X.m<=t':=by ac_rfl):Inv X pins σ (upd (upd H P (.tbl (ps++more))) c' (.frz oc (.own c'))) { s with heap:=h',toks:=t' }:=by
 have j:∀b,H b=none->b≠P:=λb n q=>by rw[q,hP]at n;cases n
 have g:∀b u,H b=some u->(∀a,u≠.tbl a)->b≠P:=λb u e n q=>by rw[q,hP]at e;cases e;exact n _ rfl
 have r:∀b o,s.heap.get? b=some o->b≠c':=λb o e q=>absurd (O8 e) (by grind);have m:∀b u,H b=some u->b≠c':=λb u e q=>by rw[q,I.hok.fresh i]at e;cases e
 have f:∀b u,H b=some u->(∀a,u≠.tbl a)->upd (upd H P (.tbl (ps++more))) c' (.frz oc (.own c')) b=some u:=λb u e n=>by rw[zj (m b u e),zj (g b u e n)];exact e
 refine I.un ⟨λb o e n _ _=>k b o (j b n) e,λb o e n _ _=>⟨o.slots,k b o (j b n) e⟩,λb o e n _=>by rw[zj (r b o e),zj (j b n)];exact n,λb o e _=>?_,λb t e=>f b _ e (λa z=>by cases z),λb o u e=>f b _ e (λa z=>by cases z),λb a e=>?_⟩ λb u e=>?_
 .by_cases c:b=P
  .rw[c];exact⟨_,p⟩
  .exact⟨o,k b o c e⟩
 .have n:=m b _ e;by_cases c:b=P
  .rw[c,hP]at e;cases e;exact⟨more,by rw[zj n,c];exact zh⟩
  .exact⟨#[],by rw[zj n,zj c,e];simp⟩
 .by_cases l:b=c'
  .rw[l,zh]at e;cases e;rw[l];exact⟨h,_,h⟩
  .rw[zj l]at e;by_cases c:b=P
   .rw[c,zh]at e;cases e;rw[c];exact p
   .rw[zj c]at e;refine(I.hok b u e).m6 (λd v w q=>k d v ?_ q) (λd q=>f d _ q (λa z=>by cases z)) λd t q=>f d _ q (λa z=>by cases z);rcases w with z|z
    .rw[z];exact c
    .exact g d _ z λa y=>by cases y
def spM(sp:Sp)(b:V)(a:Addr)(d:Obj):Sp:=λc H Q E=>H a=some (.frz d (.own a))/\sp (c++[b]) H Q E
def rR{X:Cx}{σ:St}{i:Nat}{vw:V}(S:rO x y scope)(hd:oc.data=.fields ws)(hq:ws[1]?=some (.str qual tq))(hbind:∀(s:Om)(u:Value),BindsTo s (kla_fn name qual params body scope [(y,c)] pm (.ref c') ctv) ⟨[u],[]⟩ [(x,u)])
  (JK:∀(A:OG)(outer:List Env)(s:Om)(H:Hp)(vs:Ow)(Q:VK)(E:XK),j7 k (A.deeper (envX qual scope s.heap.objs.size f (.ref c') [(y,c)]))->sp vs H Q E->∃te,PE (cxL (CXe X.prog X.w) X.prog X.w X.K X.mg X.base [x,y] qual scope f (.ref c') [(y,c)] A outer s H E) body te/\te (start [x,y] vs) H Q)
  (hN:X.N[i]?=some y) (hσ:σ[i]?=some (some vw)) (hy:X.env.scope.names.lookup y=some .cell) (hcy:X.env.cells.lookup y=some c):
  KCs X σ (k+1) [(f,kla_obj name qual params body scope [(y,c)] pm c' ctv)] f (spM sp vw c' oc):=λhlp hr hA I r h=>by
 have p1:=I.pin _ (R4 _ (hlp _ O7));obtain⟨m,hm,hl⟩:=I.loc;obtain⟨uw,ru,lk⟩:=hl i y vw hN hσ (.inr (.inl hy));have hc:= (lk.elim (λ⟨z,_⟩=>by have z:X.env.scope.names.lookup y=some .local:=z;rw[hy]at z;cases z) λ⟨_,c2,e2,h2⟩=>by rw[hcy]at e2;cases e2;exact h2:(_:Heap).IsCell c (some uw));refine a1i (a2X I.tk<|a03 (xU S hd hq hbind JK hr hA p1.1 (I.hok c' _ h.1).1 r hc ru (I.QA y c hcy) h.2) λr s' hq hn=>?_);cases r with
 |error e=>exact(di hq).elim
 |ok fl=>
  cases fl with
  |ret u=>exact I.after hq
  |next=>exact False.elim hq
  |brk=>exact False.elim hq
  |cont=>exact False.elim hq
def DK{K:OL}{H:Hp}{b l:Addr}{o:HO}{ys:Ow}(h:DJ K H l ys)(f:H b=none):DJ K (upd H b o) l ys:=by
 have a:∀u,H l=some u->l≠b:=λu e q=>by rw[q,f]at e;cases e
 rcases h with h|⟨d,h,e⟩
 .rcases h with h|h
  .rcases h with h|⟨c,h⟩
   .exact .inl (.inl (.inl (by rw[zj (a _ h)];exact h)))
   .exact .inl (.inl (.inr ⟨c,by rw[zj (a _ h)];exact h⟩))
  .exact .inl (.inr h)
 .rcases h with h|⟨c,h⟩
  .exact .inr ⟨d,.inl (by rw[zj (a _ h)];exact h),e⟩
  .exact .inr ⟨d,.inr ⟨c,by rw[zj (a _ h)];exact h⟩,e⟩
section
variable {X:Cx}{k i:Nat}{c P:Addr}{params:Arguments}{body e:Ot}{scope:Scope}{lpos p pos kpos:Pos}{x y:Str}{sp:Sp}{t:TA}
def rS:codeAmong lpos [rawInt lpos.line,rawInt lpos.col,v]=some v:=by unfold codeAmong rawInt;simp
def xX(hca:X.calm=true)(hcd:X.env.code=.ref c)(hC:CodeHd X.base c P)(hB:X.base.BuiltinsAt X.mg P)(hgP:mainGlobals≠P)(hcl:∀a,X.env.cells.lookup y=some a->closureFor scope X.env=pure [(y,a)])(hdf:defaultsOf params X.env=([],[]))(S:rO x y scope)
    (hN:X.N[i]?=some y) (hy:X.env.scope.names.lookup y=some .cell)
    (C:∀(pm:Value)(a d:Addr)(g:Value)(s:Om)(u:Value),BindsTo s (kla_fn "<lambda>" (X.env.qual++"<lambda>") params body scope [(y,a)] pm (.ref d) g) ⟨[u],[]⟩ [(x,u)])
    (JK:∀(f a d:Addr)(A:OG)(j:List Env)(s:Om)(H:Hp)(J:Ow)(Q:VK) (E:XK),j7 k (A.deeper (envX (X.env.qual++"<lambda>") scope s.heap.objs.size f (.ref d) [(y,a)]))->sp J H Q E->∃te,PE (cxL (CXe X.prog X.w) X.prog X.w X.K X.mg X.base [x,y] (X.env.qual++"<lambda>") scope f (.ref d) [(y,a)] A j s H E) body te/\te (start [x,y] J) H Q)
    (hr:j7 (k+1+2) X.A) (hg:Gl X "sorted") (hm:X.mg "sorted"=none) (ha:PA X [e] t)
    (he1:backTo pos (starEach [e] X.env)=(false,eval e X.env)::backTo pos (starEach [] X.env):=by rfl) (hpl:(backTo pos (starEach [e] X.env)).any (·.1)=false:=by rfl):
    PE X (.Call (.Name "sorted" p) [e] [⟨some "key",.Lambda params body scope lpos,kpos⟩] pos) (λT H Q=>t T H λJ G=>∃vw l W ps,T[i]?=some (some vw)/\J=[.ref l]/\DJ X.K G l W/\G P=some (.tbl ps)/\
      ((ps = #[]/\∀d D ws t,D.data=.fields ws->ws[1]?=some (.str (X.env.qual++"<lambda>") t)->G d=none->d≠P->rM (spM sp vw d D) W (upd (upd G P (.tbl #[rawInt lpos.line,rawInt lpos.col,.ref d])) d (.frz D (.own d))) Q)\/
       (∃d D ws t,ps = #[rawInt lpos.line,rawInt lpos.col,.ref d]/\G d=some (.frz D (.own d))/\D.data=.fields ws/\ws[1]?=some (.str (X.env.qual++"<lambda>") t)/\rM (spM sp vw d D) W G Q))):=by
  intro F s T H Q I h;refine a1n (WS I hg hm a4A ?_ (by decide) (by decide));refine callWith_kw (thn (ha pos F s T H _ I h) λus R ⟨J,G,r,r1,vw,l,W,ps,hσ,hv,N,hP,m⟩=>?_) he1 hpl;subst hv;obtain⟨u,rfl,ru⟩:=vals1 r1;cases ru;obtain⟨a,L⟩:=r.ok.has y (.inl hy);have kp:=r.bk;have hBk:R.heap.BuiltinsAt X.mg P:=by obtain⟨bm,o,b1,b2,b3,b4,b5,b6⟩:=hB;exact⟨bm,o,b1,b2,b3,b4,kp _ _ b5,b6⟩
  have O:=O8 (r.hok P _ hP);have col:∀{Z:Oh}{H':Hp}{s':Om},DJ X.K H' l W->Inv X Z T H' s'->I_ X s' l W:=λN I=>by
    rcases N with N|⟨es,U,rfl⟩
    . exact xV I N
    . exact xW hca I U
  rcases m with⟨rfl,m⟩|⟨d,D,ws,tq,rfl,hc',hd,M,m⟩
  . refine a4s (f8 (kla_eval hdf (a0g r.tk<|kla_makeFunction (hcl a L) r.ok.glob (r.mod.glob.keeps kp) hcd (hC.keeps kp) (r.hok P _ hP) trivial rfl hgP hBk λd g B tk hx K hlt hrec hT hn=>?_)))
    refine f8 (a1G (v4 (v4 ?_)));obtain⟨c2,D,ws,tq,e2,hoc,hd,M⟩:=hrec;cases e2;have hTn:∀b u,b≠P->R.heap.get? b=some u->(B.push (kla_obj "<lambda>" (X.env.qual++"<lambda>") params body scope [(y,a)] ((X.mg "__name__").getD .none) d g)).get? b=some u:=λb u n q=>O0 _ (hx b u n q);have cP:d≠P:=a0B (R8 O K);have hc0:=r.hok.fresh K;have I2:=r.Mv hP K hTn (O0 _ hT) (O0 _ hoc);have I3:Inv X (F++[(B.objs.size,kla_obj "<lambda>" (X.env.qual++"<lambda>") params body scope [(y,a)] ((X.mg "__name__").getD .none) d g)]) T _ _:=I2.K4 λq m=>by
      rcases a0q.mp m with m|m
      . exact I2.pin q (R4 _ m)
      . rw[T6.mp m]
        have w:=a1k (a1o K hlt);exact⟨P9 _ rfl,by rw[zj (a0B hlt),zj (a0B (R8 O w))];exact r.hok.fresh w,a0B (R8 r.lt w),r.Lg w,λv z=>by cases z⟩
    have hl3:DJ X.K (upd (upd G P (.tbl #[rawInt lpos.line,rawInt lpos.col,.ref d])) d (.frz D (.own d))) l W:=DK (by
      rcases N with N|⟨es,U,e⟩
      . exact .inl (Dz N hP)
      . exact .inr ⟨es,DI U (λqs z=>by cases z) hP,e⟩) (by rw[zj cP];exact hc0)
    refine a0f (U1 (rR S hd M (C _ a d g) (λA j s H J Q E=>JK B.objs.size a d A j s H J Q E) hN hσ hy L) (λq m=>R4 _ m) hr I3 (col hl3 I3) (m d D ws tq hd M hc0 cP)) (λz s3 ⟨y,H3,I4,ry,q4⟩=>⟨y,H3,I4.jL,ry,q4⟩) λ_ _ z=>z
  . refine a4s (f8 (kla_eval hdf (a0g r.tk<|kla_makeFunctionHit (hcl a L) r.ok.glob (r.mod.glob.keeps kp) hcd (hC.keeps kp) (r.hok P _ hP) trivial rS hBk λg B tk hk Y hn=>?_)))
    refine f8 (a1G (v4 (v4 ?_)));have hk2:∀b u,R.heap.get? b=some u->(B.push (kla_obj "<lambda>" (X.env.qual++"<lambda>") params body scope [(y,a)] ((X.mg "__name__").getD .none) d g)).get? b=some u:=λb u q=>O0 _ (hk b u q);have I2:=r.un (Un.kept hk2) (r.hok.kept hk2);have I3:Inv X (F++[(B.objs.size,kla_obj "<lambda>" (X.env.qual++"<lambda>") params body scope [(y,a)] ((X.mg "__name__").getD .none) d g)]) T _ _:=I2.K4 λq m=>by
      rcases a0q.mp m with m|m
      . exact I2.pin q (R4 _ m)
      . rw[T6.mp m]
        exact⟨P9 _ rfl,r.hok.fresh Y,a0B (R8 r.lt Y),r.Lg Y,λv z=>by cases z⟩
    refine a0f (U1 (rR S hd M (C _ a d g) (λA j s H J Q E=>JK B.objs.size a d A j s H J Q E) hN hσ hy L) (λq m=>R4 _ m) hr I3 (col N I3) m) (λz s3 ⟨y,H3,I4,ry,q4⟩=>⟨y,H3,I4.jL,ry,q4⟩) λ_ _ z=>z
end
def U2(G:AH):HV->Option (List PV)
 |.v x=>BF x
 |.g k=>(match G[k]? with
  |some (.l a)=>iy a
  |_=>none)
 |_=>none
def U3(h:HH Z A H G)(r:ZD Z.W (HM Z A G.length) A G.length H x v)(e:U2 G x=some ys):∃l a,v=.ref l/\DJ Z.W.K H l a/\zX Z.W (HM Z A G.length) H ys a:=by
 cases x with
 |v x=>exact rQ r e
 |t b=>cases e
 |g k=>
  obtain⟨_,rfl⟩:=r;have e:(match G[k]? with|some (.l b)=>iy b|_=>none)=some ys:=e;split at e
  .rename_i b c;obtain⟨a,d,q⟩:=h.cell k _ c;exact⟨_,a,rfl,.inl (SqL.of d),Kc e q⟩
  .cases e
def DL(g:OB)(w:PV)(ys:OD):Option PV:=if ys.length<64 then(ba (λa=>g [a,w]) ys).map λb=>.l ((eW b).map λi=>ys.getD i .n)else none
def dD(b f:Nat)(e:Str)(g:OB)(i:Nat)(ms:HMA):HME:=λd G=>(ms d G).bind λh a=>match h,d[i]? with
 |[x],some (some (.v w))=>(match(U2 a x).bind (DL g w),a[(0:Nat)]? with
  |some z,some (.y true)=>.ok (.v z) (a.set 0 (.m b f e))
  |some z,some (.m l c q)=>if l=b/\c=f/\q=e then .ok (.v z) a else .wall
  |_,_=>.wall)
 |_,_=>.wall
theorem bb{W:RC}{M:Ol}{g:OB}{w:PV}{vw:V}{c':Addr}{oc:Obj}{Q:List V->Hp->Prop}:∀{xs:OD}{vs acc:Ow}{H:Hp}{kz:OC},zX W M H xs vs->Rep W M H w vw->H c'=some (.frz oc (.own c'))->ba (λx=>g [x,w]) xs=some kz->(∀H',zF H H'->Q (acc++kz.map V.int) H')->rB (spM (lsp W false [true,true] g) vw c' oc) vs acc H Q
 |[],_,acc,H,kz,hr,hw,hc,hk,q=>by cases hr;cases hk;have:=q H (zF.refl _);rw[a25,a0h]at this;exact this
 |x::xs,_,acc,H,kz,hr,hw,hc,hk,q=>by
  obtain⟨v,r,rfl,h1,h2⟩:=hr;unfold ba at hk;split at hk
  .rename_i n hg;obtain⟨ks,e,rfl⟩:=v1.mp hk;refine⟨hc,M,[x,w],⟨x,v,[w],[vw],rfl,rfl,(by exact h1.weak),w,vw,[],[],rfl,rfl,(by exact hw.weak),rfl,rfl⟩,?_⟩;rw[hg];intro z H2 s hz;unfold RtV at hz;cases hz;refine bb (h2.same s) (hw.same s) (s _ _ hc) e λH' s'=>?_;have:=q H' (s.trans s');rw[a0H];exact this
  .cases hk
def xY(hca:X.calm=true)(hcd:X.env.code=.ref c)(T:uk X.base X.mg c P)(hP:W.cls 1000=P)(hcl:∀a,X.env.cells.lookup y=some a->closureFor scope X.env=pure [(y,a)])(hdf:defaultsOf params X.env=([],[]))(S:rO x y scope)
  (hN:X.N[i]?=some y) (hy:X.env.scope.names.lookup y=some .cell)
  (Y:∀(pm:Value)(a b:Addr)(ctv:Value)(s:Om)(u:Value),BindsTo s (kla_fn "<lambda>" (X.env.qual++"<lambda>") params body scope [(y,a)] pm (.ref b) ctv) ⟨[u],[]⟩ [(x,u)])
  (JK:∀(f a b:Addr)(A:OG)(outer:List Env)(s:Om)(H:Hp)(vs:Ow)(Q:VK) (E:XK),j7 k (A.deeper (envX (X.env.qual++"<lambda>") scope s.heap.objs.size f (.ref b) [(y,a)]))->lsp W false [true,true] g vs H Q E->∃te,PE (cxL (CXe X.prog X.w) X.prog X.w X.K X.mg X.base [x,y] (X.env.qual++"<lambda>") scope f (.ref b) [(y,a)] A outer s H E) body te/\te (start [x,y] vs) H Q)
  (hr:j7 (k+1+2) X.A) (hg:Gl X "sorted") (hm:X.mg "sorted"=none) (ha:HA X W E [e] ms)
  (he1:backTo pos (starEach [e] X.env)=(false,eval e X.env)::backTo pos (starEach [] X.env):=by rfl) (hpl:(backTo pos (starEach [e] X.env)).any (·.1)=false:=by rfl):
  HE X W E (.Call (.Name "sorted" p) [e] [⟨some "key",.Lambda params body scope lpos,kpos⟩] pos) (dD lpos.line lpos.col (X.env.qual++"<lambda>") g i ms):=λhK=>by
 obtain⟨ta,a1,a2⟩:=ha hK;refine⟨_,xX hca hcd T.hd T.bl T.ne hcl hdf S hN hy Y JK hr hg hm a1 he1 hpl,λZ hZ A H σ ρ G R Q q=>a2 Z hZ A H σ ρ G R _ (HPx.bind q λxs J H1 K U g1 M vs rs=>?_)⟩;subst hZ;split at M
 rotate_left
 .exact M.elim
 rename_i x0 w hw;obtain⟨v,r,rfl,hv,hr'⟩:=rs;cases hr';obtain⟨vw,hσ,rw0⟩:=R.var i _ hw;have rw1:= (rw0.gro g1);have sc:∀{z:PV},(U2 K x0).bind (DL g w)=some z->∃j F,U2 K x0=some j/\j.length<64/\ba (λa=>g [a,w]) j=some F/\z=.l ((eW F).map λi=>j.getD i .n):=λC=>by
  obtain⟨j,m,hs⟩:=S7.mp C;unfold DL at hs;by_cases D:j.length<64
  rotate_left
  .rw[if_neg D]at hs;cases hs
  rw[if_pos D]at hs;obtain⟨F,d,rfl⟩:=v1.mp hs;exact⟨j,F,m,D,d,rfl⟩
 split at M
 .rename_i z C I;obtain⟨j,F,m,D,d,rfl⟩:=sc C;obtain⟨l,N,rfl,h,rr⟩:=U3 U hv m;obtain⟨e1,ps,e2,e3⟩:=U.cell 0 _ I;have e3:=e3 rfl;subst e3;have hk0:=(P5.mp I).1;rw[hP]at e1;have B:N.length=j.length:=(zX.len rr).symm▸rfl;refine⟨vw,l,N,#[],hσ,rfl,by rw[hK];exact h,by rw[<- e1];exact e2,.inl ⟨rfl,λb oc ws t hd hqn hc0 L=>?_⟩⟩;rw[<- e1]at L ⊢;have sc0:zF H1 (upd H1 b (.frz oc (.own b))):=zF.upd hc0;have hcomm:upd (upd H1 (J 0) (.tbl #[rawInt lpos.line,rawInt lpos.col,.ref b])) b (.frz oc (.own b))=upd (upd H1 b (.frz oc (.own b))) (J 0) (.tbl #[rawInt lpos.line,rawInt lpos.col,.ref b]):=uR (Ne.symm L);rw[hcomm];have h1':=U.keep sc0;have e2':=sc0 _ _ e2;have g2:=h1'.frw (o:=.tbl #[rawInt lpos.line,rawInt lpos.col,.ref b]) hk0 e2' id;have h2:=h1'.write (c:=.m lpos.line lpos.col (X.env.qual++"<lambda>")) hk0 e2' id ⟨e1.trans hP.symm,_,zh,b,oc,ws,t,rfl,by rw[zj L];exact zh,hd,hqn⟩;have hgl:(K.set 0 (.m lpos.line lpos.col (X.env.qual++"<lambda>"))).length=K.length:=a0i ..;have g3:=(Gro.same sc0).trans g2;have rr2:=zX.gen g3.fr g3.sM rr;have rw2:=Rep.gen g3.fr g3.sM rw1;refine⟨by omega,bb rr2 rw2 (by rw[zj L];exact zh) d λH' s=>⟨F,by rw[Xo d,B],by rw[a1J],λa ha=>?_⟩⟩;have O:=zF.upd (o:=.lst ((eW F).map λi=>N.getD i .non)) ha;have h3:=(h2.keep s).keep O;refine M J _ h3 (by rw[hgl];exact g3.trans (Gro.same (s.trans O))) (.ref a) ?_;rw[hgl];have nw:=(h2.keep s).new a ha;rw[hgl]at nw;exact⟨a,_,rfl,nw,zh,zX.same ((rr2.same s).rC _) O⟩
 .rename_i z l0 c0 q0 C I;split at M
  rotate_left
  .exact M.elim
  rename_i hlc;obtain⟨rfl,rfl,rfl⟩:=hlc;obtain⟨j,F,m,D,d,rfl⟩:=sc C;obtain⟨l,N,rfl,h,rr⟩:=U3 U hv m;obtain⟨e1,ps,e2,b,oc,ws,t,rfl,hc',hd,hqn⟩:=U.cell 0 _ I;rw[hP]at e1;have B:N.length=j.length:=(zX.len rr).symm▸rfl;refine⟨vw,l,N,_,hσ,rfl,by rw[hK];exact h,by rw[<- e1];exact e2,.inr ⟨b,oc,ws,t,rfl,hc',hd,hqn,by omega,bb rr rw1 hc' d λH' s=>⟨F,by rw[Xo d,B],by rw[a1J],λa ha=>?_⟩⟩⟩;have O:=zF.upd (o:=.lst ((eW F).map λi=>N.getD i .non)) ha;have h3:=(U.keep s).keep O;exact M J _ h3 (Gro.same (s.trans O)) (.ref a) ⟨a,_,rfl,(U.keep s).new a ha,zh,zX.same ((rr.same s).rC _) O⟩
 .exact M.elim
def La(m c:HME):HME:=λa G=>(m a G).bind λx e=>(c a e).bind λy b=>match x,y with
 |.v (.l d),.v (.i n)=>.ok (.g b.length) (b++[.l ((Uc d none (some n)).map .v)])
 |_,_=>.wall
def Hg(h:HE X W E e m)(B:HE X W E hi mh):HE X W E (.Subscript e (.Slice none (some hi) none p2) pos) (La m mh):=λw=>by
 obtain⟨te,O,D⟩:=h w;obtain⟨th,K,P⟩:=B w;refine⟨_,ax nZ O nU (nV K),λZ t A H p j G R Q q=>D Z t A H p j G R _ (HPx.bind q λx T J U L I M v N=>P Z t T J p j U (R.gro L I) _ (HPx.bind M λy r d f Y F g u C=>?_))⟩;split at g
 rotate_left
 .exact g.elim
 rename_i o n;cases C;obtain⟨l,s,rfl,_,S,z⟩:= (N.gro F);refine⟨n,rfl,l,s,rfl,SqL.of S,λa b=>?_⟩;refine fT (c:=.l ((Uc o none (some n)).map .v)) Y (zF.upd b) b ⟨_,zh,?_⟩ g;have i:Gro Z r f.length d (exA r f.length a) (f.length+1) (upd d a (.lst (nW s none (some n)))):=Gro.ext (zF.upd b) b;exact rL (zX.gen i.fr i.sM z.cut)
def rT{X:Cx}{st:OY}{r:ON}{i g:TSx}(m:PSx X st i)(n:CC X r g):CC X (st::r) (λD Z b H=>i { nx:=λc d=>c=b/\g D Z b d,rt:=D.rt } Z b H):=by
 intro a s b H D Z I h;refine a2n (thn (m a s b H _ Z I h) λf j q=>?_);cases f with
 |next=>obtain⟨c,d,l,e,q⟩:=q;subst e;exact n a j _ d D Z l q
 |ret v=>exact q
 |brk=>obtain⟨_,_,_,z⟩:=q;exact z.elim
 |cont=>obtain⟨_,_,_,z⟩:=q;exact z.elim
section
variable {X:Cx}{C:LC}{S S' S2 Sb Sc:Og}{e:Ot}{es:Oq}{ws:Ou}{ms:MA}{pos p pos':Pos}{x:Str}{k:Nat}{f:Addr}{fd:OH}{ps:Oj}{fr:Bool}{g:OB}{m1 m2:MS}
def mF(d:zF H H1)(q:pG C B S S' P H D Z o):pG C B S S' P H1 D Z o:=by
 cases o with
 |exc c fs=>exact λe b es a s=>q e b es a (d.trans s)
 |wall=>exact q
 |ok f=>cases f<;>exact q
def xZ(F:qz X.prog X.w X.K X.mg X.base (CXe X.prog X.w) k f fd ps (lsp C.W fr ws g))(u:j7 k X.A)(J:Gl X x)(I:X.mg x=some (.ref f))(T:keepIn X.K (.ref f)=true)(W:Binds X.K fd ps [])
  (A:AM X.nox C.nox S ws (e::es) ms) (n:XM X C S S' r m2) (U:swapsWith (.Call (.Name x p) (e::es) [] pos) none pos'.line X.env=pure false:=by rfl)
  (o:(x==("__debug__":Str))=false:=by decide) (he:starEach (e::es) X.env=(false,eval e X.env)::starEach es X.env:=by rfl) (hpl:(backTo pos (starEach es X.env)).any (·.1)=false:=by rfl):
  XM X C S S' (.Expr (.Call (.Name x p) (e::es) [] pos) pos'::r) (zZ (QG (QE g ms)) m2):=λz=>by
 obtain⟨ta,O,G⟩:=A z;obtain⟨t2,L,Q⟩:=n z;refine⟨_,rT (gZ (aC F u J I T W O o he hpl) U) L,λB P H w b R D Z q=>G B P H w b R _ ?_⟩;unfold zZ QG QE at q;revert q;cases ms b with
 |exc c fs=>exact λq=>q.elim
 |wall=>exact id
 |ok l=>
  intro q vs Y h M;have t:=R.keep h;refine⟨_,l,M.args,?_⟩;revert q;show pG C B S S' P H D Z (((g l).bind λ_=>Out.ok (Fw.nx b)).bind _)->_;cases g l with
  |ok r=>exact λq v d s u=>⟨rfl,Q B P d w b (t.keep s) D Z (mF (h.trans s) q)⟩
  |exc c fs=>exact λq e E es d s N n K=>q e E es d (h.trans s) N n (K.sub λa m _=>Bo t m)
  |wall=>exact id
def Mw(K:OL)(F:Addr)(d:TSx)(ts:Addr->TS):TS:=λD a H=>
 d D (λv o b=>∃e C c,v=.ref e/\o=some c/\b e=some (XC e C c)/\Catch K C F true/\ts e { nx:=λ_ _=>False,rt:=D.rt } a b) a H
def DM(d:Own X)(hb:CC X body tb)(Q:Gl X cx)(O:X.mg cx=some (.ref F))(hs:∀e,PSs (X.held (.ref e)) (c::suite) (ts e))
  (n:(cx==("__debug__":Str))=false:=by decide):PS X (.Try body [.ExceptHandler (some (.Name cx np)) none (c::suite) hp] [] [] pos) (Mw X.K F tb ts):=by
 intro a s E H D I h;refine wpAny_Try_except (a0f (hb a s E H D _ I h) (λf r q=>?_) λv r q=>?_)
 .cases f with
  |next=>exact a1I q
  |ret u=>exact q
  |brk=>exact q
  |cont=>exact q
 .obtain⟨H',e,C,N,rfl,A,fl,e',Y,dx',L,U,R,Z,q⟩:=q;cases L;cases U;refine WA d A.ok.frames A fl λTn h2 I2 b2=>?_;refine Jo I2 zh b2 λh3 b G=>?_;rw[qD]at b G;have P:∀(h:Heap),Inv X a E (upd H' e (XO e C (some N) (.ref Tn))) { r with heap:=h }->∃o,h.get? e=some o/\o.cls=.ref Y:=λh I'=>by have J:=I'.W4 zh;rw[qD]at J;obtain⟨t,T,sl,m⟩:=XC.get (J.hok e _ R);exact⟨_,m,rfl⟩
  refine a2K (a2v ?_) (λz=>by cases z);refine Jm (b.held _) Q O ?_ n;obtain⟨o,m,l⟩:=P _ b;refine(Zv b.kIn m l Z).here ?_;refine a3K ?_;refine Jo b zh G λh4 B b4=>?_;rw[qD]at B b4;have w:=(B.W4 zh).held (.ref e);rw[qD]at w;refine a0f (hs e a _ _ _ _ w q) (λf s6 z=>?_) λ_ _ z=>False.elim z;cases f with
  |ret u=>obtain⟨v,M,K,I6,rv,W⟩:=z;exact⟨v,_,K,I6.oq I.ok,rv,W⟩
  |next=>obtain⟨_,_,_,z⟩:=z;exact False.elim z
  |brk=>obtain⟨_,_,_,z⟩:=z;exact False.elim z
  |cont=>obtain⟨_,_,_,z⟩:=z;exact False.elim z
def f7(cs:Og)(m1 m2:MS):MS:=λb=>match m1 b with
 |.ok (.nx a)=>.ok (.nx a)
 |.ok (.rt x)=>.ok (.rt x)
 |.ok (.bk _)=>.wall
 |.ok (.ct _)=>.wall
 |.exc c _=>if c∈cs then(match m2 b with
  |.ok (.rt x)=>.ok (.rt x)
  |_=>.wall)else .wall
 |.wall=>.wall
def DN(l:Own X)(J:XM X C S S' body m1)(v:Gl X cx)(u:X.mg cx=some (.ref F))
  (I:∀e,SsM (X.held (.ref e)) C S S2 [] [] (b₀::suite) m2) (h:∀c∈cs,Catch X.K (C.W.cls c) F true) (m:(cx==("__debug__":Str))=false:=by decide):
  SM X C S S' Sb Sc (.Try body [.ExceptHandler (some (.Name cx np)) none (b₀::suite) hp] [] [] pos) (f7 cs m1 m2):=λn=>by
 obtain⟨M,E,t⟩:=J n;have a:=λe=>I e n;refine⟨_,DM l E v u (λe=>(a0j (a e)).1) m,λB P H G d R D q=>t B P H G d R D _ ?_⟩;unfold f7 at q;revert q;cases m1 d with
 |wall=>exact id
 |ok fl=>
  cases fl with
  |nx b=>exact id
  |rt x=>exact id
  |bk b=>exact id
  |ct b=>exact id
 |exc c fs=>
  intro q e r es o s z L K;have q:wH C B S' Sb Sc D (if c∈cs then(match m2 d with
   |.ok (.rt x)=>.ok (.rt x)
   |_=>.wall)else .wall):=q
  split at q
  .rename_i w;refine⟨e,_,r,rfl,rfl,z,h c w,(a0j (a e)).2 B P o _ _ (R.keep s) _ ?_⟩;split at q
   .rename_i x A;rw[A];exact q
   .exact q.elim
  .exact q.elim
end
section
variable {prog:Ox}{w:OE}{K:Type}[DecidableEq K] {knd:KeyKind prog w K}{A:OG}{E:Of}{s:Om}{a b:Addr}
def mG(c:x.scannable=true)(h:Q true s):wpAny (model prog w) A (Builtin.Frozenset.quietEq x) Q E s:=by cases x<;>first|exact v4 h|cases c
def bc
  (n:s.heap.get? a=some o) (m:o.data=.set es ep t) (hf:t.fits es.size=true) (i:s.heap.get? b=some o') (j:o'.data=.set es' ep' t') (d:t'.fits es'.size=true)
  (p:∀e∈es.toList,e.2.scannable=true) (q:∀e∈es'.toList,e.2.scannable=true) (h:Q es.toList s):wpAny (model prog w) A (Builtin.Frozenset.walkUnseen a b) Q E s:=by
 refine f8 (a1e n m hf ?_);refine f8 (a1e i j d ?_);refine f8 ?_;refine a1D _ (λrest b f=>b.1=none/\f=s/\∀e∈rest,e.2.scannable=true) _ ?_ ?_ _ _ ⟨rfl,rfl,λe g=>(a0q.mp g).elim (p e) (q e)⟩
 .rintro x rest b f ⟨c,rfl,l⟩
  refine f8 (mG (l x O7) ?_);simp only[↓reduceIte];exact v4 ⟨rfl,rfl,λe g=>l e (O6 _ g)⟩
 .rintro ⟨u,r⟩ f ⟨c,rfl,_⟩
  subst c;exact v4 h
def f9{nm:String}{S T:K->Bool}{n m:Nat}{Q:Pp}(hS:s.heap.SetOf knd a S n)(P:s.heap.SetOf knd b T m)
  (h:∀r:Bool,(r=true↔n<=m/\∀k,S k=true->T k=true)->Q r s):wpAny (model prog w) A (Builtin.Frozenset.subsetOf nm a b) Q E s:=by
 obtain⟨o,Z,ep,t,G,X,F,u,g,hbd,hf,Y⟩:=id hS;obtain⟨o',es',ep',t',v,R,C,B,J,U,l,O⟩:=id P;unfold Builtin.Frozenset.subsetOf Builtin.Frozenset.sizeOf;refine f8 (f8 (a1e G F hf (v4 ?_)));refine f8 (f8 (a1e v C l (v4 ?_)));rw[Y,O];by_cases c:n>m
 .rw[if_pos c];exact v4 (h false ⟨λz=>(by cases z),λz=>absurd z.1 (by omega)⟩)
 rw[if_neg c];refine f8 (wpAny_setEpoch_of G F hf ?_);refine f8 (bc G F hf v C l (λe d=>(u e d).2) (λe d=>(B e d).2) ?_);refine f8 ?_;refine a1D _ (λrest b I=>b.1=none/\I=s/\(∀e∈rest,e∈Z.toList)/\((∀e∈rest,∀k,knd.is k e.2=true->T k=true)->∀k,S k=true->T k=true)) _ ?_ ?_ _ _ ⟨rfl,rfl,λe d=>d,λz k i=>by
  obtain⟨e,d,q⟩:=(g k).mp i;exact z e d k q⟩
 .rintro ⟨hh,x⟩ rest b I ⟨N,rfl,L,M⟩
  obtain⟨⟨k,i,f⟩,p⟩:=u _ (L _ O7);simp only at i f p ⊢;subst f;refine f8 (W1 (wpAny_setFind_of i p P λr H=>?_));cases D:T k with
  |false=>rw[D]at H;rw[show r=none from Option.not_isSome_iff_eq_none.mp (by rw[H];exact P0)];simp only[Option.isNone_none];refine v4 ?_;refine v4 (h false ⟨λz=>(by cases z),λz=>?_⟩);have:=z.2 k ((g k).mpr ⟨_,L _ O7,i⟩);rw[D]at this;cases this
  |true=>
   rw[D]at H;obtain⟨j,rfl⟩:=a0v.mp H;simp only[Option.isNone_some,↓reduceIte];unfold Builtin.Frozenset.unchanged;refine f8 (f8 (wpAny_setEpoch_of G F hf ?_));simp only[bne_self_eq_false,↓reduceIte];refine v4 (v4 ⟨rfl,rfl,λe d=>L e (O6 _ d),λz=>M λe d W y=>?_⟩);rcases P7.mp d with rfl|d
   .rw[knd.inj _ _ _ y i];exact D
   .exact z e d W y
 .rintro ⟨b1,b2⟩ I ⟨N,rfl,_,M⟩
  simp only at N;subst N;exact v4 (h true ⟨λ_=>⟨by omega,M λe d=>(by cases d)⟩,λ_=>rfl⟩)
def dE:entryFor table "set.__eq__"=some Builtin.«frozenset.__eq__»:=
 entryFor_alias (id':="frozenset.__eq__") (by kernel_rfl) rfl (by decide +kernel) (by kernel_rfl)
def x4{S T:K->Bool}{n m:Nat}{Q:Of}(hS:s.heap.SetOf knd a S n)(hT:s.heap.SetOf knd b T m)
  (h:∀r:Bool,(r=true↔n=m/\∀k,S k=true->T k=true)->Q (.bool r) s):wpAny (model prog w) A (Builtin.«frozenset.__eq__» ⟨[.ref a,.ref b],[]⟩) (λfin s'=>∃v,fin=.done (.ret v)/\Q v s') E s:=by
 obtain⟨o,es,ep,t,ho,hex,hd,hel,hmem,hbd,hf,hn⟩:=id hS;obtain⟨o',es',ep',t',ho',hex',hd',hel',hmem',hbd',hf',hn'⟩:=id hT;show wpAny _ _ (Builtin.Frozenset.slot1 "__eq__" _ >>= _) _ _ _;refine f8 ?_;unfold Builtin.Frozenset.slot1 slotArgs;simp only[List.isEmpty_nil,Bool.not_true,Bool.false_eq_true,↓reduceIte,bind_assoc,List.length_cons,List.length_nil,bne_self_eq_false];refine v4 ?_;dsimp only;unfold Builtin.Frozenset.isAnySet Builtin.Frozenset.addrOf Builtin.Frozenset.sizeOf;have hTa:s.TypeIs (.ref a) "set":=⟨o,ho,hex.1⟩;have hTb:s.TypeIs (.ref b) "set":=⟨o',ho',hex'.1⟩;refine f8 ?_;show wpAny _ _ (isInstance (.ref b) (.type "set") >>= _) _ _ _;refine f8 (a07 hTb PySem.sub_set_self ?_);refine v4 ?_;simp only[Bool.not_true,Bool.false_eq_true,↓reduceIte];refine f8 (v4 ?_);refine f8 (v4 ?_);refine f8 (f8 (a1e ho hd hf (v4 ?_)));refine f8 (f8 (a1e ho' hd' hf' (v4 ?_)));rw[hn,hn'];by_cases c:n=m
 .rw[if_neg (by simp[c])];refine f8 (f8 ?_);show wpAny _ _ (isInstance (.ref a) (.type "frozenset") >>= _) _ _ _;refine f8 (a07 hTa F.sub_set_frozenset ?_);refine v4 ?_;simp only[Bool.false_eq_true,↓reduceIte];refine f9 hS hT λr hr=>v4 ⟨_,rfl,h r (hr.trans ⟨λz=>⟨c,z.2⟩,λz=>⟨by omega,z.2⟩⟩)⟩
 .rw[if_pos (by simp[c])];exact f8 (v4 (v4 ⟨_,rfl,h false ⟨λz=>(by cases z),λz=>absurd z.1 c⟩⟩))
def x5{S T:K->Bool}{n m:Nat}{Q:Of}(f:s.heap.SetOf knd a S n)(e:s.heap.SetOf knd b T m)(i:A.units<cLine)
  (h:∀r:Bool,(r=true↔n=m/\∀k,S k=true->T k=true)->Q (.bool r) s):wpAny (model prog w) A (compareOp .Eq (.ref a) (.ref b)) Q E s:=by
 have c:=f.typeIs;have d:=e.typeIs;show wpAny _ _ (richCompare .Eq (.ref a) (.ref b)) _ _ _;exact a0x c d F.slot_set_eq (a1T F.slot_set_eq c dE (x4 f e λr g=>⟨(λx=>nomatch x),h r g⟩) (F.args_set_eq_2 _ _)) i
end
section
variable {K:Type}[DecidableEq K]
def dF(σ:List K)(k:K):List K:=if k∈σ then σ else σ++[k]
def fmD(val:Nat->K)(i:Nat):List K:=((List.range i).map val).foldl dF []
def Kg(val:Nat->K)(i:Nat):fmD val (i+1)=dF (fmD val i) (val i):=by unfold fmD;rw[List.range_succ,T5,List.foldl_append];rfl
theorem rV(val:Nat->K):∀i,(fmD val i).length<=i
 |0=>O2 _
 |i+1=>by
  have:=rV val i;rw[Kg];unfold dF;split
  .omega
  .rw[P2];show _+1<=_;omega
def dG(σ:List K)(v k:K):decide (k∈dF σ v)=(decide (k∈σ)||decide (k=v)):=by
 unfold dF;by_cases h:v∈σ
 .rw[if_pos h];by_cases e:k=v
  .subst e;simp[h]
  .simp[e]
 .rw[if_neg h];simp
def dH(σ:List K)(v:K):(dF σ v).length=if decide (v∈σ)=true then σ.length else σ.length+1:=by unfold dF;by_cases h:v∈σ<;>simp[h]
end
section
variable {prog:Ox}{w:OE}{A:OG}{R:Result->Shared->Prop}{I:Addr}{fp wr:OX}{G:Array GenState->Array GenState->Prop}{n:Nat}{P:Pj}{St:Ph}{K:Type}[DecidableEq K] {knd:PySem.KeyKind prog w K}
def rW(W:WalksS prog w A.in1 I fp wr G n P St)(S:Addr)(m:S∉fp)
  (val:Nat->K) (r:∀i v,P i v->knd.is (val i) v=true/\v.scannable=true) (j:n+1<scanBound):
  ∀(k i:Nat)(s:Om),n-i=k->i<=n->St i s->
   s.heap.SetOf knd S (λc=>decide (c∈fmD val i)) (fmD val i).length->
   (∀a,Moved (S::wr) G s a->a.heap.SetOf knd S (λc=>decide (c∈fmD val n)) (fmD val n).length->R (.ok (.ret .none)) a)->
   codeAny (model prog w) A (.builtin "set.update.loop" ⟨[.ref S,.ref I],[]⟩) R s:=by
 have u:=λh=>m (W.sub _ h);have d:∀b∈wr,b∈S::wr:=λb j=>O6 _ j;intro k
 induction k with
 |zero=>
  intro i s Y X g N F;have H:i=n:=by omega
  subst H;refine a0C a2c ?_;refine f8 (W.done s _ _ g λa p=>?_);exact v4 (F a (p.mono d) (by
   obtain⟨o,J,M,t,Q,rest⟩:=N;exact⟨o,J,M,t,p.heap S _ u Q,rest⟩))
 |succ k T=>
  intro i s Y X g N F;have q:i<n:=by omega
  refine a0C a2c ?_;refine f8 (W.item i s _ _ q g λv a hP l p=>?_);obtain⟨z,E⟩:=r i v hP;have C:a.heap.SetOf knd S (λc=>decide (c∈fmD val i)) (fmD val i).length:=by obtain⟨o,J,M,Z,Q,rest⟩:=N;exact⟨o,J,M,Z,p.heap S _ u Q,rest⟩
  refine f8 (W1 ?_);refine W1 ?_;refine f8 (knd.pyHash z ?_);have f:(fmD val i).length+1<scanBound:=by have:=rV val i;omega
  refine a3V z E C f λU y L=>?_;have O:U.SetOf knd S (λc=>decide (c∈fmD val (i+1))) (fmD val (i+1)).length:=
   a3L L (λc=>by rw[Kg,dG]) (by rw[Kg,dH])
  refine v4 ⟨a04 a1p _,T (i+1) _ (by omega) q (W.frame _ a _ _ l (a0Y _) λb j o e=>?_) O λD x B=>?_⟩
  .rw[y.2 b (λh:b=S=>m (by grind))];exact e
  .refine F D (Moved.trans W.gtrans ((p.mono d).then_heap (a0Y _) λb o j e=>?_) x) B;rw[y.2 b (λh:b=S=>j (by grind))];exact e
end
section
variable {prog:Ox}{w:OE}{A:OG}{E:Of}{s:Om}
def bf{K:Type}[DecidableEq K]{knd:PySem.KeyKind prog w K}{l:Addr}{items:OJ}{val:Nat->K}{Q:Of}
  (hh:A.handled=none) (hl:s.heap.IsList l items) (hval:∀(i:Nat)(v:Value),items[i]?=some v->knd.is (val i) v=true/\v.scannable=true) (hb:items.size+1<scanBound)
  (h:∀(h':Heap)(tk:Nat),h'.SetOf knd s.heap.objs.size (λk'=>decide (k'∈fmD val items.size)) (fmD val items.size).length->
   (∀b o,b<s.heap.objs.size->s.heap.get? b=some o->h'.get? b=some o)->Q (.ref s.heap.objs.size) { s with heap:=h',toks:=tk }):
  wpAny (model prog w) A (call (.type "set") [.ref l]) Q E s:=by
 obtain⟨c,tl,hmro⟩:=PySem.F.called_set.mro;have hmade:=PySem.F.called_set.made;have hsub:=PySem.F.called_set.sub;refine a1i (a3x ?_);show wpAny _ _ (callAny (.type "set") _) _ _ _;refine v4 ⟨a19 _ (by decide +kernel),a0C a3r ?_⟩;rw[a4t (a3W "set" [.ref l] []) rfl];have h1:=PySem.F.called_set.notType;have h2:=PySem.F.called_set.canCreate;have hct:=a3M (.ref l)
 repeat(any_goals(first|assumption|wp_step))
 refine a03 (code_set_new_1 (.ref l) (E:=E) (Q₁:=λobj s₁=>∃led:Bool,obj=.ref s.heap.objs.size/\s₁={ s with heap:=s.heap.push { cls:=.type "set",dict:=none,data:=.set #[] 0 (.fresh 0 0 led) } }) λled=>⟨led,rfl,rfl⟩) λr s₁ hr=>?_;cases r with
 |error e=>exact hr
 |ok fl=>
  cases fl with
  |ret obj=>
   obtain⟨led,rfl,rfl⟩:=hr;have hS:(s.heap.push { cls:=.type "set",dict:=none,data:=.set #[] 0 (.fresh 0 0 led) }).get? s.heap.objs.size=some { cls:=.type "set",dict:=none,data:=.set #[] 0 (.fresh 0 0 led) }:=P9 _ rfl;have hT:Shared.TypeIs { s with heap:=s.heap.push { cls:=.type "set",dict:=none,data:=.set #[] 0 (.fresh 0 0 led) } } (.ref s.heap.objs.size) "set":=⟨_,hS,rfl⟩;have hli:=PySem.F.called_set.init.lookup;have hbi:=PySem.F.called_set.init.bind (.ref s.heap.objs.size)
   repeat(any_goals(first|assumption|wp_step))
   refine a03 (a1a (R:=wants (λr s₂=>r=.none/\∃h' tk,s₂={ s with heap:=h',toks:=tk }/\
     h'.SetOf knd s.heap.objs.size (λk'=>decide (k'∈fmD val items.size)) (fmD val items.size).length/\
     (∀b o,b<s.heap.objs.size->s.heap.get? b=some o->h'.get? b=some o)) E) PySem.F.called_set.init.plain a3N (check_set_init_1 hT ?_)) λr₂ s₂ hr₂=>?_
   .obtain⟨ol,hol,hcl,nl,hdl⟩:=hl;obtain⟨ocls,odict,odata,oslots⟩:=ol;simp only at hcl hdl;subst hcl;subst hdl;have hol':(s.heap.push { cls:=.type "set",dict:=none,data:=.set #[] 0 (.fresh 0 0 led) }).get? l=some { cls:=.type "list",dict:=odict,data:=.seq items nl,slots:=oslots }:=O0 _ hol;have hsls:=PySem.F.sub_list_set;have hslf:=PySem.F.sub_list_frozenset;have hne:(Value.type "list"==Value.type "dict")=false:=by decide
    have hl1:(s.heap.push { cls:=.type "set",dict:=none,data:=.set #[] 0 (.fresh 0 0 led) }).IsList l items:=⟨_,hol',rfl,nl,rfl⟩;unfold Builtin.«set.__init__» noKeywords Builtin.Frozenset.updateFrom;generalize hPI:pyIter=PI
    wp_walk
    subst hPI;refine a2j hl1 ?_;refine f8 (wpAny_runValue ?_);have hlS:l<s.heap.objs.size:=O8 hol;have hh3:A.in1.in1.in1.handled=none:=by simp[hh]
    have hneI:l≠(s.heap.push { cls:=.type "set",dict:=none,data:=.set #[] 0 (.fresh 0 0 led) }).objs.size:=by rw[a1f];exact P1 (a1v hlS)
    have hSf:s.heap.objs.size∉[(s.heap.push { cls:=.type "set",dict:=none,data:=.set #[] 0 (.fresh 0 0 led) }).objs.size,l]:=by rw[a1f];simp only[List.mem_cons,List.mem_singleton,List.not_mem_nil,or_false,not_or];exact⟨P1 (a1V _),a0B hlS⟩
    refine rW ((Walks.list hh3 _ l hneI items).toS) s.heap.objs.size
     hSf val hval hb (items.size-0) 0 _ (by omega) (a0c _)
     ⟨⟨_,P9 _ rfl,rfl,rfl⟩,(hl1.push _)⟩ ?hS0 ?hR
    case hS0=>
     have hget:((s.heap.push { cls:=.type "set",dict:=none,data:=.set #[] 0 (.fresh 0 0 led) }).push { cls:=.type "list_iterator",data:=.fields #[.ref l,.int 0 0] }).get? s.heap.objs.size
       = some { cls:=.type "set",dict:=none,data:=.set #[] 0 (.fresh 0 0 led) }:=O0 _ hS
     exact a3L ((setObjOf_fresh (knd:=knd) led).setOf hget (by unfold scanBound;omega)) (λ_=>rfl) rfl
    case hR=>
     intro s' hm hS';obtain⟨h',g',d',tk',os'⟩:=s';have eg:g'=s.gens:=hm.gens;have ed:d'=s.drawn:=hm.drawn;have eo:os'=s.os:=hm.os;subst eg;subst ed;subst eo;show wpAny _ _ _ _ _ _;refine v4 ?_;show wpAny _ _ (ret Value.none) _ _ _;refine v4 ⟨rfl,h',tk',rfl,hS',λb o hb e=>?_⟩;have hb1:b≠s.heap.objs.size:=P1 hb;have hb2:b≠(s.heap.push { cls:=.type "set",dict:=none,data:=.set #[] 0 (.fresh 0 0 led) }).objs.size:=by rw[a1f];exact P1 (a1v hb)
     exact hm.heap b o (by simp only[List.mem_cons,List.mem_singleton,List.not_mem_nil,or_false,not_or];exact⟨hb1,hb2⟩) (O0 _ (O0 _ e))
   .cases r₂ with
    |error e=>exact hr₂
    |ok fl₂=>
     cases fl₂ with
     |ret r=>
      obtain⟨rfl,h',tk,rfl,hS',hk'⟩:=hr₂
      repeat(any_goals(first|assumption|wp_step))
      exact h _ _ hS' hk'
     |_=>exact hr₂.elim
  |_=>exact hr.elim
end
theorem VC{w B:Nat}(h:2*w<=B):∀(b a:Nat),a<=B->SetTable.sizeAbove.go w b a<=B
 |0,_,d=>d
 |b+1,a,d=>by
  unfold SetTable.sizeAbove.go;by_cases c:a<=w
  .rw[if_pos c];exact VC h b _ (by omega)
  .rw[if_neg c];exact d
def rX:(List.range (M+1)).filterMap (λj=>((Array.replicate (M+1) (none:Option Nat)).getD j none).map λx=>(j,x))=[]:=by
 refine List.filterMap_eq_nil_iff.mpr λj _=>?_;have:(Array.replicate (M+1) (none:Option Nat)).getD j none=none:=by
  unfold Array.getD;split
  .simp
  .rfl
 rw[this];rfl
def dI:∃a,SetTable.relaid t #[] wanted=some (a,#[])/\a.fits 0=true:=by
 refine⟨{ mask:=SetTable.sizeAbove wanted-1,place:=#[],dummies:=#[],finger:=t.finger,led:=t.led,moves:=t.movedTo (SetTable.sizeAbove wanted-1),plain:=t.plain },?_,?_⟩
 .unfold SetTable.relaid SetTable.laid SetTable.layClean;have b:∀(f:Option (Array (Option Nat)×Nat)->Int->Option (Array (Option Nat)×Nat)) x,Array.foldl f x #[]=x:=λf x=>by simp
  rw[b];show some _=some _;rw[rX];rfl
 .simp[SetTable.fits,SetTable.fill]
section
variable {prog:Ox}{w:OE}{K:Type}[DecidableEq K] {knd:PySem.KeyKind prog w K}{A:OG}{E:Of}{s:Om}{a:Addr}
def dJ{o:Obj}{ep n:Nat}{b:Bool}{Q:Unit->Shared->Prop}(d:s.heap.get? a=some o)(g:o.ExactSet)(c:o.data=.set #[] ep (.fresh 0 0 b))(y:n+1<scanBound)
  (h:∀l,Heap.SameBut a s.heap l->l.SetOf knd a (λ_=>false) 0->Q () { s with heap:=l }):wpAny (model prog w) A (setRoomFor a n) Q E s:=by
 have hf:(SetTable.fresh 0 0 b).fits (#[]:Array (Int×Value)).size=true:=by rfl
 have nil:∀k,(λ_:K=>false) k=true↔∃e∈(#[]:Array (Int×Value)).toList,knd.is k e.2=true:=λk=>by simp
 refine f8 (wpAny_setState_of d c hf ?_);have q:SetTable.roomFor (.fresh 0 0 b) n=none\/SetTable.roomFor (.fresh 0 0 b) n=some ((0+n)*2):=by
  unfold SetTable.roomFor;split
  .exact .inr rfl
  .exact .inl rfl
 rcases q with e|e
 .rw[e];exact v4 (h s.heap (Heap.SameBut.refl _ _) ⟨o,#[],ep,_,d,g,c,λe f=>by simp at f,nil,by decide,hf,rfl⟩)
 .rw[e];refine f8 (wpAny_setState_of d c hf ?_);dsimp only;have r:¬SetTable.sizeAbove ((0+n)*2)>sizeLine:=by
   have v:scanBound=4096:=rfl;have:=VC (w:=(0+n)*2) (B:=16384) (by omega) 64 8 (by decide);have m:16384<=sizeLine:=by decide
   exact a32.mpr (P8 this m)
  rw[if_neg r];obtain⟨j,u,p⟩:=dI;refine f8 ?_;rw[show(#[]:Array (Int×Value)).map (λx=>x.1) = #[] by simp,u];show wpAny _ _ (if(((#[]:Array Nat).filterMap λi=>(#[]:Array (Int×Value))[i]?).size != (#[]:Array (Int×Value)).size)=true then((unsupported "internal:set-table-lost-an-element":Sem PUnit) >>= λ_=>pure ((#[]:Array Nat).filterMap λi=>(#[]:Array (Int×Value))[i]?,j))else pure ((#[]:Array Nat).filterMap λi=>(#[]:Array (Int×Value))[i]?,j)) _ _ _;refine v4 ?_;have f:((#[]:Array Nat).filterMap λi=>(#[]:Array (Int×Value))[i]?) = #[]:=by simp
  obtain⟨v,m⟩:=SetOf_store d g c (λe f=>by simp at f) nil (by decide) p;exact wpAny_storeSet_of d c (h _ (Heap.SameBut.update _ _ _) m) (a0c _)
end
section
variable {prog:Ox}{w:OE}{A:OG}{E:Of}{s:Om}
def bg{K:Type}[DecidableEq K]{knd:PySem.KeyKind prog w K}{l:Addr}{kvs:List (K×Value)}{val:Nat->K}{Q:Of}
  (hl:s.heap.DictOf knd l kvs) (hsys:(l==sysModules)=false) (hval:∀(i:Nat)(kv:K×Value),kvs[i]?=some kv->val i=kv.1) (hsc:∀k v,knd.is k v=true->v.scannable=true) (hb:kvs.length+1<scanBound)
  (h:∀(h':Heap)(tk:Nat),h'.SetOf knd s.heap.objs.size (λk'=>decide (k'∈fmD val kvs.length)) (fmD val kvs.length).length->
   (∀b o,b<s.heap.objs.size->s.heap.get? b=some o->h'.get? b=some o)->Q (.ref s.heap.objs.size) { s with heap:=h',toks:=tk }):
  wpAny (model prog w) A (call (.type "set") [.ref l]) Q E s:=by
 obtain⟨c,tl,hmro⟩:=PySem.F.called_set.mro;have hmade:=PySem.F.called_set.made;have hsub:=PySem.F.called_set.sub;refine a1i (a3x ?_);show wpAny _ _ (callAny (.type "set") _) _ _ _;refine v4 ⟨a19 _ (by decide +kernel),a0C a3r ?_⟩;rw[a4t (a3W "set" [.ref l] []) rfl];have h1:=PySem.F.called_set.notType;have h2:=PySem.F.called_set.canCreate;have hct:=a3M (.ref l)
 repeat(any_goals(first|assumption|wp_step))
 refine a03 (code_set_new_1 (.ref l) (E:=E) (Q₁:=λobj s₁=>∃led:Bool,obj=.ref s.heap.objs.size/\s₁={ s with heap:=s.heap.push { cls:=.type "set",dict:=none,data:=.set #[] 0 (.fresh 0 0 led) } }) λled=>⟨led,rfl,rfl⟩) λr s₁ hr=>?_;cases r with
 |error e=>exact hr
 |ok fl=>
  cases fl with
  |ret obj=>
   obtain⟨led,rfl,rfl⟩:=hr;have hS:(s.heap.push { cls:=.type "set",dict:=none,data:=.set #[] 0 (.fresh 0 0 led) }).get? s.heap.objs.size=some { cls:=.type "set",dict:=none,data:=.set #[] 0 (.fresh 0 0 led) }:=P9 _ rfl;have hT:Shared.TypeIs { s with heap:=s.heap.push { cls:=.type "set",dict:=none,data:=.set #[] 0 (.fresh 0 0 led) } } (.ref s.heap.objs.size) "set":=⟨_,hS,rfl⟩;have hli:=PySem.F.called_set.init.lookup;have hbi:=PySem.F.called_set.init.bind (.ref s.heap.objs.size)
   repeat(any_goals(first|assumption|wp_step))
   refine a03 (a1a (R:=wants (λr s₂=>r=.none/\∃h' tk,s₂={ s with heap:=h',toks:=tk }/\
     h'.SetOf knd s.heap.objs.size (λk'=>decide (k'∈fmD val kvs.length)) (fmD val kvs.length).length/\
     (∀b o,b<s.heap.objs.size->s.heap.get? b=some o->h'.get? b=some o)) E) PySem.F.called_set.init.plain a3N (check_set_init_1 hT ?_)) λr₂ s₂ hr₂=>?_
   .obtain⟨ol,el,epl,hol,hcl,hdl,hkl,hpl,hnl⟩:=id hl;have hcl0:=hcl;obtain⟨ocls,odict,odata,oslots⟩:=ol;obtain⟨hc1,hc2,hc3⟩:=hcl0;simp only at hc1 hdl;subst hc1;subst hdl;have hol':=O0 { cls:=.type "set",dict:=none,data:=.set #[] 0 (.fresh 0 0 led) } hol;have hsls:=PySem.F.sub_dict_set;have hslf:=PySem.F.sub_dict_frozenset;unfold Builtin.«set.__init__» noKeywords Builtin.Frozenset.updateFrom;generalize hPI:pyIter=PI;generalize hRF:setRoomFor=RF
    wp_walk
    subst hPI hRF;have hlS:l<s.heap.objs.size:=O8 hol;have hlen:kvs.length=el.size:=by rw[<- hpl.length];simp
    refine dJ (knd:=knd) hS ⟨rfl,rfl,rfl⟩ rfl (by omega) λh1 hs1 hS1=>?_;have hol1:h1.get? l=some _:=(hs1.2 l (P1 hlS)).trans hol';refine f8 (a1w hol1 rfl ?_);refine f8 ?_;rw[a11];simp only[Std.Legacy.Range.size,Nat.sub_zero,Nat.add_sub_cancel,Nat.div_one];refine a1D _
     (λrest _ s'=>∃h' i,s'={ s with heap:=h' }/\rest=List.range' i (el.size-i)/\i<=el.size/\h'.SetOf knd s.heap.objs.size (λk'=>decide (k'∈fmD val i)) (fmD val i).length/\Heap.SameBut s.heap.objs.size h1 h')
     _ ?_ ?_ _ _ ⟨h1,0,rfl,by simp,a0c _,a3L hS1 (λ_=>rfl) rfl,Heap.SameBut.refl _ _⟩
    .rintro x rest b s' ⟨h',i,rfl,hr,hi,hS',hs'⟩
     have hlt:i<el.size:=by
      rcases Nat.lt_or_ge i el.size with h|h
      .exact h
      .rw[Nat.sub_eq_zero_of_le h]at hr;simp at hr
     obtain⟨rfl,hrest⟩:x=i/\rest=List.range' (i+1) (el.size-(i+1)):=by
      have e:el.size-i=(el.size-(i+1))+1:=by omega
      rw[e,a3f]at hr;injection hr with h1 h2
      exact⟨h1,h2⟩
     have hol2:h'.get? l=some _:=(hs'.2 l (P1 hlS)).trans hol1;refine f8 (a1w hol2 rfl ?_);rw[a09 hlt];obtain⟨kv,hkv⟩:∃kv,kvs[x]?=some kv:=⟨kvs[x]'(by rw[hlen];exact hlt),O3 _⟩;obtain⟨k,v⟩:=kv;obtain⟨hkey,_⟩:=hpl.get? (e:=el[x]) (by simp[hlt]) hkv;obtain⟨k',hkey',hhash⟩:=hkl el[x] (Array.getElem_mem hlt);obtain rfl:k'=k:=knd.inj _ _ _ hkey' hkey;have hvk:val x=k':=hval x _ hkv;show wpAny _ _ (holding [el[x].key] (setAddHashed s.heap.objs.size el[x].key el[x].hash) >>= _) _ _ _;rw[hhash];have hroom:(fmD val x).length+1<scanBound:=by have:=rV val x;omega
     refine f8 (W1 (a3V (knd:=knd) hkey (hsc _ _ hkey) hS' hroom λh'' hsb hS2=>?_));have hol3:h''.get? l=some _:=(hsb.2 l (P1 hlS)).trans hol2;refine f8 (a3B hol3 rfl ?_);rw[if_neg (by simp)];exact v4 ⟨h'',x+1,rfl,hrest,hlt,a3L hS2 (λk''=>by rw[Kg,dG,hvk]) (by rw[Kg,dH,hvk]),hs'.trans hsb⟩
    .rintro b s' ⟨h',i,rfl,hr,hi,hS',hs'⟩
     have hin:i=el.size:=by
      rcases Nat.lt_or_ge i el.size with h|h
      .have e:el.size-i=(el.size-(i+1))+1:=by omega
       rw[e,a3f]at hr;exact nomatch hr
      .exact a3C hi h
     rw[hin,<- hlen]at hS';refine v4 ?_;show wpAny _ _ (ret Value.none) _ _ _;refine v4 ⟨rfl,h',s.toks,rfl,hS',λb o hb e=>?_⟩;have hb1:b≠s.heap.objs.size:=P1 hb;rw[hs'.2 b hb1,hs1.2 b hb1];exact O0 _ e
   .cases r₂ with
    |error e=>exact hr₂
    |ok fl₂=>
     cases fl₂ with
     |ret r=>
      obtain⟨rfl,h',tk,rfl,hS',hk'⟩:=hr₂
      repeat(any_goals(first|assumption|wp_step))
      exact h _ _ hS' hk'
     |_=>exact hr₂.elim
  |_=>exact hr.elim
end
def memD{a:Type}[DecidableEq a](σ:List a)(k:a):Bool:=decide (k∈σ)
def iM{a:Type}[DecidableEq a]{σ:List a}{k:a}:memD σ k=true↔k∈σ:=a4q
def eqD{b:Type}[DecidableEq b](σ a:List b):Bool:=σ.length==a.length&&σ.all (memD a)
def rY{b:Type}[DecidableEq b]{σ a:List b}:eqD σ a=true↔σ.length=a.length/\∀k∈σ,k∈a:=by unfold eqD;rw[S8,a0b,a0d];exact and_congr_right λ_=>forall_congr' λk=>imp_congr_right λ_=>iM
def x6(P:Ox)(w:OE)(a:Addr)(σ:OV):HO:=.ext λh=>h.SetOf (z9 P w) a (memD σ) σ.length
def ddK(ks:OV):List Key:=ks.foldl dF []
def BG(ks:OV):fmD (λi=>ks.getD i (.inl 0)) ks.length=ddK ks:=by unfold fmD ddK;congr 1;refine a3k (by simp) λi b a=>?_;simp[a]
def Hh(K:OL)(H:Hp)(p:Addr)(ks:OV):Prop:=SqL K H p (ks.map kV)\/∃a,Rd H p (.dK a)/\a.map (·.1)=ks
def DO(P:Ox)(w:OE)(K:OL):List V->Hp->VK->Prop:=λc H Q=>∃p b,c=[.ref p]/\Hh K H p b/\b.length+1<4096/\∀a,H a=none->Q (.ref a) (upd H a (x6 P w a (ddK b)))
def Hi(P:Ox)(w:OE):List V->Hp->VK->Prop:=λc H Q=>∃a b,c=[.ref a]/\H a=some (x6 P w a b)/\Q (.int b.length) H
def Hj(P:Ox)(w:OE):R2:=λx y H Q=>∃a b d c,x=.ref a/\y=.ref b/\H a=some (x6 P w a d)/\H b=some (x6 P w b c)/\Q (.bl (eqD d c)) H
def x8(h:RelV (kV k) v):aq k v=true/\v.scannable=true:=by
 cases k with
 |inl i=>obtain⟨t,rfl⟩:=h;exact⟨bZ i t,rfl⟩
 |inr x=>obtain⟨t,rfl⟩:=h;exact⟨b7 x t,rfl⟩
def DP{ks:OV}{its:Oo}(r:Vals (ks.map kV) its){i:Nat}{v:Value}(a:its[i]?=some v):aq (ks.getD i (.inl 0)) v=true/\v.scannable=true:=by
 induction ks generalizing its i with
 |nil=>cases r;simp at a
 |cons k ks b=>
  cases r with
  |cons d c=>
   cases i with
   |zero=>simp at a;subst a;exact x8 d
   |succ i=>simpa using b c (by simpa using a)
def Xp(P:X.calm=true):jR X (.type "set") (DO X.prog X.w X.K):=by
 intro A s Y H xs us Q I r h;obtain⟨p,g,rfl,D,K,q⟩:=h;obtain⟨u,rfl,R⟩:=vals1 r;cases R;have m:∀(d:Heap)(tk:Nat),d.SetOf (z9 X.prog X.w) s.heap.objs.size (memD (ddK g)) (ddK g).length->(∀b o,b<s.heap.objs.size->s.heap.get? b=some o->d.get? b=some o)->X.m<=tk->EP X A Y Q (.ref s.heap.objs.size) { s with heap:=d,toks:=tk }:=λd tk a c B=>by
  have he:∃o,d.get? s.heap.objs.size=some o:=by obtain⟨o,_,_,_,e,_⟩:=a;exact⟨o,e⟩
  refine⟨.ref _,_,I.laid (λb u e=>c b u (O8 e) e) (O2 _) (o:=x6 X.prog X.w s.heap.objs.size (ddK g)) ⟨a,he,?_⟩,rfl,q _ (I.hok.fresh (O2 _))⟩
  rintro h1 h2 ⟨o,w,C,t,ho,rest⟩ k
  exact⟨o,w,C,t,k _ ho,rest⟩
 rcases D with D|⟨w,hS,c⟩
 .obtain⟨y,F,N,hz⟩:=I.list D;have f:y.length=g.length:=by rw[<- F.length,u8]
  refine a0g (by ac_rfl)<|bf (I.ok.hd P) N.isList (λi v l=>?_) (by rw[P4,f];exact K) λd tk a c B=>m d tk (by rw[show y.toArray.size=g.length from f,BG]at a;exact a) c B
  exact DP F (by rw[List.getElem?_toArray]at l;exact l)
 .obtain⟨z,hd,J,j,o,M,C,Z,O,U,W,T,S⟩:=wC I.hok hS;have E:J.length=g.length:=by rw[<- c,u8];exact j.length.symm
  refine a0g (by ac_rfl)<|bg ⟨o,M,C,Z,O,U,W,T,S⟩ hd (λi kv l=>?_) (λk v c=>?_) (by rw[E];exact K) λd tk a c B=>m d tk (by rw[E,BG]at a;exact a) c B
  .have G:i<w.length:=by have:=(P5.mp l).1;rw[j.length];exact this
   obtain⟨w',L⟩:=dg j (O3 G);rw[L]at l;cases l;subst c;simp[List.getElem?_eq_getElem G]
  .rcases yf c with⟨i,t,_,rfl⟩|⟨x,t,_,rfl⟩<;>rfl
def rZ:jR X (.builtin "len") (Hi X.prog X.w):=by intro d s x H w v Q I r h;obtain⟨a,g,rfl,f,q⟩:=h;obtain⟨u,rfl,j⟩:=vals1 r;cases j;obtain⟨⟨o,c,y,t,p,b,n,l,e,m,hf,i⟩,_⟩:=I.hok a _ f;rw[<- i]at q;exact call_len_set p b n hf (Int.lt_trans (show(c.size:Int)<4096 by exact_mod_cast m) (by decide)) ⟨.int c.size,H,I.tok _,⟨_,rfl⟩,q⟩
def x9(m:X.A.units+64<cLine):OpR X (compareOp .Eq) (Hj X.prog X.w):=by
 intro d s n H x y v u Q I g f h;obtain⟨a,b,c,j,rfl,rfl,e,l,q⟩:=h;cases g;cases f;refine x5 (I.hok a _ e).1 (I.hok b _ l).1 (by omega) λr i=>⟨.bl r,H,I,rfl,?_⟩;have:r=eqD c j:=by rw[a2E,i,rY];simp only[iM]
 rw[this];exact q
def DQ:List PV->Option (List Key)
 |[]=>some []
 |.i n::r=>(DQ r).map (.inl n::·)
 |.s x::r=>(DQ r).map (.inr x::·)
 |_::_=>none
def DR:∀{b:Ow}{a:OV},zX W M H c b->DQ c=some a->b=a.map kV:=by
 induction c with
 |nil=>intro b a r h;cases h;unfold zX at r;exact r
 |cons x c g=>
  intro b a r h;unfold zX at r;obtain⟨v,q,rfl,f,d⟩:=r;cases x with
  |i n=>obtain⟨j,e,rfl⟩:=v1.mp h;rw[g d e];cases(show v=.int n from f);rfl
  |s n=>obtain⟨j,e,rfl⟩:=v1.mp h;rw[g d e];cases(show v=.str n from f);rfl
  |_=>cases h
def Yz:List PV->Out (List Key)
 |[.l c]=>match DQ c with
  |some b=>if b.length+1<4096 then .ok (ddK b)else .wall
  |none=>.wall
 |[.d a]=>if a.length+1<4096 then .ok (ddK (a.map (·.1)))else .wall
 |_=>.wall
def DS(xs:OD):Out PV:=(Yz xs).bind λa=>.ok (.i a.length)
def r0(d f:MA):ME:=λa=>(d a).bind λe=>(Yz e).bind λc=>(f a).bind λg=>(Yz g).bind λb=>.ok (.b (eqD c b))
def f_(h:oN W M H xs vs)(q:z_ C B H R Q ((Yz xs).bind f))(k:∀g a,Yz xs=.ok g->H a=none->z_ C B H R Q (f g)->Q' (.ref a) (upd H a (x6 P w a g))):DO P w W.K vs H Q':=by
 cases e:Yz xs with
 |exc c fs=>
  unfold Yz at e;split at e
  .split at e
   .split at e<;>cases e
   .cases e
  .split at e<;>cases e
  .cases e
 |wall=>rw[e]at q;exact q.elim
 |ok g=>
  rw[e]at q;unfold Yz at e;split at e
  .split at e
   .rename_i n m;split at e
    .rename_i b;cases e;obtain⟨v,r,rfl,⟨p,t,rfl,_,d,i⟩,l⟩:=h;cases l;rw[DR i m]at d;exact⟨p,n,rfl,.inl (SqL.of d),b,λa j=>k _ a (by unfold Yz;simp only[m];rw[if_pos b]) j q⟩
    .cases e
   .cases e
  .split at e
   .rename_i s b;cases e;obtain⟨v,r,rfl,⟨p,o,rfl,_,d,i⟩,l⟩:=h;cases l;exact⟨p,_,rfl,.inr ⟨o,d,(y8.iff.mp i).1⟩,by rw[u8];exact b,λa j=>k _ a (show(if _ then _ else _:Out (List Key))=_ from if_pos b) j q⟩
   .cases e
  .cases e
def DT:LfC W (λb H Q=>DO P w W.K b H λv d=>Hi P w [v] d Q) DS:=λM C B H g b Q n h q=>
 f_ h q λf a e c q=>⟨a,_,rfl,zh,q _ _ (zF.upd c) rfl⟩
def DV(j:X.calm=true)(i:Gl X "len")(h:X.mg "len"=none)(b:Gl X "set")(c:X.mg "set"=none)(f:AM X C S ws [e] ms)(he:starEach [e] X.env=[(false,eval e X.env)]:=by rfl)
  (a:starEach [.Call (.Name "set" p2) [e] [] pos2] X.env=[(false,eval (.Call (.Name "set" p2) [e] [] pos2) X.env)]:=by rfl):EM X C S false (.Call (.Name "len" p) [.Call (.Name "set" p2) [e] [] pos2] [] pos) (zf DS ms):=λd=>by
 obtain⟨o,m,g⟩:=f d;refine⟨_,Wy rZ i h PySem.boot_len (vi (Yq (Xp j) b c Xn m (by decide) (by decide) he rfl) JO a) (by decide) (by decide) a rfl,?_⟩;rw[d];exact λB P H n l R Q q=>CU (DT) g B P H n l R Q q
def x_(y:X.A.units+64<cLine)(m:X.calm=true)(l:Gl X "set")(j:X.mg "set"=none)(f:AM X C S ws [e] ms)(g:AM X C S ws2 [d] ms2)(he:starEach [e] X.env=[(false,eval e X.env)]:=by rfl)(h:starEach [d] X.env=[(false,eval d X.env)]:=by rfl)
  (t:behindInMarks .Eq (.Call (.Name "set" p2) [d] [] pos2)=false:=by rfl):EM X C S false (.Compare (.Call (.Name "set" p) [e] [] pos) [.Eq] [.Call (.Name "set" p2) [d] [] pos2] pos3) (r0 ms ms2):=λi=>by
 obtain⟨W,G,x⟩:=f i;obtain⟨tb,A,I⟩:=g i;refine⟨_,e_ (x9 y) (Yq (Xp m) l j Xn G (by decide) (by decide) he rfl) (Yq (Xp m) l j Xn A (by decide) (by decide) h rfl) t,?_⟩;rw[i];refine λB P H s n R Q q=>x B P H s n R _ (qL q λT Z O z D E=>f_ D.weak E λc a Y f L=>?_);have s2:=z.trans (zF.upd (o:=x6 X.prog X.w a c) f);have M:=vg L (zF.upd (o:=x6 X.prog X.w a c) f);refine I B P _ s n (R.keep s2) _ (qL M λU N v u J w=>f_ J.weak w λK b d g F=>?_);have r:=u _ _ zh;exact⟨a,b,c,K,rfl,rfl,by rw[zj (qb r g)];exact r,zh,F _ _ (zF.upd g) (RV.of rfl)⟩
abbrev TAx:=St->Hp->(List V->Hp->Prop)->XK->Prop
def PAx(X:Cx)(es:Oq)(t:TAx):Prop:=
 ∀(c:Pos)(a:Oh)(s:Om)(b:St)(H:Hp)(Q:List V->Hp->Prop)(Z:XK),Inv X a b H s->t b H Q Z->wpAny (Px X) X.A (spliced (backTo c (starEach es X.env))) (AP X a b Q) (XP X a b Z) s
def DW(h:PEx X e tx)(f:starEach [e] X.env=[(false,eval e X.env)]:=by rfl):PAx X [e] (λc H Q Z=>tx c H (λx b=>Q [x] b) Z):=by intro d a s c H Q Z I g;rw[f];exact a1m (thn (h a s c H _ Z I g) λu m ⟨x,b,j,i,l⟩=>(a1O ⟨[x],b,j,.cons i .nil,l⟩))
def Aa(h:PE X.nox e te)(n:PAx X es t)(r:starEach (e::es) X.env=(false,eval e X.env)::starEach es X.env:=by rfl):PAx X (e::es) (λc H Q Z=>te c H λx f=>t c f (λg d=>Q (x::g) d) Z):=by intro b a s c H Q Z I w;rw[r];refine a1m (a0f (h a s c H _ (I.V7 _) w) (λu i q=>?_) λ_ _ z=>False.elim z);obtain⟨x,f,l,j,m⟩:=q.qX;exact thn (n b a i c f _ Z l m) λy s2 ⟨g,d,o,p,v⟩=>⟨x::g,d,o,.cons j p,v⟩
def DX{x1}(h:PAx X es t):PEx X (.Tuple es x1 pos) (λg H Q Z=>t g H (λf a=>f.length<=sizeLine/\∀p,a p=none->Q (.ref p) (upd a p (.tup f))) Z):=by intro c s g H Q Z I l;refine a4e (thn (h pos c s g H _ Z I l) λj d ⟨f,a,i,r,z,q⟩=>⟨by rw[<- r.length];exact z,?_⟩);have hf:=i.hok.fresh (O2 _);refine⟨.ref d.heap.objs.size,upd a d.heap.objs.size (.tup f),i.laid (λb u e=>O0 _ e) (O2 _) ?_,rfl,q _ hf⟩;exact⟨z,j,r,⟨_,P9 _ rfl,rfl,_,rfl⟩⟩
section
variable {X:Cx}{C:LC}{e:Ot}{pos:Pos}{f:Addr}
def Hk(K:OL)(F l:Addr)(h:TSx)(i:Nat)(ts ts2:Addr->TS):TS:=λD a H=>
 h D (λv o b=>∃e C d,v=.ref e/\o=some d/\b e=some (XC e C d)/\(Catch K C F true/\ts e { nx:=λ_ _=>False,rt:=D.rt } a b\/Catch K C F false/\Catch K C l true/\ts2 e { nx:=λ_ _=>False,rt:=D.rt } (a.set i (some (.ref e))) b)) a H
def Ab(P:Own X)(hb:CC X body tb)(hg:Gl X cx)(hm:X.mg cx=some (.ref F))(N:Gl X cx2)(U:X.mg cx2=some (.ref F2))
  (hN:X.N.Nodup) (hi:X.N[i]?=some n) (hx:Loc X.env.scope n) (hl:X.env.kindOf n=some .local) (hs:∀e,PSs (X.held (.ref e)) (A::suite) (ts e)) (K:∀e,PSs (X.held (.ref e)) (l::suite2) (ts2 e))
  (M:(cx==("__debug__":Str))=false:=by decide) (w:(cx2==("__debug__":Str))=false:=by decide) (hf:X.fn n=true\/X.env.scope.names.lookup n=some .local:=by first|exact .inl rfl|exact .inr rfl|assumption):
  PS X (.Try body [.ExceptHandler (some (.Name cx np)) none (A::suite) hp,.ExceptHandler (some (.Name cx2 np2)) (some n) (l::suite2) hp2] [] [] pos) (Hk X.K F F2 tb i ts ts2):=by
 intro a s σ H D I h;refine wpAny_Try_except (a0f (hb a s σ H D _ I h) (λf Y q=>?_) λv Y q=>?_)
 .cases f with
  |next=>exact a1I q
  |ret u=>exact q
  |brk=>exact q
  |cont=>exact q
 .obtain⟨H',e,C,dx,rfl,Z,fl,e',C',dx',ee,ed,hC,q⟩:=q;cases ee;cases ed;refine WA P Z.ok.frames Z fl λTn h2 I2 b2=>?_;refine Jo I2 zh b2 λh3 b W=>?_;rw[qD]at b W;have fA:∀(h:Heap),Inv X a σ (upd H' e (XO e C (some dx) (.ref Tn))) { Y with heap:=h }->∃o,h.get? e=some o/\o.cls=.ref C':=λh I'=>by have J:=I'.W4 zh;rw[qD]at J;obtain⟨t,T,sl,y⟩:=XC.get (J.hok e _ hC);exact⟨_,y,rfl⟩
  obtain⟨o,y,d⟩:=fA _ b;refine a2K (a2v ?_) (λz=>by cases z);refine Jm (b.held _) hg hm ?_ M;rcases q with⟨L,q⟩|⟨kn,L,q⟩
  .refine(Zv b.kIn y d L).here ?_;refine a3K ?_;refine Jo b zh W λh4 r Q=>?_;rw[qD]at r Q;have m:=(r.W4 zh).held (.ref e);rw[qD]at m;refine a0f (hs e a _ _ _ _ m q) (λf s6 z=>?_) λ_ _ z=>False.elim z;cases f with
   |ret u=>obtain⟨v,E,B,R,O,G⟩:=z;exact⟨v,_,B,R.oq I.ok,O,G⟩
   |next=>obtain⟨_,_,_,z⟩:=z;exact False.elim z
   |brk=>obtain⟨_,_,_,z⟩:=z;exact False.elim z
   |cont=>obtain⟨_,_,_,z⟩:=z;exact False.elim z
  .refine(Zv b.kIn y d kn).here ?_;refine a2K (a2v ?_) (λz=>by cases z);refine Jm (b.held _) N U ?_ w;refine(Zv b.kIn y d L).here ?_;refine codeAny_handlers_suite_as ?_;refine Jo b zh W λh4 r Q=>?_;rw[qD]at r Q;refine au r hN hi hx (v:=.ref e) rfl (λs5 I5=>?_) hf;have m:=(I5.W4 zh).held (.ref e);rw[qD]at m;refine a0f (K e a s5 _ _ _ m q) (λf s6 z=>?_) λ_ _ z=>False.elim z;cases f with
   |ret u=>obtain⟨v,E,B,R,O,G⟩:=z;exact name_goes (R.oq I.ok) hl λs7 I7=>⟨v,_,B,I7,O,G⟩
   |next=>obtain⟨_,_,_,z⟩:=z;exact False.elim z
   |brk=>obtain⟨_,_,_,z⟩:=z;exact False.elim z
   |cont=>obtain⟨_,_,_,z⟩:=z;exact False.elim z
end
def zX.erase{W:RC}{M:Ol}{H:Hp}:∀{a:OD}{b:Ow}(k:Nat),zX W M H a b->zX W M H (a.eraseIdx k) (b.eraseIdx k)
 |[],_,_,h=>by cases(show _=_ from h);rw[List.eraseIdx_nil,List.eraseIdx_nil];exact rfl
 |x::a,_,0,⟨_,_,e,_,h⟩=>by subst e;exact h
 |x::a,_,k+1,⟨v,r,e,c,h⟩=>by subst e;rw[a1c,a1c];exact⟨v,_,rfl,c,zX.erase k h⟩
def DY(i:Nat)(xs:OD)(ρ:Sto):PV->PV->Out Fw
 |.i j,y=>if 0<=j/\j.toNat<=xs.length/\xs.length<sizeLine then .ok (.nx (ρ.set i (some (.l (xs.take j.toNat++y::xs.drop j.toNat)))))else .wall
 |_,_=>.wall
def Lc(i:Nat)(b d:ME):MS:=λa=>match a[i]? with
 |some (some (.l c))=>(b a).bind λk=>(d a).bind λy=>DY i c a k y
 |_=>.wall
def Hl(i:Nat)(xs:OD)(ρ:Sto):PV->Out Fw
 |.i j=>if 0<=j/\j<xs.length/\j<1000000 then .ok (.nx (ρ.set i (some (.l (xs.eraseIdx j.toNat)))))else .wall
 |_=>.wall
def Ac(i:Nat)(m:ME):MS:=λa=>match a[i]? with
 |some (some (.l b))=>(m a).bind (Hl i b a)
 |_=>.wall
def r8(Z:PE X o (UJ i))(N:EM X C S false e m1)(Y:EM X C S false f m2)(t:S[i]?=some 2:=by rfl)(I:attributeBase o "insert" X.env (eval o X.env)=eval o X.env:=by rfl)
  (M:((backTo p (starEach [e,f] X.env)).all (λx=>!x.1)&&(backToKw p (keywordEach [] X.env)).all (λx=>x.1.isSome)&&decide ([e,f].length+([]:List Keyword).length+(if([]:List Keyword).isEmpty then 0 else 1)<30))=true:=by rfl)
  (W:(qO.endLine==p.line)=true:=by rfl) (E:starEach [e,f] X.env=(false,eval e X.env)::starEach [f] X.env:=by rfl) (l:starEach [f] X.env=[(false,eval f X.env)]:=by rfl) (hpl:(backTo p (starEach [f] X.env)).any (·.1)=false:=by rfl) (h:swapsWith (.Call (.Attribute o "insert" qO) [e,f] [] p) none pos.line X.env=pure false:=by rfl):
  SM X C S S Sb Sc (.Expr (.Call (.Attribute o "insert" qO) [e,f] [] p) pos) (Lc i m1 m2):=λF=>by
 obtain⟨te,Q,G⟩:=N F;obtain⟨tf,J,T⟩:=Y F;refine⟨_,K5 (uC a1d a3i PySem.F.type_list_insert rF Z (vi Q (vi J JO l) E) I M W E hpl) h,λB P H n a R D q=>?_⟩;unfold Lc at q;split at q
 .rename_i A O;obtain⟨d,⟨w,hp,b⟩,U⟩:=R.at2 t O;refine⟨_,d,.inl ⟨rfl,_,SqL.of hp⟩,G B P H n a R _ ?_⟩;revert q;cases m1 a with
  |exc c fs=>exact id
  |wall=>exact id
  |ok k=>
   intro q u K g L;have z:=R.keep g;refine T B P K n a z _ ?_;have q:=q;revert q;cases m2 a with
   |exc c fs=>exact id
   |wall=>exact id
   |ok y=>
    intro q v H2 s r;have q:wH C B S Sb Sc D (DY i A a k y):=q;cases k with
    |i j=>
     unfold DY at q;dsimp only at q;cases(show u=V.int j from L);split at q
     .rename_i hz;have R2:=z.keep s;have f:=Mof.wr (o:=.lst (w.take j.toNat++v::w.drop j.toNat)) R2 t;have b:=b.same (g.trans s);refine⟨_,w,j,v,rfl,rfl,(g.trans s) _ _ hp,hz.1,by rw[b.len];exact hz.2.1,by rw[b.len];exact hz.2.2,q P _ n (R2.wr t U d (by exact id) ?_)⟩;exact⟨_,zh,((b.take _).append (.cons r.rep (b.drop _))).gen f λ_ m _=>m⟩
     .exact q.elim
    |_=>exact q.elim
 .exact q.elim
def DZ(O:PE X o (UJ i))(h:EM X C S false e m)(t:S[i]?=some 2:=by rfl)(z:attributeBase o "pop" X.env (eval o X.env)=eval o X.env:=by rfl)
  (E:((backTo p (starEach [e] X.env)).all (λx=>!x.1)&&(backToKw p (keywordEach [] X.env)).all (λx=>x.1.isSome)&&decide (([e]:List Expr).length+([]:List Keyword).length+(if([]:List Keyword).isEmpty then 0 else 1)<30))=true:=by rfl)
  (N:(qO.endLine==p.line)=true:=by rfl) (w:starEach [e] X.env=[(false,eval e X.env)]:=by rfl) (n:swapsWith (.Call (.Attribute o "pop" qO) [e] [] p) none pos.line X.env=pure false:=by rfl):
  SM X C S S Sb Sc (.Expr (.Call (.Attribute o "pop" qO) [e] [] p) pos) (Ac i m):=λQ=>by
 obtain⟨U,K,y⟩:=h Q;refine⟨_,K5 (uC a1d a3Q a3R uE O (vi K JO (by rw[w];rfl)) z E N (by rw[w];rfl) rfl) n,λB P H v r R D q=>?_⟩;unfold Ac at q;split at q
 .rename_i I s;obtain⟨b,⟨a,hp,d⟩,L⟩:=R.at2 t s;refine⟨_,b,.inl ⟨rfl,_,SqL.of hp⟩,y B P H v r R _ ?_⟩;revert q;cases m r with
  |exc c fs=>exact id
  |wall=>exact id
  |ok k=>
   intro q u T g A;have q:wH C B S Sb Sc D (Hl i I r k):=q;cases k with
   |i j=>
    unfold Hl at q;dsimp only at q;cases A;split at q
    .rename_i M;have R2:=R.keep g;have f:=Mof.wr (o:=.lst (a.eraseIdx j.toNat)) R2 t;have d:=d.same g;have F:=d.len;have l:j.toNat<a.length:=by omega
     have s:seqIndex? j a.length=some j.toNat:=by
      have J:¬j<0:=by omega
      have G:j<a.length:=by omega
      simp only[seqIndex?,J,if_false,M.1,G,decide_true,Bool.and_self,if_true]
     exact⟨_,a,j,j.toNat,a[j.toNat],rfl,rfl,g _ _ hp,by omega,by omega,s,O3 l,q P _ v (R2.wr t L b (by exact id) ⟨_,zh,(d.erase _).gen f λ_ m _=>m⟩)⟩
    .exact q.elim
   |_=>exact q.elim
 .exact q.elim
def r9(r m p:R2)(l q o j:TE):TE:=λa H Q=>l a H λx i=>q a i λy g=>r x y g λz e=>∃k,z=.bl k/\
 (if k=true then o a e λd n=>m y d n λh c=>∃b,h=.bl b/\(if b=true then j a c λu f=>p d u f Q else Q (.bl false) c)else Q (.bl false) e)
def Xq(p q r:Pl)(e f g d:ME):ME:=λa=>(e a).bind λx=>(f a).bind λy=>(p x y).bind λz=>(asB z).bind λk=>if k=true then(g a).bind λw=>(q y w).bind λb=>(asB b).bind λc=>if c=true then(d a).bind λu=>r w u else .ok (.b false)else .ok (.b false)
def r_(ho:OpR X (compareOp op) r)(n:OpR X (compareOp op') r')(j:OpR X (compareOp op2) i)(K:PE X a ta)(hb:PE X b tb)(hc:PE X c tc)(hd:PE X d td)
  (R:lastMarks [op,op',op2] [b,c,d]=false:=by with_unfolding_all rfl):PT X (.Compare a [op,op',op2] [b,c,d] pos) (Cp (r9 r r' i ta tb tc td)):=by
 intro f s g H Q I h;refine isTrue_chain (thn (K f s g H _ I h) λv S ⟨x,Z,I1,r1,q1⟩=>test_link (thn (hb f S g Z _ I1 q1) λu s2 ⟨y,M,I2,i,q2⟩=>
  thn (ho f s2 g M x y v u _ I2 r1 i q2) λd L ⟨z,C,o,P,k,e,D⟩=>?_)) R
 subst e;cases P;refine a0Z ?_;cases k with
 |false=>obtain⟨G,m,l⟩:=D;cases m;exact ite_ff ⟨C,o,l⟩
 |true=>
  refine ite_tt (test_link (thn (hc f L g C _ o D) λt T ⟨B,H4,I4,w,N⟩=>thn (n f T g H4 y B u t _ I4 i w N) λd' s5 ⟨z2,p,q,r5,F,Y,A⟩=>?_));subst Y;cases r5;refine a0Z ?_;cases F with
  |false=>obtain⟨G,m,l⟩:=A;cases m;exact ite_ff ⟨p,q,l⟩
  |true=>refine ite_tt (test_last (thn (hd f s5 g p _ q A) λw2 s6 ⟨E,J,I6,O,W⟩=>thn (j f s6 g J B E t w2 _ I6 w O W) λd7 s7 ⟨z7,H7,I7,U,k7,e7,q7⟩=>?_));subst e7;cases U;exact a0Z ⟨H7,I7,q7⟩
def sd(L:Lf2 C.W r p)(L':Lf2 C.W r' p')(Lq:Lf2 C.W g p2)(Z:LE C S w1 ta m1)(h2:LE C S w2 tb m2)(W:LE C S w3 tc m3)(h4:LE C S w4 td m4):LE C S false (r9 r r' g ta tb tc td) (Xq p p' p2 m1 m2 m3 m4):=λB P H f a R Q q=>
 Z B P H f a R _ (zT q λx v X j Y q1=>h2 B P X f a (R.keep j) _ (zT q1 λy u I s2 g q2=>L _ C B I x y v u _ ((R.keep j).keep s2).new (Y.same s2).weak g.weak (zT q2 λz G m n N e=>by
  cases z with
  |b k=>
   refine⟨k,N,?_⟩;have i:=((R.keep j).keep s2).keep n;have e:=e;cases k with
   |true=>
    refine A_ (W B P m f a i _ (zT e λt A H4 l s J=>L' _ C B H4 y t u A _ (i.keep l).new ((g.same n).same l).weak s.weak (zT J λz5 K h E r5 d=>?_)));cases z5 with
    |b c=>
     refine⟨c,r5,?_⟩;have D:=(i.keep l).keep E;have d:=d;cases c with
     |true=>exact A_ (h4 B P h f a D _ (zT d λt6 O F o M T=>Lq _ C B F t t6 A O Q (D.keep o).new ((s.same E).same o).weak M.weak (RV.eq▸T)))
     |false=>exact A9 (d (.bl false) h (zF.refl _) (RV.of rfl))
    |_=>exact d.elim
   |false=>exact A9 (e (.bl false) m (zF.refl _) (RV.of rfl))
  |_=>exact e.elim)))
def sf(o:OpR X (compareOp op) r)(h:OpR X (compareOp op') r')(y:OpR X (compareOp op2) r2)(L:Lf2 C.W r p)(z:Lf2 C.W r' p')(q:Lf2 C.W r2 p2)(m:EM X C S w1 a m1)(x:EM X C S w2 b m2)(i:EM X C S w3 c m3)(v:EM X C S w4 d m4)
  (g:lastMarks [op,op',op2] [b,c,d]=false:=by with_unfolding_all rfl):TM X C S (.Compare a [op,op',op2] [b,c,d] pos) (zQ (Xq p p' p2 m1 m2 m3 m4)):=λe=>by
 obtain⟨B,s,f⟩:=m e;obtain⟨E,j,t⟩:=x e;obtain⟨D,w,u⟩:=i e;obtain⟨A,n,l⟩:=v e;exact⟨_,r_ o h y s j w n g,fv (sd L z q f t u l)⟩
def Hm(y:V)(xs:Ow):Nat:=xs.countP λv=>eqV v y
def D0(K:OL):V->List V->Hp->VK->Prop:=λx b H Q=>∃(p:Addr)(a:Ow)(y:V),x=.ref p/\b=[y]/\Qy y=true/\a.all Qy=true/\SqL K H p a/\Q (.int (Hm y a)) H
theorem iN{y:V}:∀{a:Ow}{b:Oo},Vals a b->a.all Qy=true->b.countP (eqU y)=Hm y a
 |[],_,.nil,_=>rfl
 |x::a,_,.cons r c,h=>by rw[a0W,S8]at h;unfold Hm;rw[a2p,a2p,iN c h.2,n4 r h.1];rfl
def sg:MtM X "list.count" (D0 X.K):=by intro g s E H x F v C Q I o z h;obtain⟨p,D,y,rfl,rfl,t,d,A,q⟩:=h;cases o;obtain⟨u,rfl,i⟩:=z.one;obtain⟨a,r,m,_⟩:=I.list A;obtain⟨⟨cls,l,c,B⟩,f,b,n,e⟩:=id m.isList;subst b e;refine a2f a3s ⟨_,f,rfl⟩ PySem.F.entry_list_count (PySem.F.args_list_count_2 _ _) (PySem.SeqAt.list_countAt p a.toArray n l B u (eqU y)) ⟨f,λw j=>Qr i t r d w (by grind),?_⟩;rw[iN r d];exact⟨.int _,H,I.tok _,⟨_,rfl⟩,q⟩
def BH(v:V):List PV->Option Nat
 |[]=>some 0
 |y::r=>match toV y,BH v r with
  |some u,some n=>some (n+if eqV u v=true then 1 else 0)
  |_,_=>none
theorem si{W:RC}{M:Ol}{H:Hp}{v:V}:∀{b:OD}{d:Ow}{n:Nat},zX W M H b d->BH v b=some n->d.all Qy=true/\Hm v d=n
 |[],_,_,h,e=>by cases h;cases e;exact⟨rfl,rfl⟩
 |y::b,_,n,h,e=>by
  obtain⟨u,r,rfl,i,j⟩:=h;unfold BH at e;cases a:toV y with
  |none=>rw[a]at e;cases e
  |some l=>
   cases c:BH v b with
   |none=>rw[a,c]at e;cases e
   |some k=>rw[a,c]at e;cases e;obtain⟨rfl,f⟩:=JU (yI.iff.mpr i) a;obtain⟨g,rfl⟩:=si j c;refine⟨by rw[a0W,f,g];rfl,?_⟩;unfold Hm;rw[a2p]
def gb(xs:OD)(y:PV):Out PV:=wD (((toV y).bind λv=>BH v xs).map λ(n:Nat)=>.i n)
def sj(b d:ME):ME:=λa=>(b a).bind λx=>match x with
 |.l c=>(d a).bind (gb c)
 |_=>.wall
def so(U:EM X C S w1 o m1)(t:EM X C S w2 e m2)(E:attributeBase o "count" X.env (eval o X.env)=eval o X.env:=by rfl)
  (G:((backTo jK (starEach [e] X.env)).all (λx=>!x.1)&&(backToKw jK (keywordEach [] X.env)).all (λx=>x.1.isSome)
   && decide (([e]:List Expr).length+([]:List Keyword).length+(if([]:List Keyword).isEmpty then 0 else 1)<30))=true:=by rfl)
  (N:(qO.endLine==jK.line)=true:=by rfl) (m:starEach [e] X.env=[(false,eval e X.env)]:=by rfl):EM X C S false (.Call (.Attribute o "count" qO) [e] [] jK) (sj m1 m2):=λr=>by
 obtain⟨W,J,A⟩:=U r;obtain⟨Y,F,L⟩:=t r;refine⟨_,uC a1d a3s PySem.F.type_list_count sg J (vi F JO (by rw[m];rfl)) E G N (by rw[m];rfl) rfl,λB P H i b R Q q=>A B P H i b R _ (zT q λx v f D I a=>?_)⟩;cases x with
 |l g=>
  obtain⟨p,j,rfl,_,h,s⟩:=I.weak;refine⟨.inl ⟨rfl,j,SqL.of h⟩,L B P f i b (R.keep D) _ ?_⟩;have a:=a;revert a;cases m2 b with
  |exc c fs=>exact id
  |wall=>exact id
  |ok y=>intro a u w s2 T;have a:=a;obtain⟨z,e,a⟩:=yU a;obtain⟨n,d,rfl⟩:=v1.mp e;obtain⟨Z,O,d⟩:=S7.mp d;obtain⟨rfl,K⟩:=JU T.weak O;obtain⟨M,rfl⟩:=si s d;exact⟨p,j,u,rfl,rfl,K,M,SqL.of (s2 _ _ h),a _ w s2 (RV.of rfl)⟩
 |_=>exact a.elim
def Ad(b c:HME):HME:=λa G=>match b a G with
 |.ok x d=>(c a d).bind λy e=>.ok (mkT [x,y]) e
 |_=>.wall
section
variable {X:Cx}{W:RC}{E:XK}{c e:Ot}{pos:Pos}{m:HME}{j:Nat}{m1 m2 m3:HMS}
def D4{x1}(i:HE X.nox W E0 c n1)(r:HEX X W e n2)(o:starEach [e] X.env=[(false,eval e X.env)]:=by rfl)(a:starEach [c,e] X.env=(false,eval c X.env)::starEach [e] X.env:=by rfl):HEX X W (.Tuple [c,e] x1 pos) (Ad n1 n2):=λF=>by
 obtain⟨tc,O,N⟩:=i F;obtain⟨te,M,I⟩:=r F;refine⟨_,DX (Aa O (DW M o) a),λZ D A H B f G R Q z q=>N Z D A H B f G R _ ?_⟩;unfold Ad at q;revert q;cases n1 f G with
 |wall=>exact id
 |exc c fs U=>exact λq=>q.elim
 |ok x l=>
  intro q C w i t v L;refine I Z D C w B f l (R.gro i t) _ z ?_;have q:=HPx.gro q t;refine HPx.bind q λy g h b r J S u K=>⟨S6 rfl,λp hp=>?_⟩;have s:zF h (upd h p (.tup [v,u])):=zF.upd hp;refine S g _ (r.keep s) (Gro.same s) _ ?_;have T:jd Z.W (HM Z g b.length) g b.length h [x,y] [v,u]:=by unfold jd;refine⟨v,_,rfl,L.gro J,?_⟩;unfold jd;refine⟨u,_,rfl,K,?_⟩;unfold jd;rfl
  have d:=T.gro (Gro.same s);unfold mkT;split
  .rename_i Y P;exact⟨p,_,rfl,.inl (.inl zh),Kc P d⟩
  .exact⟨p,_,rfl,.inl (.inl zh),d⟩
def Hn(h:HEX X W e m):HXS X W [.Return (some e) pos] (Ue m):=λt=>by obtain⟨y,o,d⟩:=h t;refine⟨_,g5 (CF o),λZ s A H p a G R D b q=>d Z s A H p a G R _ b ?_⟩;exact HPs.bind q λx r f w g u i v l=>i r f v g Gro.refl l
def Kh(cs d:Og)(m1 m2:HMS)(j:Nat)(m3:HMS):HMS:=λb G=>match m1 b G with
 |.nx g a=>.nx g a
 |.rt x a=>.rt x a
 |.exc c fs a=>if c∈cs then(match m2 b a with
  |.rt x f=>.rt x f
  |_=>.wall)else if c∈d then(match m3 (b.set j (some (.v (.x c fs)))) a with
  |.rt x f=>.rt x f
  |_=>.wall)else .wall
 |_=>.wall
def Ae(O:Own X)(hb:HXS X W body m1)(hg:Gl X cx)(hm:X.mg cx=some (.ref F))(L:Gl X cx2)(P:X.mg cx2=some (.ref F2))
  (hN:X.N.Nodup) (hi:X.N[j]?=some n) (p:Loc X.env.scope n) (hs:∀e,HSs (X.held (.ref e)) W E (b₀::suite) m2) (C:∀e,HSs (X.held (.ref e)) W E (l::suite2) m3) (J:∀c∈cs,Catch X.K (W.cls c) F true) (d:∀c∈cs2,Catch X.K (W.cls c) F false/\Catch X.K (W.cls c) F2 true) (hl:X.env.kindOf n=some .local:=by rfl)
  (K:(cx==("__debug__":Str))=false:=by decide) (o:(cx2==("__debug__":Str))=false:=by decide) (hf:X.fn n=true\/X.env.scope.names.lookup n=some .local:=by first|exact .inl rfl|exact .inr rfl|assumption):
  HS X W E (.Try body [.ExceptHandler (some (.Name cx np)) none (b₀::suite) hp,.ExceptHandler (some (.Name cx2 np2)) (some n) (l::suite2) hp2] [] [] pos) (Kh cs cs2 m1 m2 j m3):=λS=>by
 obtain⟨tb,a1,a2⟩:=hb S;have f:=λe=>hs e S;have a:=λe=>C e S;refine⟨_,Ab O a1 hg hm L P hN hi p hl (λe=>(a0j (f e)).1) (λe=>(a0j (a e)).1) K o hf,λZ U A H σ t G R D q=>a2 Z U A H σ t G R D _ ?_⟩;unfold Kh at q;revert q;cases m1 t G with
 |wall=>exact id
 |nx s b=>exact id
 |rt x b=>exact id
 |bk s b=>exact λq=>q.elim
 |ct s b=>exact λq=>q.elim
 |exc c fs b=>
  intro q T Q e B es h g I h2 h3;have q:HPs Z E A G.length H D (if c∈cs then(match m2 t b with
   |.rt x r=>.rt x r
   |_=>.wall)else if c∈cs2 then(match m3 (t.set j (some (.v (.x c fs)))) b with
   |.rt x r=>.rt x r
   |_=>.wall)else .wall):=q
  have Y:=(R.gro h g).set (i:=j) (x:=.v (.x c fs)) (show Rep Z.W _ Q (.x c fs) _ from⟨e,B,es,rfl,I,h2,h3⟩);subst U;split at q
  .rename_i u;refine⟨e,_,B,rfl,rfl,I,.inl ⟨J c u,(a0j (f e)).2 Z rfl T Q _ _ b (R.gro h g) _ ?_⟩⟩;split at q
   .rename_i x r p;rw[p];exact λM z v y N w=>q M z v y (g.trans N) w
   .exact q.elim
  .split at q
   .rename_i u;refine⟨e,_,B,rfl,rfl,I,.inr ⟨(d c u).1,(d c u).2,(a0j (a e)).2 Z rfl T Q _ _ b Y _ ?_⟩⟩;split at q
    .rename_i x r p;rw[p];exact λM z v y N w=>q M z v y (g.trans N) w
    .exact q.elim
   .exact q.elim
end
end L2
namespace K85
open PySem L2
noncomputable section NCS
def top(i:Nat):Stmt:=PySem.Challenge.pw_fleetpath_k85_care_held.main.body.getD i (.Pass ⟨0,0,0,0⟩)
abbrev Vf:Stmt:=top 39
abbrev wK:Stmt:=inClass (top 5) 0
abbrev YA:Stmt:=top 13
abbrev wL:Stmt:=inClass (top 3) 0
abbrev wM:Stmt:=top 10
abbrev YB:Stmt:=inClass (top 6) 0
abbrev je:Stmt:=top 12
abbrev j_:Stmt:=inClass (top 4) 0
abbrev ke:Stmt:=top 11
abbrev ZE:Stmt:=top 19
abbrev YC:Stmt:=top 22
abbrev jf:Stmt:=top 20
abbrev bh:Stmt:=top 21
abbrev jB:Stmt:=top 23
abbrev wN:Stmt:=inClass (top 17) 0
abbrev wO:Stmt:=top 24
abbrev ZF:Stmt:=top 25
abbrev wQ:Stmt:=inClass (top 18) 0
abbrev wR:Stmt:=top 26
abbrev bj:Stmt:=top 27
abbrev sr:Stmt:=top 28
abbrev Vg:Stmt:=top 49
abbrev YD:Stmt:=top 43
abbrev Jv:Stmt:=top 50
abbrev YE:Stmt:=top 51
abbrev Jw:Stmt:=top 44
abbrev Xr:Stmt:=top 42
abbrev Vh:Stmt:=top 40
abbrev Vi:Stmt:=top 41
abbrev jg:Stmt:=top 33
abbrev jh:Stmt:=top 36
abbrev YF:Stmt:=top 30
abbrev ZG:Stmt:=top 37
abbrev kf:Stmt:=top 48
abbrev Jx:Stmt:=top 45
abbrev YG:Stmt:=top 46
abbrev YH:Stmt:=top 52
abbrev ZH:Stmt:=top 31
abbrev ZI:Stmt:=top 34
abbrev YI:Stmt:=top 35
abbrev vn:Stmt:=top 47
abbrev D5:Stmt:=top 53
def scB(N P:Oj)(a:Scope):Bool:=(match a.kind with | .function=>true|_=>false)&&(!a.isCoroutine&&(!a.isGenerator&&(decide N.Nodup&&(decide (N.take P.length=P)&&(P.all (λx=>match a.names.lookup x with|some .local=>true|some .cell=>true|_=>false)&&a.names.all λy=>match y.2 with | .free=>false|_=>true)))))
def Zh(h:scB N P sc=true):zy N P sc:=by
 unfold scB at h;simp only[Bool.and_eq_true,decide_eq_true_eq,List.all_eq_true]at h;obtain⟨c,l,a,d,b,f,i⟩:=h;refine⟨?_,by simpa using l,by simpa using a,d,b,λx g=>?_,λy j e=>?_⟩
 .revert c;cases sc.kind<;>simp
 .have:=f x g;split at this<;>simp_all
 .have:=i y j;rw[e]at this;cases this
def Jy:zy ["_law_script","_law_k","_law_many","_law_cell"] ["_law_script","_law_k","_law_many"] (zm Vf):=Zh rfl
def Xs:zy ["self","most"] ["self","most"] (zm wK):=Zh (by decide +kernel)
def bo:zy ["things","most"] ["things","most"] (zm YA):=Zh rfl
def Xt:zy ["self","name"] ["self","name"] (zm wL):=Zh rfl
def YJ:zy ["name","sign"] ["name"] (zm wM):=Zh rfl
def bp:zy ["self","name"] ["self","name"] (zm YB):=Zh rfl
def Jz:zy ["name","had"] ["name","had"] (zm je):=Zh (by decide +kernel)
def Vj:zy ["self","value"] ["self","value"] (zm j_):=Zh (by decide +kernel)
def Vk:zy ["value","least"] ["value","least"] (zm ke):=Zh (by decide +kernel)
def yN:zy ["weeks","had","name","metre","due","loads","load"] ["weeks"] (zm ZE):=Zh rfl
def bq:zy ["metre","due","loads"] ["metre","due","loads"] (zm YC):=Zh (by decide +kernel)
def qN:zy ["metre","due","loads","night","ahead","behind"] ["metre","due","loads","night"] (zm jf):=Zh (by decide +kernel)
def sv:zy ["metre","due","loads"] ["metre","due","loads"] (zm bh):=Zh rfl
def yt:zy ["weeks","chosen","name","metre","due","loads"] ["weeks"] (zm jB):=Zh rfl
def Xu:zy ["self","name"] ["self","name"] (zm wN):=Zh (by decide +kernel)
def YK:zy ["chosen","name"] ["chosen"] (zm wO):=Zh rfl
def Um:zy ["chosen","first","last"] ["chosen","first","last"] (zm ZF):=Zh (by decide +kernel)
def Xv:zy ["self","first","last","cars"] ["self","first","last","cars"] (zm wQ):=Zh rfl
def jj:zy ["chosen","bays","first","last","cars"] ["chosen","bays"] (zm wR):=Zh (by decide +kernel)
def YL:zy ["chosen","bays","told","night","waiting","name"] ["chosen","bays"] (zm bj):=Zh (by decide +kernel)
def gc:zy ["weeks","bays","chosen","told"] ["weeks","bays"] (zm sr):=Zh rfl
def Xw:zy ["_law_weeks","_law_bays","e"] ["_law_weeks","_law_bays"] (zm Vg):=Zh rfl
def yW:zy ["_law_week_here","_law_name_here","_law_metre","_law_due","_law_loads","_law_found","_law_night"] ["_law_week_here"] (zm YD):=Zh rfl
def jU:zy ["_law_script","_law_weeks","_law_told_here","_law_k","_law_some"] ["_law_script","_law_weeks"] (zm Jv):=Zh rfl
def kY:zy ["_law_script","_law_told_here","_law_way","_law_name_here"] ["_law_script","_law_told_here"] (zm YE):=Zh (by decide +kernel)
def vP:zy ["_law_weeks","_law_bays","_law_told_here","_law_taken","_law_week_here","_law_night"] ["_law_weeks","_law_bays","_law_told_here"] (zm Jw):=Zh rfl
def yJ:zy ["_law_script","_law_weeks","_law_way","_law_at","_law_name_here","_law_metre","_law_due","_law_loads"] ["_law_script","_law_weeks"] (zm Xr):=Zh rfl
def JA:zy ["_law_script","_law_k","_law_number","_law_ahead","_law_behind"] ["_law_script","_law_k","_law_number"] (zm Vh):=Zh rfl
def yh:zy ["_law_script","_law_k","_law_scale","_law_loads","_law_j","_law_load","_law_metre","_law_spot","_law_way","_law_due"] ["_law_script","_law_k"] (zm Vi):=Zh rfl
def JB:zy ["weeks","bays"] ["weeks","bays"] (zm jg):=Zh rfl
def JC:zy ["metre","due","loads","first","last"] ["metre","due","loads","first","last"] (zm jh):=Zh rfl
def br:zy ["things"] ["things"] (zm YF):=Zh rfl
def QH:zy ["weeks","bays","first","last","names","crowd"] ["weeks","bays","first","last","names"] (zm ZG):=Zh rfl
def jC:zy ["_law_weeks","_law_bays","_law_first","_law_last","_law_names","_law_due","_law_handed","_law_found"] ["_law_weeks","_law_bays","_law_first","_law_last","_law_names","_law_due"] (zm kf):=Zh rfl
def jV:zy ["_law_weeks","_law_bays","_law_first","_law_last","_law_names","_law_board","_law_k","_law_week_here","_law_night"] ["_law_weeks","_law_bays","_law_first","_law_last","_law_names"] (zm Jx):=Zh (by decide +kernel)
def bt:zy ["_law_week_here","_law_first","_law_last"] ["_law_week_here","_law_first","_law_last"] (zm YG):=Zh (by decide +kernel)
def zB:zy ["_law_script","_law_weeks","_law_bays","_law_word","_law_first","_law_last","_law_found","_law_some","_law_names","_law_way","_law_due","_law_wrong"] ["_law_script","_law_weeks","_law_bays","_law_word"] (zm YH):=Zh rfl
def Uo:zy ["costs","things"] ["costs","things"] (zm ZH):=Zh rfl
def Uq:zy ["metre","due","loads","night"] ["metre","due","loads","night"] (zm ZI):=Zh (by decide +kernel)
def Ki:zy ["weeks","bays","told","taken"] ["weeks","bays","told"] (zm YI):=Zh rfl
def kg:zy ["_law_weeks","_law_bays","_law_told_here","_law_due","_law_handed","_law_found"] ["_law_weeks","_law_bays","_law_told_here","_law_due"] (zm vn):=Zh (by decide +kernel)
def QI:zy ["_law_script","_law_weeks","_law_bays","_law_word","_law_names","_law_told_here","_law_due","_law_wrong"] ["_law_script"] (zm D5):=Zh rfl
abbrev NsN(K:OW)(x:Str):Prop:=W.nsIn K mainGlobals x=some none
abbrev NsR(K:OW)(x:Str)(c:Addr):Prop:=W.nsIn K mainGlobals x=some (some (.ref c))
def ev(i:Nat)(b:X.N[i]?=some x:=by rfl)(c:Vis X.env.scope x:=by first|exact Or.inl rfl|exact Or.inr (Or.inl rfl)|exact Or.inr (Or.inr rfl))(d:(x==("__debug__":Str))=false:=by decide)(a:(x==("__classdict__":Str))=false:=by decide):EM X C S true (.Name x pos) (zc i):=Gd (pv i b c d a)
def ei{j}:EM X C S false (.Constant (.int i) j pos) (mC (.i i)):=QB Fp
def rm(a:j7 k A)(h:j<=k:=by decide):j7 j A:=a.mono h
def Ho(c:W.findIn K (.ref C) "__init__"=some (some (.ref f)))(e:K.lookup C=some (excClassObj nm q C N bs bm true sn sub ab col dd k0 k1 k2 k3 k5 "ValueError.__new__"))(a:cL K bm=true)(d:W.typeIn K (.ref f)=some (.type "function"))(b:W.keepIn K (.ref C)=true):XMk K C f:=⟨⟨_,_,_,_,_,_,_,_,_,_,_,_,_,_,_,e,a⟩,c,d,b⟩
abbrev fnT(st:OY)(sh q:Str)(kV dc pm:Value)(an:OP)(cd ct:Value):FuncData:=W.fnOf sh q (W3 st) (Zu st) (zm st) .none kV dc pm an cd ct
abbrev DfN(K:OW)(x:Str)(st:OY)(f:Addr)(fd:OH):Prop:=W.nsIn K mainGlobals x=some (some (.ref f))/\Fun K x x st f fd
structure Def(K:OW)(mg:Oi)(x:Str)(st:OY)(ps:Oj)(f:Addr)(fd:OH):Prop where
 g:mg x=some (.ref f)
 F:Fun K x x st f fd
 b:Binds K fd ps []
def Def.k(D:Def K mg x st ps f fd):W.keepIn K (.ref f)=true:=D.F.kp
abbrev BN(x q:Str)(st:OY)(ps:Oj):Prop:=∀(kV dc pm:Value)(an:OP)(cd ct:Value)(us:Oo),us.length=ps.length->bindArgs (fnT st x q kV dc pm an cd ct) ⟨us,[]⟩=pure (ps.zip us)
def yj(X:K.In h)(G:h.Ns mainGlobals mg)(D:DfN K x st f fd)(b:BN x x st ps):Def K mg x st ps f fd:=⟨a1y X G D.1,D.2,D.2.binds b⟩
def fz{P:Pf}:∀c∈([]:List Nat),P c:=λ_ h=>nomatch h
def fa{P:Pf}{a:Nat}{l:Og}(h:P a)(t:∀c∈l,P c):∀c∈a::l,P c:=by grind
def ec{X:Cx}{C:LC}{S:Og}{k j:Nat}{f:Addr}{c:OH}{d:Oj}{fr:Bool}{ws:Ou}{g:OB}{x:Str}{st:OY}{e:Ot}{es:Oq}{ms:MA}{p a:Pos}(F:qz X.prog X.w X.K X.mg X.base (CXe X.prog X.w) k f c d (lsp C.W fr ws g))(i:j7 j X.A)(D:Def X.K X.mg x st d f c)(n:Passes (CXe X.prog X.w) X C.E)(h:AM X C S ws (e::es) ms)(l:k<=j:=by decide)(m:Gl X x:=by rfl)
  (b:(x==("__debug__":Str))=false:=by decide) (he:starEach (e::es) X.env=(false,eval e X.env)::starEach es X.env:=by rfl) (hpl:(backTo a (starEach es X.env)).any (·.1)=false:=by rfl):EM X C S false (.Call (.Name x p) (e::es) [] a) (zf g ms):=C1 F (i.mono l) m D.g D.k D.b n h b he hpl
def gn(i:Nat)(c:X.N.Nodup)(b:X.N[i]?=some x:=by rfl)(a:Loc X.env.scope x:=by exact .inl rfl)(hf:X.fn x=true\/X.env.scope.names.lookup x=some .local:=by first|exact .inl rfl|exact .inr rfl|assumption):GM X C S (S.set i 0) (.Name x pos) (gNm i):=zW c b a hf
def se(i:Nat)(d:X.N.Nodup)(h:EM X C S false e m)(c:X.N[i]?=some x:=by rfl)(b:Loc X.env.scope x:=by exact .inl rfl)(a:swapsWith e (some (.Name x pos')) pos.line X.env=pure false:=by rfl)(hf:X.fn x=true\/X.env.scope.names.lookup x=some .local:=by first|exact .inl rfl|exact .inr rfl|assumption):SM X C S (S.set i 0) Sb Sc (.Assign [.Name x pos'] e pos) (yH i m):=QD d c b h a hf
def ix(f:j7 k X.A)(c:EM X C S w1 a m1)(e:EM X C S w2 b m2)(d:fe b:=by intro _ _;rfl):EM X C S false (.Subscript a b pos) (mOp pIx m1 m2):=LX (Yj f) c e d
def hse(i:Nat)(d:X.N.Nodup)(h:HE X W E e m)(c:X.N[i]?=some x:=by rfl)(b:Loc X.env.scope x:=by exact .inl rfl)(a:swapsWith e (some (.Name x pos')) pos.line X.env=pure false:=by rfl)(hf:X.fn x=true\/X.env.scope.names.lookup x=some .local:=by first|exact .inl rfl|exact .inr rfl|assumption):HS X W E (.Assign [.Name x pos'] e pos) (Vz i m):=rg d c b h a hf
def hp(h:EM X ⟨W,E,false⟩ (List.replicate 30 0) false e m):HE X W E e (hP bs m):=N5 bs h (a0d.mpr λ_ h=>by rw[a3l h];rfl)
def hf(h:FM X ⟨W,E,false⟩ (List.replicate 30 0) e m):HE X W E e (hF bs m):=N6 bs h (a0d.mpr λ_ h=>by rw[a3l h];rfl)
def bn1(h:∀kV d a c cd ct b,bindArgs (fnT st x q kV d a c cd ct) ⟨[b],[]⟩=pure (ps.zip [b]):=by intros;rfl)(hp:ps.length=1:=by rfl):BN x q st ps:=λkV d a c cd ct e f=>Mh (P:=λe=>bindArgs (fnT st x q kV d a c cd ct) ⟨e,[]⟩=pure (ps.zip e)) (f.trans hp) λb=>h kV d a c cd ct b
def bn2(h:∀kV e a d cd ct b c,bindArgs (fnT st x q kV e a d cd ct) ⟨[b,c],[]⟩=pure (ps.zip [b,c]):=by intros;rfl)(hp:ps.length=2:=by rfl):BN x q st ps:=λkV e a d cd ct f g=>Mi (P:=λf=>bindArgs (fnT st x q kV e a d cd ct) ⟨f,[]⟩=pure (ps.zip f)) (g.trans hp) λb c=>h kV e a d cd ct b c
def bn3(h:∀kV f a e cd ct b c d,bindArgs (fnT st x q kV f a e cd ct) ⟨[b,c,d],[]⟩=pure (ps.zip [b,c,d]):=by intros;rfl)(hp:ps.length=3:=by rfl):BN x q st ps:=λkV f a e cd ct g i=>Mj (P:=λg=>bindArgs (fnT st x q kV f a e cd ct) ⟨g,[]⟩=pure (ps.zip g)) (i.trans hp) λb c d=>h kV f a e cd ct b c d
def bn4(h:∀kV g a f cd ct b d e c,bindArgs (fnT st x q kV g a f cd ct) ⟨[b,d,e,c],[]⟩=pure (ps.zip [b,d,e,c]):=by intros;rfl)(hp:ps.length=4:=by rfl):BN x q st ps:=λkV g a f cd ct i j=>Mk (P:=λi=>bindArgs (fnT st x q kV g a f cd ct) ⟨i,[]⟩=pure (ps.zip i)) (j.trans hp) λb d e c=>h kV g a f cd ct b d e c
def bn5(h:∀kV i a g cd ct b d f c e,bindArgs (fnT st x q kV i a g cd ct) ⟨[b,d,f,c,e],[]⟩=pure (ps.zip [b,d,f,c,e]):=by intros;rfl)(hp:ps.length=5:=by rfl):BN x q st ps:=λkV i a g cd ct j l=>Ml (P:=λj=>bindArgs (fnT st x q kV i a g cd ct) ⟨j,[]⟩=pure (ps.zip j)) (l.trans hp) λb d f c e=>h kV i a g cd ct b d f c e
def bn6(h:∀kV j a i cd ct b e g d f c,bindArgs (fnT st x q kV j a i cd ct) ⟨[b,e,g,d,f,c],[]⟩=pure (ps.zip [b,e,g,d,f,c]):=by intros;rfl)(hp:ps.length=6:=by rfl):BN x q st ps:=λkV j a i cd ct l m=>Mq (P:=λl=>bindArgs (fnT st x q kV j a i cd ct) ⟨l,[]⟩=pure (ps.zip l)) (m.trans hp) λb e g d f c=>h kV j a i cd ct b e g d f c
structure Adr where
 (yS j4 qt j5 Qa qu ye zg w6 qp w8 qc Qb yy kB zw ym yC yw k_ yi w_ yO qw Za yD lG Cg aa zO jE qS ql vt jF qU zN yx qk ya zR qo qT qV yY qx yd zK II t5 t7:Addr)
 (ae Zb VQ Zc QW Qc we kC Z6 KP VR wg lH Zp Zd QX KQ Ze QY bS Ci af VS X7 VT X8 eN ag ah wj wm VU KR Z7 X9 VV VW KS KU VX Qd IJ:OH)
 (E4 eO UG eP IK:Tok)
abbrev Ng(K:OW)(mg:Oi)(a:Adr):Prop:=
 (mg "LIMIT"=some (.int 1000000000 a.E4))/\
 (mg "NAME_SIGNS"=some (.str "abcdefghijklmnopqrstuvwxyz0123456789" a.eO))/\
 (mg "LONGEST_NAME"=some (.int 12 a.UG))/\
 (mg "MOST_WEEKS"=some (.int 40 a.eP))/\
 (mg "DAYS"=some (.int 7 a.IK))/\
 (mg "FleetError"=some (.ref a.yS))/\
 (mg "BadName"=some (.ref a.j4))/\
 (mg "BadNumber"=some (.ref a.qt))
abbrev Nh(K:OW)(mg:Oi)(a:Adr):Prop:=
 (mg "TooMany"=some (.ref a.j5))/\
 (mg "Twice"=some (.ref a.Qa))/\
 (mg "NoNight"=some (.ref a.qu))/\
 (mg "Crowded"=some (.ref a.ye))/\
 (mg "all"=none)/\
 (mg "bool"=none)/\
 (mg "dict"=none)/\
 (mg "int"=none)
abbrev Txt2(K:OW)(mg:Oi)(a:Adr):Prop:=
 (mg "isinstance"=none)/\
 (mg "len"=none)/\
 (mg "list"=none)/\
 (mg "max"=none)/\
 (mg "range"=none)/\
 (mg "set"=none)/\
 (mg "sorted"=none)/\
 (mg "sum"=none)
abbrev Ni(K:OW)(mg:Oi)(a:Adr):Prop:=
 (Def K mg "_law_draw" Vf ["_law_script","_law_k","_law_many"] a.zg a.ae)/\
 (Fun K "__init__" "TooMany.__init__" wK a.w6 a.Zb)/\
 (Binds K a.Zb ["self","most"] [])/\
 (Def K mg "check_most" YA ["things","most"] a.qp a.VQ)/\
 (Fun K "__init__" "BadName.__init__" wL a.w8 a.Zc)/\
 (Binds K a.Zc ["self","name"] [])/\
 (Def K mg "checked_name" wM ["name"] a.qc a.QW)/\
 (Fun K "__init__" "Twice.__init__" YB a.Qb a.Qc)
abbrev Nj(K:OW)(mg:Oi)(a:Adr):Prop:=
 (Binds K a.Qc ["self","name"] [])/\
 (Def K mg "checked_new_name" je ["name","had"] a.yy a.we)/\
 (Fun K "__init__" "BadNumber.__init__" j_ a.kB a.kC)/\
 (Binds K a.kC ["self","value"] [])/\
 (Def K mg "checked_number" ke ["value","least"] a.zw a.Z6)/\
 (Def K mg "check_weeks" ZE ["weeks"] a.ym a.KP)/\
 (Def K mg "needs_care" YC ["metre","due","loads"] a.yC a.VR)/\
 (Def K mg "can_be_cared_for" jf ["metre","due","loads","night"] a.yw a.wg)
abbrev Nk(K:OW)(mg:Oi)(a:Adr):Prop:=
 (Def K mg "nights" bh ["metre","due","loads"] a.k_ a.lH)/\
 (Def K mg "nights_of_needy" jB ["weeks"] a.yi a.Zp)/\
 (Fun K "__init__" "NoNight.__init__" wN a.w_ a.Zd)/\
 (Binds K a.Zd ["self","name"] [])/\
 (Def K mg "check_served" wO ["chosen"] a.yO a.QX)/\
 (Def K mg "cars_within" ZF ["chosen","first","last"] a.qw a.KQ)/\
 (Fun K "__init__" "Crowded.__init__" wQ a.Za a.Ze)/\
 (Binds K a.Ze ["self","first","last","cars"] [])
abbrev Nl(K:OW)(mg:Oi)(a:Adr):Prop:=
 (Def K mg "check_crowds" wR ["chosen","bays"] a.yD a.QY)/\
 (Def K mg "served" bj ["chosen","bays"] a.lG a.bS)/\
 (Def K mg "care" sr ["weeks","bays"] a.Cg a.Ci)/\
 (Def K mg "_law_told" Vg ["_law_weeks","_law_bays"] a.aa a.af)/\
 (Def K mg "_law_nights" YD ["_law_week_here"] a.zO a.VS)/\
 (Def K mg "_law_drawn" Jv ["_law_script","_law_weeks"] a.jE a.X7)/\
 (Def K mg "_law_spoilt" YE ["_law_script","_law_told_here"] a.qS a.VT)/\
 (Def K mg "_law_cared" Jw ["_law_weeks","_law_bays","_law_told_here"] a.ql a.X8)
abbrev Nn(K:OW)(mg:Oi)(a:Adr):Prop:=
 (Def K mg "_law_bad" Xr ["_law_script","_law_weeks"] a.vt a.eN)/\
 (Def K mg "_law_name" Vh ["_law_script","_law_k","_law_number"] a.jF a.ag)/\
 (Def K mg "_law_week" Vi ["_law_script","_law_k"] a.qU a.ah)/\
 (Def K mg "weeks_are_let_by" jg ["weeks","bays"] a.zN a.wj)/\
 (Def K mg "must_come_within" jh ["metre","due","loads","first","last"] a.yx a.wm)/\
 (Def K mg "none_twice" YF ["things"] a.qk a.VU)/\
 (Def K mg "crowd_holds" ZG ["weeks","bays","first","last","names"] a.ya a.KR)/\
 (Def K mg "_law_crowd_true" kf ["_law_weeks","_law_bays","_law_first","_law_last","_law_names","_law_due"] a.zR a.Z7)
abbrev Np(K:OW)(mg:Oi)(a:Adr):Prop:=
 (Def K mg "_law_crowd" Jx ["_law_weeks","_law_bays","_law_first","_law_last","_law_names"] a.qo a.X9)/\
 (Def K mg "_law_within" YG ["_law_week_here","_law_first","_law_last"] a.qT a.VV)/\
 (Def K mg "_law_crowds" YH ["_law_script","_law_weeks","_law_bays","_law_word"] a.qV a.VW)/\
 (Def K mg "same_things" ZH ["costs","things"] a.yY a.KS)/\
 (Def K mg "night_holds" ZI ["metre","due","loads","night"] a.qx a.KU)/\
 (Def K mg "care_holds" YI ["weeks","bays","told"] a.yd a.VX)/\
 (Def K mg "_law_care_true" vn ["_law_weeks","_law_bays","_law_told_here","_law_due"] a.zK a.Qd)/\
 (Def K mg "law" D5 ["_law_script"] a.II a.IJ)
abbrev Nq(K:OW)(mg:Oi)(a:Adr):Prop:=
 (JP K a.j4)/\
 (XMk K a.j4 a.w8)/\
 (Catch K a.j4 a.yS true)/\
 (W.takerIn K a.j4 "name"=some none)/\
 (JP K a.qt)/\
 (XMk K a.qt a.kB)/\
 (Catch K a.qt a.yS true)/\
 (W.takerIn K a.qt "value"=some none)
abbrev Hq(K:OW)(mg:Oi)(a:Adr):Prop:=
 (JP K a.j5)/\
 (XMk K a.j5 a.w6)/\
 (Catch K a.j5 a.yS true)/\
 (W.takerIn K a.j5 "most"=some none)/\
 (JP K a.Qa)/\
 (XMk K a.Qa a.Qb)/\
 (Catch K a.Qa a.yS true)/\
 (W.takerIn K a.Qa "name"=some none)
abbrev Hr(K:OW)(mg:Oi)(a:Adr):Prop:=
 (JP K a.qu)/\
 (XMk K a.qu a.w_)/\
 (Catch K a.qu a.yS true)/\
 (Catch K a.qu a.qu true)/\
 (W.takerIn K a.qu "name"=some none)/\
 (JP K a.ye)/\
 (XMk K a.ye a.Za)/\
 (Catch K a.ye a.yS true)
abbrev Hs(K:OW)(mg:Oi)(a:Adr):Prop:=
 (Catch K a.ye a.ye true)/\
 (Catch K a.ye a.qu false)/\
 (W.takerIn K a.ye "first"=some none)/\
 (W.findIn K (.ref a.ye) "first"=some none)/\
 (W.takerIn K a.ye "last"=some none)/\
 (W.findIn K (.ref a.ye) "last"=some none)/\
 (W.takerIn K a.ye "cars"=some none)/\
 (W.findIn K (.ref a.ye) "cars"=some none)
abbrev Ht(K:OW)(mg:Oi)(a:Adr):Prop:=
 (W.kitOne K (.type "bool") (.type "bool")=some true)/\
 (W.kitOne K (.type "int") (.type "bool")=some false)/\
 (a.bS.code=.ref a.t5)
abbrev Txt(K:OW)(mg:Oi)(a:Adr):Prop:=Ng K mg a/\Nh K mg a/\Txt2 K mg a/\Ni K mg a/\Nj K mg a/\Nk K mg a/\Nl K mg a/\Nn K mg a/\Np K mg a/\Nq K mg a/\Hq K mg a/\Hr K mg a/\Hs K mg a/\Ht K mg a
section
variable {K:OW}{mg:Oi}{a:Adr}(T:Txt K mg a)
include T
def Txt.cc0:Ng K mg a:=T.1
def Txt.gf:=T.cc0.1
def Txt.YM:=T.cc0.2.1
def Txt.wU:=T.cc0.2.2.1
def Txt.YN:=T.cc0.2.2.2.1
def Txt.VD:=T.cc0.2.2.2.2.1
def Txt.YO:=T.cc0.2.2.2.2.2.1
def Txt.Kj:=T.cc0.2.2.2.2.2.2.1
def Txt.JD:=T.cc0.2.2.2.2.2.2.2
def Txt.cc1:Nh K mg a:=T.2.1
def Txt.Xx:=T.cc1.1
def Txt.gh:=T.cc1.2.1
def Txt.Kk:=T.cc1.2.2.1
def Txt.Kl:=T.cc1.2.2.2.1
def Txt.mH:=T.cc1.2.2.2.2.1
def Txt.iO:=T.cc1.2.2.2.2.2.1
def Txt.U4:=T.cc1.2.2.2.2.2.2.1
def Txt.D6:=T.cc1.2.2.2.2.2.2.2
def Txt.cc2:Txt2 K mg a:=T.2.2.1
def Txt.vQ:=T.cc2.1
def Txt.kh:=T.cc2.2.1
def Txt.QJ:=T.cc2.2.2.1
def Txt.mI:=T.cc2.2.2.2.1
def Txt.ki:=T.cc2.2.2.2.2.1
def Txt.Af:=T.cc2.2.2.2.2.2.1
def Txt.Km:=T.cc2.2.2.2.2.2.2.1
def Txt.Vl:=T.cc2.2.2.2.2.2.2.2
def Txt.cc3:Ni K mg a:=T.2.2.2.1
def Txt.zp:=T.cc3.1
def Txt.Ur:=T.cc3.2.1
def Txt.Us:=T.cc3.2.2.1
def Txt.vR:=T.cc3.2.2.2.1
def Txt.Ut:=T.cc3.2.2.2.2.1
def Txt.QK:=T.cc3.2.2.2.2.2.1
def Txt.jO:=T.cc3.2.2.2.2.2.2.1
def Txt.dM:=T.cc3.2.2.2.2.2.2.2
def Txt.cc4:Nj K mg a:=T.2.2.2.2.1
def Txt.dN:=T.cc4.1
def Txt.qe:=T.cc4.2.1
def Txt.Wg:=T.cc4.2.2.1
def Txt.Wh:=T.cc4.2.2.2.1
def Txt.zV:=T.cc4.2.2.2.2.1
def Txt.yX:=T.cc4.2.2.2.2.2.1
def Txt.qR:=T.cc4.2.2.2.2.2.2.1
def Txt.qf:=T.cc4.2.2.2.2.2.2.2
def Txt.cc5:Nk K mg a:=T.2.2.2.2.2.1
def Txt.qG:=T.cc5.1
def Txt.yF:=T.cc5.2.1
def Txt.Uu:=T.cc5.2.2.1
def Txt.Uv:=T.cc5.2.2.2.1
def Txt.jP:=T.cc5.2.2.2.2.1
def Txt.qv:=T.cc5.2.2.2.2.2.1
def Txt.Uw:=T.cc5.2.2.2.2.2.2.1
def Txt.Ux:=T.cc5.2.2.2.2.2.2.2
def Txt.cc6:Nl K mg a:=T.2.2.2.2.2.2.1
def Txt.jQ:=T.cc6.1
def Txt.vS:=T.cc6.2.1
def Txt.U5:=T.cc6.2.2.1
def Txt.vh:=T.cc6.2.2.2.1
def Txt.zJ:=T.cc6.2.2.2.2.1
def Txt.jD:=T.cc6.2.2.2.2.2.1
def Txt.vT:=T.cc6.2.2.2.2.2.2.1
def Txt.vo:=T.cc6.2.2.2.2.2.2.2
def Txt.cc7:Nn K mg a:=T.2.2.2.2.2.2.2.1
def Txt.YQ:=T.cc7.1
def Txt.Qw:=T.cc7.2.1
def Txt.Qx:=T.cc7.2.2.1
def Txt.yM:=T.cc7.2.2.2.1
def Txt.qg:=T.cc7.2.2.2.2.1
def Txt.vU:=T.cc7.2.2.2.2.2.1
def Txt.kZ:=T.cc7.2.2.2.2.2.2.1
def Txt.yc:=T.cc7.2.2.2.2.2.2.2
def Txt.cc8:Np K mg a:=T.2.2.2.2.2.2.2.2.1
def Txt.vp:=T.cc8.1
def Txt.vV:=T.cc8.2.1
def Txt.vW:=T.cc8.2.2.1
def Txt.k8:=T.cc8.2.2.2.1
def Txt.k9:=T.cc8.2.2.2.2.1
def Txt.vX:=T.cc8.2.2.2.2.2.1
def Txt.yo:=T.cc8.2.2.2.2.2.2.1
def Txt.sA:=T.cc8.2.2.2.2.2.2.2
def Txt.cc9:Nq K mg a:=T.2.2.2.2.2.2.2.2.2.1
def Txt.Xy:=T.cc9.1
def Txt.dO:=T.cc9.2.1
def Txt.mJ:=T.cc9.2.2.1
def Txt.Xz:=T.cc9.2.2.2.1
def Txt.XA:=T.cc9.2.2.2.2.1
def Txt.gi:=T.cc9.2.2.2.2.2.1
def Txt.dP:=T.cc9.2.2.2.2.2.2.1
def Txt.Kn:=T.cc9.2.2.2.2.2.2.2
def Txt.BI:Hq K mg a:=T.2.2.2.2.2.2.2.2.2.2.1
def Txt.dQ:=T.BI.1
def Txt.sC:=T.BI.2.1
def Txt.mK:=T.BI.2.2.1
def Txt.XB:=T.BI.2.2.2.1
def Txt.sD:=T.BI.2.2.2.2.1
def Txt.D7:=T.BI.2.2.2.2.2.1
def Txt.Ag:=T.BI.2.2.2.2.2.2.1
def Txt.bw:=T.BI.2.2.2.2.2.2.2
def Txt.BJ:Hr K mg a:=T.2.2.2.2.2.2.2.2.2.2.2.1
def Txt.dR:=T.BJ.1
def Txt.sE:=T.BJ.2.1
def Txt.mL:=T.BJ.2.2.1
def Txt.Ko:=T.BJ.2.2.2.1
def Txt.XE:=T.BJ.2.2.2.2.1
def Txt.vq:=T.BJ.2.2.2.2.2.1
def Txt.sF:=T.BJ.2.2.2.2.2.2.1
def Txt.mM:=T.BJ.2.2.2.2.2.2.2
def Txt.BK:Hs K mg a:=T.2.2.2.2.2.2.2.2.2.2.2.2.1
def Txt.Kp:=T.BK.1
def Txt.Kq:=T.BK.2.1
def Txt.Wi:=T.BK.2.2.1
def Txt.Wj:=T.BK.2.2.2.1
def Txt.XF:=T.BK.2.2.2.2.1
def Txt.XG:=T.BK.2.2.2.2.2.1
def Txt.XH:=T.BK.2.2.2.2.2.2.1
def Txt.XI:=T.BK.2.2.2.2.2.2.2
def Txt.Mx:Ht K mg a:=T.2.2.2.2.2.2.2.2.2.2.2.2.2
def Txt.vY:=T.Mx.1
def Txt.ZJ:=T.Mx.2.1
def Txt.iP:=T.Mx.2.2
end
def cls(a:Adr):Nat->Addr
 |0=>a.yS
 |1=>a.j4
 |2=>a.qt
 |3=>a.j5
 |4=>a.Qa
 |5=>a.qu
 |6=>a.ye
 |1000=>a.t7
 |_=>0
abbrev WW(K:OW)(a:Adr):RC:=⟨K,cls a⟩
abbrev U6:MS:=
  (zZ (yH 3 (mC (.i 5)))
  (zZ (sIf (zQ (mOp pGt (zf qZ (zb (zc 0) zk)) (mC (.i 0)))) (yH 3 (mOp W7 (mOp pIx (zc 0) (mOp W7 (zc 1) (zf qZ (zb (zc 0) zk)))) (mC (.i 1000000007)))) zG)
  (jM (mOp W7 (mOp cU (mOp W7 (mOp jS (mOp zA (mOp zA (zc 3) (mOp jS (mC (.i 37)) (zc 1))) (mC (.i 1))) (mOp zA (mC (.i 48271)) (mOp jS (zc 1) (zc 1)))) (mC (.i 2147483647))) (mC (.i 7))) (zc 2)))))
def zg:List PV->Out PV:=Zt false 4 U6
abbrev VE:MS:=
  (jM (mOp pGt (mOp zA (zc 0) (zf Wb (zb (zc 2) zk))) (zc 1)))
def yC:List PV->Out PV:=Zt false 3 VE
abbrev vZ:MS:=
  (zZ (yH 4 (mOp zA (zc 0) (zf Wb (zb (mSl pSl (zc 2) Wc (qW (mOp zA (zc 3) (mC (.i 1))))) zk))))
  (zZ (yH 5 (zf Wb (zb (mSl pSl (zc 2) (qW (mOp zA (zc 3) (mC (.i 1)))) Wc) zk)))
  (jM (V_ (mOp pLe (zc 4) (zc 1)) (mOp pLe (zc 5) (zc 1))))))
def yw:List PV->Out PV:=Zt false 6 vZ
abbrev Z0:MG:=
  (gNm 0)
abbrev Z1:MT:=
  (eV (zQ (mOp pLe (zc 1) (mOp pIx (mOp pIx (zc 2) (zc 0)) (mC (.i 0))))) (zQ (mOp pLe (mOp pIx (mOp pIx (zc 2) (zc 0)) (mUn m_ (mC (.i 1)))) (zc 3))))
abbrev Z2:ME:=
  (zc 0)
abbrev Kr:MS:=
  (jM (mLC (qE 0) [none,some 1,some 0,some 2] Z0 Z1 Z2))
def qw:List PV->Out PV:=Zt true 3 Kr
abbrev QL:MG:=
  (gNm 6)
abbrev QM:MS:=
  (sIf (eV (zQ (mOp pLe (mOp zA (zc 2) (zf Wb (zb (mSl pSl (zc 4) Wc (qW (mOp zA (zc 6) (mC (.i 1))))) zk))) (zc 3))) (zQ (mOp pLe (zf Wb (zb (mSl pSl (zc 4) (qW (mOp zA (zc 6) (mC (.i 1)))) Wc) zk)) (zc 3)))) (nk 5 (zc 6)) zG)
abbrev VF:MS:=
  (zZ (xf (gTp 4 (zY (gNm 1) (zY (gNm 2) (zY (gNm 3) (zY (gNm 4) Wf))))) (zc 0))
  (zZ (yH 5 (kH zk))
  (zZ (Yk (Yl (zb (mC (.i 7)) zk)) QL QM)
  (jM (zc 5)))))
def zO:List PV->Out PV:=Zt true 7 VF
abbrev VG:MS:=
  (jM (mOp (yQ false) (zf DS (zb (zc 0) zk)) (zf qZ (zb (zc 0) zk))))
def qk:List PV->Out PV:=Zt false 1 VG
abbrev Ks:MS:=
  (jM (r0 (zb (zc 0) zk) (zb (zc 1) zk)))
def yY:List PV->Out PV:=Zt false 2 Ks
abbrev XJ:MG:=
  (gNm 0)
abbrev XN:MT:=
  (zQ (zf yw (zb (zc 1) (zb (zc 2) (zb (zc 3) (zb (zc 0) zk))))))
abbrev XQ:ME:=
  (zc 0)
abbrev iQ:MS:=
  (jM (mLC (Yl (zb (mC (.i 7)) zk)) [none,some 0,some 1,some 2] XJ XN XQ))
def k_:List PV->Out PV:=Zt true 3 iQ
abbrev ZK:MG:=
  (gNm 3)
abbrev ZL:MS:=
  (zZ (yH 4 (mOp zA (kH (zb (mC .n) zk)) (zf zO (zb (mOp pIx (zc 1) (zc 3)) zk))))
  (zZ (sIf (eV (zQ (mOp pGt (mOp zA (mOp pIx (mOp pIx (zc 1) (zc 3)) (mC (.i 1))) (zf Wb (zb (mOp pIx (mOp pIx (zc 1) (zc 3)) (mC (.i 3))) zk))) (mOp pIx (mOp pIx (zc 1) (zc 3)) (mC (.i 2))))) (zQ (mOp pGt (zf zg (zb (zc 0) (zb (mOp zA (mC (.i 170)) (zc 3)) (zb (mC (.i 9)) zk)))) (mC (.i 0))))) (yH 4 (mOp zA (mSl pSl (zc 4) (qW (mC (.i 1))) Wc) (mSl pSl (kH (zb (mC (.i 6)) zk)) Wc (qW (zf dk (zb (mOp (yQ false) (zf qZ (zb (zc 4) zk)) (mC (.i 1))) zk)))))) zG)
  (c5 2 (mOp pIx (mOp pIx (zc 1) (zc 3)) (mC (.i 0))) (mOp pIx (zc 4) (zf zg (zb (zc 0) (zb (mOp zA (mC (.i 160)) (zc 3)) (zb (zf qZ (zb (zc 4) zk)) zk))))))))
abbrev XR:MS:=
  (zZ (yH 2 aL)
  (zZ (Yk (Yl (zb (zf qZ (zb (zc 1) zk)) zk)) ZK ZL)
  (jM (zc 2))))
def jE:List PV->Out PV:=Zt true 5 XR
abbrev VH:MS:=
  (zZ (yH 1 (zf Yv (zb (zc 1) zk)))
  (zZ (yH 2 (zf zg (zb (zc 0) (zb (mC (.i 180)) (zb (mC (.i 8)) zk)))))
  (zZ (sIf (zQ (mOp (yQ false) (zc 2) (mC (.i 0)))) (c5 1 (mC (.s "none")) (mC .n)) zG)
  (zZ (sIf (zQ (mOp (yQ true) (zc 1) aL)) (zZ (yH 3 (mOp pIx (zf kK (zb (zc 1) zk)) (zf zg (zb (zc 0) (zb (mC (.i 181)) (zb (zf qZ (zb (zc 1) zk)) zk))))))
  (zZ (sIf (zQ (mOp (yQ false) (zc 2) (mC (.i 1)))) (fQ 1 (zc 3)) zG)
  (zZ (sIf (zQ (mOp (yQ false) (zc 2) (mC (.i 2)))) (c5 1 (zc 3) (mC .n)) zG)
  (sIf (zQ (mOp (yQ false) (zc 2) (mC (.i 3)))) (c5 1 (zc 3) (mOp pIx (kH (zb (mUn m_ (mC (.i 1))) (zb (mC (.i 0)) (zb (mC (.i 6)) (zb (mC (.i 7)) (zb (mC (.i 3)) (zb (mOp vN (mC (.i 10)) (mC (.i 20))) zk))))))) (zf zg (zb (zc 0) (zb (mC (.i 182)) (zb (mC (.i 6)) zk)))))) zG)))) zG)
  (jM (zc 1))))))
def qS:List PV->Out PV:=Zt false 4 VH
abbrev wV:MG:=
  (gNm 0)
abbrev QN:MT:=
  bX
abbrev wW:ME:=
  (mOp pIx (zc 0) (mC (.i 0)))
abbrev ZM:MG:=
  (gNm 4)
abbrev vc:MS:=
  (zZ (yH 5 (mOp pIx (zc 2) (mOp pIx (zc 4) (mC (.i 0)))))
  (sIf (zQ (mOp pLe (mOp zA (mOp pIx (zc 4) (mC (.i 1))) (zf Wb (zb (mOp pIx (zc 4) (mC (.i 3))) zk))) (mOp pIx (zc 4) (mC (.i 2))))) (sIf (zQ (mOp (Be true) (zc 5) (mC .n))) (jM (mC (.b false))) zG) (sIf (zQ (mOp (pIn true) (zc 5) (zf zO (zb (zc 4) zk)))) (jM (mC (.b false))) (Uk 3 (zc 5) (mOp zA (mOp pIx (zc 3) (zc 5)) (mC (.i 1)))))))
abbrev XS:MS:=
  (zZ (sIf (zQ (mOp (yQ true) (zf U0 (zb (zc 2) zk)) (zf Xm (zb (mLC (z8 (zc 0)) [none] wV QN wW) zk)))) (jM (mC (.b false))) zG)
  (zZ (yH 3 (kH (zb (mC (.i 0)) (zb (mC (.i 0)) (zb (mC (.i 0)) (zb (mC (.i 0)) (zb (mC (.i 0)) (zb (mC (.i 0)) (zb (mC (.i 0)) zk)))))))))
  (zZ (Yk (z8 (zc 0)) ZM vc)
  (jM (mOp pLe (zf ue (zb (zc 3) zk)) (zc 1))))))
def ql:List PV->Out PV:=Zt false 6 XS
abbrev dS:MS:=
  (zZ (yH 1 (zf kK (zb (zc 1) zk)))
  (zZ (yH 2 (zf zg (zb (zc 0) (zb (mC (.i 3)) (zb (mC (.i 25)) zk)))))
  (zZ (sIf (eV (zQ (mOp pLt (zc 2) (mC (.i 4)))) (zQ (mOp (yQ true) (zc 1) (kH zk)))) (zZ (yH 3 (zf zg (zb (zc 0) (zb (mC (.i 4)) (zb (zf qZ (zb (zc 1) zk)) zk)))))
  (zZ (xf (gTp 4 (zY (gNm 4) (zY (gNm 5) (zY (gNm 6) (zY (gNm 7) Wf))))) (mOp pIx (zc 1) (zc 3)))
  (zZ (yH 7 (zf kK (zb (zc 7) zk)))
  (zZ (sIf (zQ (mOp (yQ false) (zc 2) (mC (.i 0)))) (yH 4 (mOp pIx (kH (zb (mC (.s "")) (zb (mC (.s "B")) (zb (mOp zA (zc 4) (mC (.s " "))) zk)))) (zf zg (zb (zc 0) (zb (mC (.i 5)) (zb (mC (.i 3)) zk)))))) zG)
  (zZ (sIf (zQ (mOp (yQ false) (zc 2) (mC (.i 1)))) (yH 5 (mOp pIx (kH (zb (mUn m_ (mC (.i 1))) (zb (mOp zA (mOp vN (mC (.i 10)) (mC (.i 9))) (mC (.i 1))) zk))) (zf zg (zb (zc 0) (zb (mC (.i 5)) (zb (mC (.i 2)) zk)))))) zG)
  (zZ (sIf (zQ (mOp (yQ false) (zc 2) (mC (.i 2)))) (yH 6 (mOp pIx (kH (zb (mC (.i 0)) (zb (mOp vN (mC (.i 10)) (mC (.i 20))) zk))) (zf zg (zb (zc 0) (zb (mC (.i 5)) (zb (mC (.i 2)) zk)))))) zG)
  (zZ (sIf (zQ (mOp (yQ false) (zc 2) (mC (.i 3)))) (Uk 7 (zf zg (zb (zc 0) (zb (mC (.i 6)) (zb (mC (.i 7)) zk)))) (mOp pIx (kH (zb (mUn m_ (mC (.i 1))) (zb (mOp zA (mOp vN (mC (.i 10)) (mC (.i 9))) (mC (.i 1))) zk))) (zf zg (zb (zc 0) (zb (mC (.i 5)) (zb (mC (.i 2)) zk)))))) zG)
  (Uk 1 (zc 3) (mq (zb (zc 4) (zb (zc 5) (zb (zc 6) (zb (zc 7) zk))))))))))))) zG)
  (zZ (sIf (eV (zQ (mOp (yQ false) (zc 2) (mC (.i 4)))) (zQ (mOp (yQ true) (zc 1) (kH zk)))) (nk 1 (mOp pIx (zc 1) (zf zg (zb (zc 0) (zb (mC (.i 4)) (zb (zf qZ (zb (zc 1) zk)) zk)))))) zG)
  (jM (zc 1))))))
def vt:List PV->Out PV:=Zt false 8 dS
abbrev U7:MS:=
  (zZ (yH 3 (zf zg (zb (zc 0) (zb (zc 1) (zb (mC (.i 11)) zk)))))
  (zZ (yH 4 (mOp zA (zf zg (zb (zc 0) (zb (mOp zA (zc 1) (mC (.i 1))) (zb (mOp m9 (mC (.i 11)) (zc 3)) zk)))) (mOp W7 (zc 2) (mC (.i 2)))))
  (jM (mOp zA (mOp zA (mOp jS (mC (.s "x")) (zc 3)) (mOp pIx (mC (.s "abcdefghijklmnopqrstuvwyz0123456789")) (zc 2))) (mOp jS (mC (.s "x")) (zc 4))))))
def jF:List PV->Out PV:=Zt false 5 U7
abbrev wX:MG:=
  (gNm 0)
abbrev QO:MT:=
  bX
abbrev wY:ME:=
  (mq (zb (mOp pIx (zc 0) (mC (.i 0))) (zb (zc 0) zk)))
abbrev vd:MG:=
  (gNm 8)
abbrev ve:MS:=
  (sIf (mOr (zQ (mOp pLt (zc 8) (zc 2))) (zQ (mOp pGt (zc 8) (zc 3)))) (jM (mC (.b false))) zG)
abbrev ZN:MG:=
  (gNm 6)
abbrev vf:MS:=
  (zZ (sIf (mOr (zQ (mOp (pIn true) (mOp pIx (zc 4) (zc 6)) (zc 5))) (zQ (mOp (pIn false) (mOp pIx (zc 4) (zc 6)) (mSl pSl (zc 4) Wc (qW (zc 6)))))) (jM (mC (.b false))) zG)
  (zZ (yH 7 (mOp pIx (zc 5) (mOp pIx (zc 4) (zc 6))))
  (zZ (sIf (zQ (mOp pLe (mOp zA (mOp pIx (zc 7) (mC (.i 1))) (zf Wb (zb (mOp pIx (zc 7) (mC (.i 3))) zk))) (mOp pIx (zc 7) (mC (.i 2))))) (jM (mC (.b false))) zG)
  (Yk (z8 (zf zO (zb (zc 7) zk))) vd ve))))
abbrev XT:MS:=
  (zZ (sIf (mOr (zQ (mOp pLt (zc 2) (mC (.i 0)))) (mOr (zQ (mOp pLt (zc 3) (zc 2))) (zQ (mOp pGt (zc 3) (mC (.i 6)))))) (jM (mC (.b false))) zG)
  (zZ (yH 5 (zf Yv (zb (mLC (z8 (zc 0)) [none] wX QO wY) zk)))
  (zZ (Yk (Yl (zb (zf qZ (zb (zc 4) zk)) zk)) ZN vf)
  (jM (mOp pGt (zf qZ (zb (zc 4) zk)) (mOp jS (zc 1) (mOp zA (mOp m9 (zc 3) (zc 2)) (mC (.i 1)))))))))
def qo:List PV->Out PV:=Zt false 9 XT
abbrev YR:MG:=
  (gNm 0)
abbrev YS:MT:=
  (mOr (zQ (mOp pLt (zc 0) (zc 1))) (zQ (mOp pGt (zc 0) (zc 2))))
abbrev YT:ME:=
  (zc 0)
abbrev VI:MS:=
  (jM (mOp (yQ false) (mLC (z8 (zf zO (zb (zc 0) zk))) [none,some 1,some 2] YR YS YT) (kH zk)))
def qT:List PV->Out PV:=Zt false 3 VI
abbrev VJ:MS:=
  (sIf (zQ (mOp pGt (zf qZ (zb (zc 0) zk)) (zc 1))) (ZX 3 ["most"] (zb (zc 1) zk)) zG)
def qp:List PV->Out PV:=Zt false 2 VJ
abbrev Wl:MG:=
  (gNm 1)
abbrev Wm:MS:=
  (sIf (zQ (mOp (pIn true) (zc 1) (mC (.s "abcdefghijklmnopqrstuvwxyz0123456789")))) (ZX 1 ["name"] (zb (zc 0) zk)) zG)
abbrev QP:MS:=
  (zZ (sIf (mOr (zQ (mOp pLt (zf qZ (zb (zc 0) zk)) (mC (.i 1)))) (zQ (mOp pGt (zf qZ (zb (zc 0) zk)) (mC (.i 12))))) (ZX 1 ["name"] (zb (zc 0) zk)) zG)
  (zZ (Yk (dr (zc 0)) Wl Wm)
  (jM (zc 0))))
def qc:List PV->Out PV:=Zt false 2 QP
abbrev Z3:MS:=
  (zZ (sIf (mOr (zQ (mOp pLt (zc 0) (zc 1))) (zQ (mOp pGt (zc 0) (mC (.i 1000000000))))) (ZX 2 ["value"] (zb (zc 0) zk)) zG)
  (jM (zc 0)))
def zw:List PV->Out PV:=Zt false 2 Z3
abbrev vv:MG:=
  (gTp 4 (zY (gNm 2) (zY (gNm 3) (zY (gNm 4) (zY (gNm 5) Wf)))))
abbrev vx:MS:=
  (sIf (zQ (zf yC (zb (zc 3) (zb (zc 4) (zb (zc 5) zk))))) (c5 1 (zc 2) (zf k_ (zb (zc 3) (zb (zc 4) (zb (zc 5) zk))))) zG)
abbrev Zm:MS:=
  (zZ (yH 1 aL)
  (zZ (Yk (z8 (zc 0)) vv vx)
  (jM (zc 1))))
def yi:List PV->Out PV:=Zt true 6 Zm
abbrev qH:MG:=
  (gNm 1)
abbrev yK:MS:=
  (sIf (zQ (mOp (yQ false) (zf qZ (zb (mOp pIx (zc 0) (zc 1)) zk)) (mC (.i 0)))) (ZX 5 ["name"] (zb (zc 1) zk)) zG)
abbrev QQ:MS:=
  (Yk (qE 0) qH yK)
def yO:List PV->Out PV:=Zt false 2 QQ
abbrev qI:MG:=
  (gNm 3)
abbrev yL:MS:=
  (zZ (yH 4 (zf qw (zb (zc 0) (zb (zc 2) (zb (zc 3) zk)))))
  (sIf (zQ (mOp pGt (zf qZ (zb (zc 4) zk)) (mOp jS (zc 1) (mOp zA (mOp m9 (zc 3) (zc 2)) (mC (.i 1)))))) (ZX 6 ["first","last","cars"] (zb (zc 2) (zb (zc 3) (zb (zc 4) zk)))) zG))
abbrev qJ:MG:=
  (gNm 2)
abbrev qK:MS:=
  (Yk (pf (zb (zc 2) (zb (mC (.i 7)) zk))) qI yL)
abbrev QR:MS:=
  (Yk (Yl (zb (mC (.i 7)) zk)) qJ qK)
def yD:List PV->Out PV:=Zt false 5 QR
abbrev VL:MG:=
  (gNm 4)
abbrev YU:MS:=
  (zZ (yH 5 (zf zg (zb (zc 0) (zb (mOp zA (mOp zA (mC (.i 20)) (mOp jS (mC (.i 17)) (zc 1))) (zc 4)) (zb (mC (.i 4)) zk)))))
  (zZ (sIf (zQ (mOp pGt (zc 5) (mC (.i 0)))) (yH 5 (zf zg (zb (zc 0) (zb (mOp zA (mOp zA (mC (.i 28)) (mOp jS (mC (.i 17)) (zc 1))) (zc 4)) (zb (zc 2) zk))))) zG)
  (nk 3 (zc 5))))
abbrev U8:MS:=
  (zZ (yH 2 (mOp pIx (kH (zb (mC (.i 10)) (zb (mC (.i 60000)) (zb (mOp vN (mC (.i 10)) (mC (.i 8))) zk)))) (zf zg (zb (zc 0) (zb (mC (.i 0)) (zb (mC (.i 3)) zk))))))
  (zZ (yH 3 (kH zk))
  (zZ (Yk (Yl (zb (mC (.i 8)) zk)) VL YU)
  (zZ (xC 3 6)
  (zZ (yH 7 (zf zg (zb (zc 0) (zb (mOp zA (mC (.i 36)) (mOp jS (mC (.i 17)) (zc 1))) (zb (mC (.i 7)) zk)))))
  (zZ (yH 8 (zf zg (zb (zc 0) (zb (mOp zA (mC (.i 37)) (mOp jS (mC (.i 17)) (zc 1))) (zb (mC (.i 16)) zk)))))
  (zZ (yH 9 (zf ue (zb (mOp zA (zc 6) (zf Wb (zb (mSl pSl (zc 3) Wc (qW (mOp zA (zc 7) (mC (.i 1))))) zk))) (zb (zf Wb (zb (mSl pSl (zc 3) (qW (mOp zA (zc 7) (mC (.i 1)))) Wc) zk)) zk))))
  (zZ (sIf (zQ (mOp (yQ false) (zc 8) (mC (.i 1)))) (yH 9 (mOp m9 (zc 9) (mC (.i 1)))) zG)
  (zZ (sIf (zQ (mOp (yQ false) (zc 8) (mC (.i 2)))) (yH 9 (mOp zA (zc 6) (zf Wb (zb (zc 3) zk)))) zG)
  (zZ (sIf (zQ (mOp pGt (zc 8) (mC (.i 11)))) (yH 9 (mOp zA (zc 9) (zf zg (zb (zc 0) (zb (mOp zA (mC (.i 38)) (mOp jS (mC (.i 17)) (zc 1))) (zb (mOp zA (mC (.i 1)) (mOp cU (zc 9) (mC (.i 4)))) zk)))))) zG)
  (jM (mq (zb (zf jF (zb (zc 0) (zb (mC (.i 1)) (zb (zc 1) zk)))) (zb (zc 6) (zb (zf ue (zb (mC (.i 1)) (zb (zc 9) zk))) (zb (zc 3) zk))))))))))))))))
def qU:List PV->Out PV:=Zt false 10 U8
abbrev jW:MG:=
  (gNm 0)
abbrev YV:MT:=
  bX
abbrev jX:ME:=
  (cR pLe pLe (zc 1) (zc 0) (zc 2))
abbrev v3:MS:=
  (zZ (sIf (V9 (zQ (zf yC (zb (zc 0) (zb (zc 1) (zb (zc 2) zk)))))) (jM (mC (.b false))) zG)
  (jM (zf uf (zb (mLC (z8 (zf k_ (zb (zc 0) (zb (zc 1) (zb (zc 2) zk))))) [none,some 3,some 4] jW YV jX) zk))))
def yx:List PV->Out PV:=Zt false 5 v3
abbrev Kt:MS:=
  (zZ (sIf (zQ (zf yC (zb (zc 0) (zb (zc 1) (zb (zc 2) zk))))) (jM (mOp (pIn false) (zc 3) (zf k_ (zb (zc 0) (zb (zc 1) (zb (zc 2) zk)))))) zG)
  (jM (mOp (Be false) (zc 3) (mC .n))))
def qx:List PV->Out PV:=Zt false 4 Kt
abbrev v7:MS:=
  (zZ (We (zf qc (zb (zc 0) zk)))
  (zZ (sIf (zQ (mOp (pIn false) (zc 0) (zc 1))) (ZX 4 ["name"] (zb (zc 0) zk)) zG)
  (jM (zc 0))))
def yy:List PV->Out PV:=Zt false 2 v7
abbrev ZO:MG:=
  (gNm 0)
abbrev ZP:MT:=
  (eV (zQ (mOp (pIn true) (zc 0) (zc 1))) (zQ (mOp (pIn false) (zc 2) (mOp pIx (zc 3) (zc 0)))))
abbrev ZQ:ME:=
  (zc 0)
abbrev yA:ME:=
  (mOp pIx (mOp pIx (zc 1) (zc 0)) (mUn m_ (mC (.i 1))))
abbrev XU:HMG:=
  (hgN 5)
abbrev JE:HMS:=
  (Nb (Ud 2) (Ud 5) (Ud 3))
abbrev JF:HMG:=
  (hgN 3)
abbrev ZR:HMS:=
  (Yo (Vz 4 (hF [true,false,true,true] (mLC (qE 0) [none,some 2,some 3,some 0] ZO ZP ZQ)))
  (xD (La (dD 96 40 ("served"++".<locals>."++"<lambda>") (nr 2 yA) 0 (Qz (Ud 4) uj)) (Ud 1)) XU JE))
abbrev Ku:HMS:=
  (Yo (Vz 2 (hF [] aL))
  (Yo (mB [] (Yl (zb (mC (.i 7)) zk)) JF ZR)
  (Ue (Ud 2))))
def Kv:List HV->AH->HX HV:=nq 6 Ku
abbrev jm:MG:=
  (gNm 6)
abbrev jn:MS:=
  (We (zf zw (zb (zc 6) (zb (mC (.i 0)) zk))))
abbrev jo:MG:=
  (gTp 4 (zY (gNm 2) (zY (gNm 3) (zY (gNm 4) (zY (gNm 5) Wf)))))
abbrev jq:MS:=
  (zZ (We (zf yy (zb (zc 2) (zb (zc 1) zk))))
  (zZ (We (zf zw (zb (zc 3) (zb (mC (.i 0)) zk))))
  (zZ (We (zf zw (zb (zc 4) (zb (mC (.i 1)) zk))))
  (zZ (Yk (z8 (zc 5)) jm jn)
  (c5 1 (zc 2) (mC (.b true)))))))
abbrev Kw:MS:=
  (zZ (We (zf qp (zb (zc 0) (zb (mC (.i 40)) zk))))
  (zZ (yH 1 aL)
  (Yk (z8 (zc 0)) jo jq)))
def ym:List PV->Out PV:=Zt false 7 Kw
abbrev dU:MG:=
  (gTp 4 (zY (gNm 0) (zY (gNm 1) (zY (gNm 2) (zY (gNm 3) Wf)))))
abbrev sG:MT:=
  bX
abbrev dW:ME:=
  (mq (zb (zc 0) (zb (Nc (zc 4) (zc 0)) zk)))
abbrev sH:HMS:=
  (Yo (Ke (hP [true] (zf ym (zb (zc 0) zk))))
  (Yo (Ke (hP [false,true] (zf zw (zb (zc 1) (zb (mC (.i 0)) zk)))))
  (Yo (Vz 2 (hP [true] (zf yi (zb (zc 0) zk))))
  (Yo (Ke (hP [false,false,true] (zf yO (zb (zc 2) zk))))
  (Yo (Ke (hP [false,true,true] (zf yD (zb (zc 2) (zb (zc 1) zk)))))
  (Yo (Vz 3 (fU Kv (Qz (Ud 2) (Qz (Ud 1) uj))))
  (Ue (hW [true,false,false,true] (zf Yv (zb (mLC (z8 (zc 0)) [none,none,none,none,some 3] dU sG dW) zk))))))))))
def jG:List HV->AH->HX HV:=nq 4 sH
abbrev v8:MS:=
  (zZ (f7 [1,2,3,4,5,6] (zZ (QG (QE ym (zb (zc 0) zk))) (QG (QE zw (zb (zc 1) (zb (mC (.i 0)) zk))))) (jM (mC (.b false))))
  (jM (mC (.b true))))
def zN:List PV->Out PV:=Zt false 2 v8
abbrev XW:HMS:=
  (Kh [5] [6] (Ue (Ad (hP [] (mC (.s "care"))) (iF jG (Qz (Ud 0) (Qz (Ud 1) uj))))) (Ue (hP [] (mq (zb (mC (.s "none")) zk)))) 2 (Ue (hP [false,false,true] (mq (zb (mC (.s "crowd")) (zb (u9 [6] "first" (zc 2)) (zb (u9 [6] "last" (zc 2)) (zb (u9 [6] "cars" (zc 2)) zk))))))))
def yZ:List HV->AH->HX HV:=nq 3 XW
abbrev kj:MG:=
  (gTp 4 (zY (gNm 0) (zY (gNm 1) (zY (gNm 2) (zY (gNm 3) Wf)))))
abbrev kl:MT:=
  (zQ (zf yx (zb (zc 1) (zb (zc 2) (zb (zc 3) (zb (zc 4) (zb (zc 5) zk)))))))
abbrev km:ME:=
  (zc 0)
abbrev ko:MG:=
  (gNm 0)
abbrev Z4:MT:=
  bX
abbrev kr:ME:=
  (mOp (pIn false) (zc 0) (zc 1))
abbrev Kx:MS:=
  (zZ (sIf (mOr (V9 (zQ (zf zN (zb (zc 0) (zb (zc 1) zk))))) (V9 (zQ (Xq pLe pLe pLt (mC (.i 0)) (zc 2) (zc 3) (mC (.i 7)))))) (jM (mC (.b false))) zG)
  (zZ (yH 5 (mLC (z8 (zc 0)) [none,none,none,none,some 2,some 3] kj kl km))
  (zZ (sIf (mOr (V9 (zQ (zf qk (zb (zc 4) zk)))) (V9 (zQ (zf uf (zb (mLC (z8 (zc 4)) [none,some 5] ko Z4 kr) zk))))) (jM (mC (.b false))) zG)
  (jM (mOp pGt (zf qZ (zb (zc 4) zk)) (mOp jS (zc 1) (mOp zA (mOp m9 (zc 3) (zc 2)) (mC (.i 1)))))))))
def ya:List PV->Out PV:=Zt false 6 Kx
abbrev vy:MG:=
  (gTp 4 (zY (gNm 0) (zY (gNm 1) (zY (gNm 2) (zY (gNm 3) Wf)))))
abbrev YW:MT:=
  bX
abbrev vz:ME:=
  (zc 0)
abbrev vA:MG:=
  (gTp 4 (zY (gNm 0) (zY (gNm 1) (zY (gNm 2) (zY (gNm 3) Wf)))))
abbrev YX:MT:=
  bX
abbrev vB:ME:=
  (zf qx (zb (zc 1) (zb (zc 2) (zb (zc 3) (zb (mOp pIx (zc 4) (zc 0)) zk)))))
abbrev YY:MG:=
  (gNm 0)
abbrev XX:MT:=
  bX
abbrev YZ:ME:=
  (mOp pLe (sj (zc 1) (zc 0)) (zc 2))
abbrev VM:MS:=
  (zZ (sIf (V9 (zQ (zf zN (zb (zc 0) (zb (zc 1) zk))))) (jM (mC (.b false))) zG)
  (zZ (sIf (V9 (zQ (zf yY (zb (mLC (z8 (zc 0)) [none,none,none,none] vy YW vz) (zb (zc 2) zk))))) (jM (mC (.b false))) zG)
  (zZ (sIf (V9 (zQ (zf uf (zb (mLC (z8 (zc 0)) [none,none,none,none,some 2] vA YX vB) zk)))) (jM (mC (.b false))) zG)
  (zZ (yH 3 (BC (zc 2)))
  (jM (zf uf (zb (mLC (Yl (zb (mC (.i 7)) zk)) [none,some 3,some 1] YY XX YZ) zk)))))))
def yd:List PV->Out PV:=Zt false 4 VM
abbrev vC:MG:=
  (gNm 0)
abbrev vD:MT:=
  bX
abbrev vE:ME:=
  (mq (zb (mOp pIx (zc 0) (mC (.i 0))) (zb (mOp pIx (zc 0) (mC (.i 1))) (zb (mOp pIx (zc 0) (mC (.i 2))) (zb (zf kK (zb (mOp pIx (zc 0) (mC (.i 3))) zk)) zk)))))
abbrev Z5:MS:=
  (zZ (yH 6 (kH (zb (mLC (z8 (zc 0)) [none] vC vD vE) (zb (zf kK (zb (zc 4) zk)) zk))))
  (zZ (yH 7 (zf ya (zb (mOp pIx (zc 6) (mC (.i 0))) (zb (zc 1) (zb (zc 2) (zb (zc 3) (zb (mOp pIx (zc 6) (mC (.i 1))) zk)))))))
  (jM (V_ (mUn (L7 [(.bool,true),(.int,false)]) (zc 7)) (V_ (mOp (yQ false) (zc 7) (zc 5)) (mOp (yQ false) (zc 6) (kH (zb (zc 0) (zb (zc 4) zk)))))))))
def zR:List PV->Out PV:=Zt false 8 Z5
abbrev v9:MG:=
  (gNm 0)
abbrev v_:MT:=
  bX
abbrev wa:ME:=
  (mq (zb (mOp pIx (zc 0) (mC (.i 0))) (zb (mOp pIx (zc 0) (mC (.i 1))) (zb (mOp pIx (zc 0) (mC (.i 2))) (zb (zf kK (zb (mOp pIx (zc 0) (mC (.i 3))) zk)) zk)))))
abbrev Y0:MS:=
  (zZ (yH 4 (kH (zb (mLC (z8 (zc 0)) [none] v9 v_ wa) (zb (zf Yv (zb (zc 2) zk)) zk))))
  (zZ (yH 5 (zf yd (zb (mOp pIx (zc 4) (mC (.i 0))) (zb (zc 1) (zb (mOp pIx (zc 4) (mC (.i 1))) zk)))))
  (jM (V_ (mUn (L7 [(.bool,true),(.int,false)]) (zc 5)) (V_ (mOp (yQ false) (zc 5) (zc 3)) (mOp (G_ false) (zc 4) (kH (zb (zc 0) (zb (zc 2) zk)))))))))
def zK:List PV->Out PV:=Zt false 6 Y0
abbrev vF:MG:=
  (gNm 0)
abbrev vG:MT:=
  (mOr (zQ (mOp (yQ false) (zf zg (zb (zc 1) (zb (mC (.i 193)) (zb (mC (.i 3)) zk)))) (mC (.i 0)))) (zQ (zf qT (zb (zc 0) (zb (zc 2) (zb (zc 3) zk))))))
abbrev vH:ME:=
  (zc 0)
abbrev Y1:MG:=
  (gNm 0)
abbrev Y2:MT:=
  bX
abbrev Y3:ME:=
  (mOp pIx (zc 0) (mC (.i 0)))
abbrev VN:MS:=
  (zZ (yH 4 (mOp m9 (zf zg (zb (zc 0) (zb (mC (.i 190)) (zb (mC (.i 9)) zk)))) (mC (.i 1))))
  (zZ (yH 5 (mOp pIx (kH (zb (zc 4) (zb (mOp m9 (zf zg (zb (zc 0) (zb (mC (.i 191)) (zb (mC (.i 9)) zk)))) (mC (.i 1))) (zb (mOp vN (mC (.i 10)) (mC (.i 20))) zk)))) (zf zg (zb (zc 0) (zb (mC (.i 192)) (zb (mC (.i 3)) zk))))))
  (zZ (sIf (eV (zQ (mOp (yQ true) (zc 1) (kH zk))) (zQ (mOp (yQ false) (zf zg (zb (zc 0) (zb (mC (.i 196)) (zb (mC (.i 2)) zk)))) (mC (.i 0))))) (zZ (yH 6 (mOp zA (zf zO (zb (mOp pIx (zc 1) (zf zg (zb (zc 0) (zb (mC (.i 197)) (zb (zf qZ (zb (zc 1) zk)) zk))))) zk)) (kH (zb (mC (.i 6)) zk))))
  (zZ (yH 4 (mOp pIx (zc 6) (mC (.i 0))))
  (yH 5 (mOp pIx (zc 6) (zf ue (zb (mC (.i 0)) (zb (mOp m9 (zf qZ (zb (zc 6) zk)) (mC (.i 2))) zk))))))) zG)
  (zZ (yH 7 (mLC (z8 (zc 1)) [none,some 0,some 4,some 5] vF vG vH))
  (zZ (yH 8 (mLC (z8 (zc 7)) [none] Y1 Y2 Y3))
  (zZ (sIf (zQ (mOp (yQ false) (mOp pIx (zc 3) (mC (.i 0))) (mC (.s "crowd")))) (zZ (xf (gTp 3 (zY (gNm 4) (zY (gNm 5) (zY (gNm 8) Wf)))) (mSl He (zc 3) (qW (mC (.i 1))) Wc))
  (zZ (sIf (V9 (zQ (zf zR (zb (zc 1) (zb (zc 2) (zb (zc 4) (zb (zc 5) (zb (zc 8) (zb (mC (.b true)) zk))))))))) (jM (mC (.b false))) zG)
  (yH 8 (zf kK (zb (zc 8) zk))))) zG)
  (zZ (yH 9 (zf zg (zb (zc 0) (zb (mC (.i 194)) (zb (mC (.i 9)) zk)))))
  (zZ (sIf (zQ (mOp (yQ false) (zc 9) (mC (.i 0)))) (Lc 8 (zf zg (zb (zc 0) (zb (mC (.i 195)) (zb (mOp zA (mC (.i 1)) (zf qZ (zb (zc 8) zk))) zk)))) (mC (.s "none"))) zG)
  (zZ (sIf (eV (zQ (mOp (yQ false) (zc 9) (mC (.i 1)))) (zQ (mOp (yQ true) (zc 8) (kH zk)))) (nk 8 (mOp pIx (zc 8) (zf zg (zb (zc 0) (zb (mC (.i 195)) (zb (zf qZ (zb (zc 8) zk)) zk)))))) zG)
  (zZ (sIf (eV (zQ (mOp (yQ false) (zc 9) (mC (.i 2)))) (zQ (mOp (yQ true) (zc 8) (kH zk)))) (Ac 8 (zf zg (zb (zc 0) (zb (mC (.i 195)) (zb (zf qZ (zb (zc 8) zk)) zk))))) zG)
  (zZ (sIf (zQ (mOp (yQ false) (zc 9) (mC (.i 3)))) (yH 4 (mOp zA (zc 4) (mC (.i 1)))) zG)
  (zZ (sIf (zQ (mOp (yQ false) (zc 9) (mC (.i 4)))) (yH 5 (mOp m9 (zc 5) (mC (.i 1)))) zG)
  (zZ (sIf (zQ (mOp (yQ false) (zc 9) (mC (.i 5)))) (yH 5 (mOp zA (zc 5) (mC (.i 1)))) zG)
  (zZ (yH 10 (zf qo (zb (zc 1) (zb (zc 2) (zb (zc 4) (zb (zc 5) (zb (zc 8) zk)))))))
  (zZ (sIf (V9 (zQ (zf zR (zb (zc 1) (zb (zc 2) (zb (zc 4) (zb (zc 5) (zb (zc 8) (zb (zc 10) zk))))))))) (jM (mC (.b false))) zG)
  (zZ (yH 11 (zf vt (zb (zc 0) (zb (zc 1) zk))))
  (jM (zf zR (zb (zc 11) (zb (zc 2) (zb (zc 4) (zb (zc 5) (zb (zc 8) (zb (V_ (zc 10) (mOp (yQ false) (zc 11) (zc 1))) zk))))))))))))))))))))))))
def qV:List PV->Out PV:=Zt false 12 VN
abbrev bx:MG:=
  (gNm 0)
abbrev iR:MT:=
  bX
abbrev bz:ME:=
  (zf qU (zb (zc 1) (zb (zc 0) zk)))
abbrev iS:MG:=
  (gNm 0)
abbrev iT:MT:=
  bX
abbrev iU:ME:=
  (mOp pIx (zc 0) (mC (.i 0)))
abbrev sI:HMS:=
  (Yo (Vz 1 (hP [true] (mLC (Yl (zb (zf zg (zb (zc 0) (zb (mC (.i 13)) (zb (mC (.i 7)) zk)))) zk)) [none,some 0] bx iR bz)))
  (Yo (Vz 2 (hP [true] (zf zg (zb (zc 0) (zb (mC (.i 14)) (zb (mC (.i 4)) zk))))))
  (Yo (Vz 3 (fU yZ (Qz (Ud 1) (Qz (Ud 2) uj))))
  (Yo (Vz 4 (hP [false,true] (mLC (z8 (zc 1)) [none] iS iT iU)))
  (Yo (hIf (hPT [false,true,false,false,true] (V9 (zQ (zf zR (zb (zc 1) (zb (mC (.i 0)) (zb (mC (.i 0)) (zb (mC (.i 6)) (zb (zc 4) (zb (zf qo (zb (zc 1) (zb (mC (.i 0)) (zb (mC (.i 0)) (zb (mC (.i 6)) (zb (zc 4) zk)))))) zk)))))))))) (Ue (hP [] (mC (.b false)))) Yw)
  (Yo (hIf (hPT [true,true,true,true] (V9 (zQ (zf qV (zb (zc 0) (zb (zc 1) (zb (zc 2) (zb (zc 3) zk)))))))) (Ue (hP [] (mC (.b false)))) Yw)
  (Yo (Vz 5 (hP [true,true] (zf jE (zb (zc 0) (zb (zc 1) zk)))))
  (Yo (hIf (hPT [false,false,false,true] (zQ (mOp (yQ false) (mOp pIx (zc 3) (mC (.i 0))) (mC (.s "care"))))) (Yo (hIf (hPT [false,true,true,true] (V9 (zQ (zf zK (zb (zc 1) (zb (zc 2) (zb (mOp pIx (zc 3) (mC (.i 1))) (zb (mC (.b true)) zk)))))))) (Ue (hP [] (mC (.b false)))) Yw)
  (hIf (hPT [true] (zQ (mOp (yQ false) (zf zg (zb (zc 0) (zb (mC (.i 184)) (zb (mC (.i 2)) zk)))) (mC (.i 1))))) (Vz 5 (hP [false,false,false,true] (mOp pIx (zc 3) (mC (.i 1))))) Yw)) Yw)
  (Yo (hIf (hPT [false,true,true,false,false,true] (V9 (zQ (zf zK (zb (zc 1) (zb (zc 2) (zb (zc 5) (zb (zf ql (zb (zc 1) (zb (zc 2) (zb (zc 5) zk)))) zk)))))))) (Ue (hP [] (mC (.b false)))) Yw)
  (Yo (Vz 5 (hP [true,false,false,false,false,true] (zf qS (zb (zc 0) (zb (zc 5) zk)))))
  (Yo (Vz 6 (hP [false,true,true,false,false,true] (zf ql (zb (zc 1) (zb (zc 2) (zb (zc 5) zk))))))
  (Yo (hIf (hPT [false,true,true,false,false,true,true] (V9 (zQ (zf zK (zb (zc 1) (zb (zc 2) (zb (zc 5) (zb (zc 6) zk)))))))) (Ue (hP [] (mC (.b false)))) Yw)
  (Yo (Vz 7 (hP [true,true] (zf vt (zb (zc 0) (zb (zc 1) zk)))))
  (Yo (hIf (hPT [false,true,true,false,false,true,true,true] (V9 (zQ (zf zK (zb (zc 7) (zb (zc 2) (zb (zc 5) (zb (V_ (zc 6) (mOp (yQ false) (zc 7) (zc 1))) zk)))))))) (Ue (hP [] (mC (.b false)))) Yw)
  (Ue (hP [false,true,false,false,false,true] (V_ (zf zK (zb (zc 1) (zb (mOp zA (mOp vN (mC (.i 10)) (mC (.i 9))) (mC (.i 1))) (zb (zc 5) (zb (mC (.b false)) zk))))) (zf zR (zb (zc 1) (zb (mUn m_ (mC (.i 1))) (zb (mC (.i 0)) (zb (mC (.i 6)) (zb (kH zk) (zb (mC (.b false)) zk))))))))))))))))))))))))
def BL:List HV->AH->HX HV:=nq 8 sI
def zq(T:Txt K mg a):qz P w K mg base (CXe P w) 1 a.zg a.ae ["_law_script","_law_k","_law_many"] (lsp (WW K a) false [true,true,true] zg):=
 zM (S':=[1,1,1,0]) (Sb:=[]) (Sc:=[]) T.zp.F Jy rfl rfl rfl (by decide) λd A b s H E c=>
  (zi (se 3 Jy.nd ei)
   (zi (yz (yG Jn Jr (qC rfl T.kh (za (ev 0) ze)) ei (yr _))
    (zo (se 3 Jy.nd (zL W6 W8 (ix c (ev 0) (zL W6 W8 (ev 1) (qC rfl T.kh (za (ev 0) ze)))) ei)))
    zS)
   (zo (z4 (zL W6 W8 (zL oE oF (zL W6 W8 (zL jx jA (zL zC zD (zL zC zD (ev 3) (zL jx jA ei (ev 1))) ei) (zL zC zD ei (zL jx jA (ev 1) (ev 1)))) ei) ei) (ev 2))))))
def Uy(T:Txt K mg a):qz P w K mg base (CXe P w) 1 a.w6 a.Zb ["self","most"] (C7 a.j5 ["most"]):=by
 refine T.Ur.okX Xs (λi H Q E h=>by obtain⟨e,d,rfl,b,_⟩:=h;rw[O1,b];rfl) λf A c s H i Q E j h=>?_;obtain⟨e,d,rfl,b,g,k⟩:=h
 match d,b with
 |[v],_=>exact⟨_,Yp (Ys (pv 0) (pv 1) rfl),_,rfl,_,rfl,e,a.j5,.none,rfl,T.dQ,T.XB,.inl ⟨g,k⟩⟩
def QS(T:Txt K mg a):qz P w K mg base (CXe P w) 1 a.w8 a.Zc ["self","name"] (C7 a.j4 ["name"]):=by
 refine T.Ut.okX Xt (λi H Q E h=>by obtain⟨e,d,rfl,b,_⟩:=h;rw[O1,b];rfl) λf A c s H i Q E j h=>?_;obtain⟨e,d,rfl,b,g,k⟩:=h
 match d,b with
 |[v],_=>exact⟨_,Yp (Ys (pv 0) (pv 1) rfl),_,rfl,_,rfl,e,a.j4,.none,rfl,T.Xy,T.Xz,.inl ⟨g,k⟩⟩
def dX(T:Txt K mg a):qz P w K mg base (CXe P w) 1 a.Qb a.Qc ["self","name"] (C7 a.Qa ["name"]):=by
 refine T.dM.okX bp (λi H Q E h=>by obtain⟨e,d,rfl,b,_⟩:=h;rw[O1,b];rfl) λf A c s H i Q E j h=>?_;obtain⟨e,d,rfl,b,g,k⟩:=h
 match d,b with
 |[v],_=>exact⟨_,Yp (Ys (pv 0) (pv 1) rfl),_,rfl,_,rfl,e,a.Qa,.none,rfl,T.sD,T.bw,.inl ⟨g,k⟩⟩
def Wn(T:Txt K mg a):qz P w K mg base (CXe P w) 1 a.kB a.kC ["self","value"] (C7 a.qt ["value"]):=by
 refine T.Wg.okX Vj (λi H Q E h=>by obtain⟨e,d,rfl,b,_⟩:=h;rw[O1,b];rfl) λf A c s H i Q E j h=>?_;obtain⟨e,d,rfl,b,g,k⟩:=h
 match d,b with
 |[v],_=>exact⟨_,Yp (Ys (pv 0) (pv 1) rfl),_,rfl,_,rfl,e,a.qt,.none,rfl,T.XA,T.Kn,.inl ⟨g,k⟩⟩
def Y4(T:Txt K mg a):qz P w K mg base (CXe P w) 1 a.yC a.VR ["metre","due","loads"] (lsp (WW K a) false [true,true,true] yC):=
 zM (S':=[1,1,1]) (Sb:=[]) (Sc:=[]) T.qR.F bq rfl rfl rfl (by decide) λc A b s H E d=>
  (zo (z4 (QC Jn Jr (zL zC zD (ev 0) (Yt rfl rfl T.Vl (za (ev 2) ze))) (ev 1) (yr _))))
def Ky(T:Txt K mg a):qz P w K mg base (CXe P w) 1 a.yw a.wg ["metre","due","loads","night"] (lsp (WW K a) false [true,true,true,true] yw):=
 zM (S':=[1,1,1,1,0,0]) (Sb:=[]) (Sc:=[]) T.qf.F qN rfl rfl rfl (by decide) λc A b s H E d=>
  (zi (se 4 qN.nd (zL zC zD (ev 0) (Yt rfl rfl T.Vl (za (kW (ev 2) wF (wG (zL zC zD (ev 3) ei))) ze))))
   (zi (se 5 qN.nd (Yt rfl rfl T.Vl (za (kW (ev 2) (wG (zL zC zD (ev 3) ei)) wF) ze)))
   (zo (z4 (Vx (QC JM JR (ev 4) (ev 1) (yr _)) (UP (QC JM JR (ev 5) (ev 1) (yr _))))))))
def Uz(T:Txt K mg a):qz P w K mg base (CXe P w) 1 a.w_ a.Zd ["self","name"] (C7 a.qu ["name"]):=by
 refine T.Uu.okX Xu (λi H Q E h=>by obtain⟨e,d,rfl,b,_⟩:=h;rw[O1,b];rfl) λf A c s H i Q E j h=>?_;obtain⟨e,d,rfl,b,g,k⟩:=h
 match d,b with
 |[v],_=>exact⟨_,Yp (Ys (pv 0) (pv 1) rfl),_,rfl,_,rfl,e,a.qu,.none,rfl,T.dR,T.XE,.inl ⟨g,k⟩⟩
def bA(T:Txt K mg a):qz P w K mg base (CXe P w) 1 a.qw a.KQ ["chosen","first","last"] (lsp (WW K a) true [true,true,true] qw):=
 zM (S':=[1,1,1]) (Sb:=[]) (Sc:=[]) T.qv.F Um rfl rfl rfl (by decide) λd A c s H E b=>
  (zo (oU (GJ ["name","first","chosen","last"] [none,some 1,some 0,some 2] [0,1,1,1] rfl (by kernel_rfl) (pv 0) (λ_=>(zW (show List.Nodup (["name","first","chosen","last"]:List Str)from by decide +kernel) rfl (.inl rfl))) (λ_=>(UR (TWM.tm (JT (yG JM JR (ev 1) (ix b (ix b (ev 2) (ev 0)) ei) (yr _)) (Zw (yG JM JR (ix b (ix b (ev 2) (ev 0)) (mf UK UO ei)) (ev 3) (yr _))))))) (λ_=>(zt (pv 0))))))
def UA(T:Txt K mg a):qz P w K mg base (CXe P w) 1 a.Za a.Ze ["self","first","last","cars"] (C7 a.ye ["first","last","cars"]):=by
 refine T.Uw.okX Xv (λt H Q E h=>by obtain⟨e,m,rfl,j,_⟩:=h;rw[O1,j];rfl) λo A l s H t Q E x h=>?_;obtain⟨e,m,rfl,j,n,k⟩:=h
 match m,j with
 |[v,u,z],_=>
  have g:∀{c},H c=none->c≠e:=λh z=>by rw[z,n]at h;cases h
  exact⟨_,Wx (Ys (pv 0) (pv 1) rfl) (Wx (Ys (pv 0) (pv 2) rfl) (Yp (Ys (pv 0) (pv 3) rfl))),_,rfl,_,rfl,e,a.ye,.none,rfl,T.vq,T.Wi,.inl ⟨n,λc f=>⟨_,rfl,_,rfl,e,a.ye,.none,rfl,T.vq,T.XF,.inr ⟨c,[(("first":Str),v)],by rw[zh],by rw[zj (g f),zh],g f,(show 1<1000 by decide),⟨_,rfl,_,rfl,e,a.ye,.none,rfl,T.vq,T.XH,.inr ⟨c,[(("first":Str),v),(("last":Str),u)],by rw[zj (Ne.symm (g f)),zh],by rw[zh];rfl,g f,(show 2<1000 by decide),by
   have q:=k c f;have r:eU ("cars":Str) z [(("first":Str),v),(("last":Str),u)]=[(("first":Str),v),(("last":Str),u),(("cars":Str),z)]:=rfl;have p:∀{A B C D:HO},upd (upd (upd (upd H c A) e B) c C) c D=upd (upd H c D) e B:=λ{A B C D}=>funext λb=>by
    by_cases i:b=c
    .subst i;rw[zh,zj (g f),zh]
    .rw[zj i,zj i];by_cases d:b=e
     .subst d;rw[zh,zh]
     .rw[zj d,zj d,zj i,zj i]
   rw[p];exact q⟩⟩⟩⟩⟩⟩
def jY(T:Txt K mg a):qz P w K mg base (CXe P w) 1 a.zO a.VS ["_law_week_here"] (lsp (WW K a) true [false] zO):=
 zM (S':=[0,0,0,0,0,0,0]) (Sb:=[]) (Sc:=[]) T.zJ.F yW rfl rfl rfl (by decide) λc A b s H E d=>
  (zi (oV (zt (pv 0)) (JZ rfl (zU (gn 1 yW.nd) (zU (gn 2 yW.nd) (zU (gn 3 yW.nd) (zU (gn 4 yW.nd) JY yn) yn) yn) yn)))
   (zi (wI yW.nd rfl (.inl rfl) (qh ze))
   (zi (ZW (yg ⟨rfl,rfl⟩) rfl (Zy rfl T.ki (za ei ze)) (gn 6 yW.nd)
    (zo (yz (TWM.tm (JT (yG JM JR (zL zC zD (ev 2) (Yt rfl rfl T.Vl (za (kW (ev 4) wF (wG (zL zC zD (ev 6) ei))) ze))) (ev 3) (yr _)) (Zw (yG JM JR (Yt rfl rfl T.Vl (za (kW (ev 4) (wG (zL zC zD (ev 6) ei)) wF) ze)) (ev 3) (yr _)))))
    (zo (JX (pv 5) (zt (pv 6))))
    zS)))
   (zo (fK (pv 5))))))
def dY(T:Txt K mg a):qz P w K mg base (CXe P w) 1 a.qk a.VU ["things"] (lsp (WW K a) false [true] qk):=
 zM (S':=[1]) (Sb:=[]) (Sc:=[]) T.vU.F br rfl rfl rfl (by decide) λd A b s H E c=>
  (zo (z4 (cY c.units (DV rfl rfl T.kh rfl T.Af (za (ev 0) ze)) (qC rfl T.kh (za (ev 0) ze)))))
def bB(T:Txt K mg a):qz P w K mg base (CXe P w) 1 a.yY a.KS ["costs","things"] (lsp (WW K a) false [true,true] yY):=
 zM (S':=[1,1]) (Sb:=[]) (Sc:=[]) T.k8.F Uo rfl rfl rfl (by decide) λd A b s H E c=>
  (zo (z4 (x_ c.units rfl rfl T.Af (za (ev 0) ze) (za (ev 1) ze))))
def bC(T:Txt K mg a):qz P w K mg base (CXe P w) 2 a.k_ a.lH ["metre","due","loads"] (lsp (WW K a) true [true,true,true] k_):=
 zM (S':=[1,1,1]) (Sb:=[]) (Sc:=[]) T.qG.F sv rfl rfl rfl (by decide) λd A b s H E c=>
  (zo (oU (Va ["night","metre","due","loads"] [none,some 0,some 1,some 2] [0,1,1,1] rfl (by kernel_rfl) (Zy rfl T.ki (za (QB (wB rfl T.VD ⟨_,rfl⟩)) ze)) (λ_=>(zW (show List.Nodup (["night","metre","due","loads"]:List Str)from by decide +kernel) rfl (.inl rfl))) (λ_=>(UR (qP (ec (Ky T) c T.qf UN (za (ev 1) (za (ev 2) (za (ev 3) (za (ev 0) ze)))))))) (λ_=>(zt (pv 0))))))
def gj(T:Txt K mg a):qz P w K mg base (CXe P w) 2 a.jE a.X7 ["_law_script","_law_weeks"] (lsp (WW K a) true [true,true] jE):=
 zM (S':=[1,1,0,0,0]) (Sb:=[]) (Sc:=[]) T.jD.F jU rfl rfl rfl (by decide) λd A c s H E b=>
  (zi (wI jU.nd rfl (.inl rfl) Xc)
   (zi (ZW (yg ⟨rfl,rfl⟩) rfl (Zy rfl T.ki (za (qC rfl T.kh (za (ev 1) ze)) ze)) (gn 3 jU.nd)
    (zi (se 4 jU.nd (zL zC zD (FM.em (qh (za (cQ b9) ze))) (FM.em (vk (jY T) (rm b) rfl T.zJ.g T.zJ.k T.zJ.b zI (za (ix b (ev 1) (ev 3)) ze)))))
   (zi (yz (TWM.tm (JT (yG Jn Jr (zL zC zD (ix b (ix b (ev 1) (ev 3)) ei) (Yt rfl rfl T.Vl (za (ix b (ix b (ev 1) (ev 3)) ei) ze))) (ix b (ix b (ev 1) (ev 3)) ei) (yr _)) (Zw (yG Jn Jr (ec (zq T) b T.zp zI (za (ev 0) (za (EM.weak (zL zC zD ei (ev 3))) (za (EM.weak ei) ze)))) ei (yr _)))))
    (zo (se 4 jU.nd (zL zC zD (kW (ev 4) (wG ei) wF) (kW (FM.em (qh (za ei ze))) wF (wG (Dq rfl T.D6 (za (cY b.units (qC rfl T.kh (za (ev 4) ze)) ei) ze)))))))
    zS)
   (zo (UQ (Yj b) (pv 2) (ix b (ix b (ev 1) (ev 3)) ei) (ix b (ev 4) (ec (zq T) b T.zp zI (za (ev 0) (za (EM.weak (zL zC zD ei (ev 3))) (za (EM.weak (qC rfl T.kh (za (ev 4) ze))) ze))))))))))
   (zo (fK (pv 2)))))
def dZ(T:Txt K mg a):qz P w K mg base (CXe P w) 2 a.qS a.VT ["_law_script","_law_told_here"] (lsp (WW K a) false [true,true] qS):=
 zM (S':=[1,1,0,0]) (Sb:=[]) (Sc:=[]) T.vT.F kY rfl rfl rfl (by decide) λd A c s H E b=>
  (zi (wI kY.nd rfl (.inl rfl) (WE rfl rfl T.U4 (za (ev 1) ze)))
   (zi (se 2 kY.nd (ec (zq T) b T.zp zI (za (ev 0) (za (EM.weak ei) (za (EM.weak ei) ze)))))
   (zi (yz (vj b.units (ev 2) ei)
    (zo (UQ (Yj b) (pv 1) (vO Zi) (cQ b9)))
    zS)
   (zi (yz (fF b.units (ev 1) (FM.em Xc))
    (zi (se 3 kY.nd (ix b (FM.em (ZC rfl rfl T.QJ (za (ev 1) ze))) (ec (zq T) b T.zp zI (za (ev 0) (za (EM.weak ei) (za (EM.weak (qC rfl T.kh (za (ev 1) ze))) ze))))))
   (zi (yz (vj b.units (ev 2) ei)
    (zo (Dg (pv 1) (ev 3) ⟨rfl,rfl,rfl,rfl⟩))
    zS)
   (zi (yz (vj b.units (ev 2) ei)
    (zo (UQ (Yj b) (pv 1) (ev 3) (cQ b9)))
    zS)
   (zo (yz (vj b.units (ev 2) ei)
    (zo (UQ (Yj b) (pv 1) (ev 3) (ix b (FM.em (qh (za (mf UK UO ei) (za ei (za ei (za ei (za ei (za (zL WT Jq ei ei) ze)))))))) (ec (zq T) b T.zp zI (za (ev 0) (za (EM.weak ei) (za (EM.weak ei) ze)))))))
    zS)))))
    zS)
   (cZ 1 (zo (z4 (zt (pv 1)))))))))
def XY(T:Txt K mg a):qz P w K mg base (CXe P w) 2 a.ql a.X8 ["_law_weeks","_law_bays","_law_told_here"] (lsp (WW K a) false [true,true,true] ql):=
 zM (S':=[1,1,1,0,0,0]) (Sb:=[]) (Sc:=[]) T.vo.F vP rfl rfl rfl (by decide) λd A c s H E b=>
  (zi (yz (fF b.units (FM.em (xR rfl rfl T.Km (za (ev 2) ze))) (FM.em (xP rfl T.Km (za (FM.em (Va ["_law_week_here"] [none] [0] rfl (by kernel_rfl) (q_ (ev 0)) (λ_=>(zW (show List.Nodup (["_law_week_here"]:List Str)from by decide +kernel) rfl (.inl rfl))) (λ_=>Zk) (λ_=>(ix b (ev 0) ei)))) ze))))
    (zo (z4 (ju jt)))
    zS)
   (zi (wI vP.nd rfl (.inl rfl) (qh (za ei (za ei (za ei (za ei (za ei (za ei (za ei ze)))))))))
   (zi (ZW (yg ⟨rfl,rfl⟩) rfl (c8 (oY (pv 0))) (gn 4 vP.nd)
    (zi (se 5 vP.nd (ix b (ev 2) (ix b (ev 4) ei)))
   (zo (yz (yG JM JR (zL zC zD (ix b (ev 4) ei) (Yt rfl rfl T.Vl (za (ix b (ev 4) ei) ze))) (ix b (ev 4) ei) (yr _))
    (zo (yz (yG Co CM (ev 5) (cQ b9) (yr _))
    (zo (z4 (ju jt)))
    zS))
    (zo (yz (WB (Yj b) (ev 5) (FM.em (vk (jY T) (rm b) rfl T.zJ.g T.zJ.k T.zJ.b zI (za (zt (pv 4)) ze))))
    (zo (z4 (ju jt)))
    (zo (fL (pv 3) (ev 5) (zL zC zD (ix b (ev 3) (ev 5)) ei)))))))))
   (zo (z4 (QC JM JR (h_ rfl rfl T.mI (za (ev 3) ze)) (ev 1) (yr _)))))))
def d0(T:Txt K mg a):qz P w K mg base (CXe P w) 2 a.vt a.eN ["_law_script","_law_weeks"] (lsp (WW K a) false [true,true] vt):=
 zM (S':=[1,1,0,0,0,0,0,0]) (Sb:=[]) (Sc:=[]) T.YQ.F yJ rfl rfl rfl (by decide) λd A c s H E b=>
  (zi (wI yJ.nd rfl (.inl rfl) (ZC rfl rfl T.QJ (za (ev 1) ze)))
   (zi (se 2 yJ.nd (ec (zq T) b T.zp zI (za (ev 0) (za (EM.weak ei) (za (EM.weak ei) ze)))))
   (zi (yz (TWM.tm (JT (yG cf cV (ev 2) ei (yr _)) (Zw (fF b.units (ev 1) (FM.em (qh ze))))))
    (zi (se 3 yJ.nd (ec (zq T) b T.zp zI (za (ev 0) (za (EM.weak ei) (za (EM.weak (qC rfl T.kh (za (ev 1) ze))) ze)))))
   (zi (oV (ix b (ev 1) (ev 3)) (JZ rfl (zU (gn 4 yJ.nd) (zU (gn 5 yJ.nd) (zU (gn 6 yJ.nd) (zU (gn 7 yJ.nd) JY yn) yn) yn) yn)))
   (zi (wI yJ.nd rfl (.inl rfl) (ZC rfl rfl T.QJ (za (ev 7) ze)))
   (zi (yz (vj b.units (ev 2) ei)
    (zo (se 4 yJ.nd (ix b (FM.em (qh (za (vO Zi) (za (vO Zi) (za (zL zC zD (ev 4) (vO Zi)) ze))))) (ec (zq T) b T.zp zI (za (ev 0) (za (EM.weak ei) (za (EM.weak ei) ze)))))))
    zS)
   (zi (yz (vj b.units (ev 2) ei)
    (zo (se 5 yJ.nd (ix b (FM.em (qh (za (mf UK UO ei) (za (zL zC zD (zL WT Jq ei ei) ei) ze)))) (ec (zq T) b T.zp zI (za (ev 0) (za (EM.weak ei) (za (EM.weak ei) ze)))))))
    zS)
   (zi (yz (vj b.units (ev 2) ei)
    (zo (se 6 yJ.nd (ix b (FM.em (qh (za ei (za (zL WT Jq ei ei) ze)))) (ec (zq T) b T.zp zI (za (ev 0) (za (EM.weak ei) (za (EM.weak ei) ze)))))))
    zS)
   (zi (yz (vj b.units (ev 2) ei)
    (zo (fL (pv 7) (ec (zq T) b T.zp zI (za (ev 0) (za (EM.weak ei) (za (EM.weak ei) ze)))) (ix b (FM.em (qh (za (mf UK UO ei) (za (zL zC zD (zL WT Jq ei ei) ei) ze)))) (ec (zq T) b T.zp zI (za (ev 0) (za (EM.weak ei) (za (EM.weak ei) ze)))))))
    zS)
   (cZ 7 (zo (fL (pv 1) (ev 3) (Vw (za (zt (pv 4)) (za (zt (pv 5)) (za (zt (pv 6)) (za (zt (pv 7)) ze)))))))))))))))
    zS)
   (zi (yz (TWM.tm (JT (vj b.units (ev 2) ei) (Zw (fF b.units (ev 1) (FM.em (qh ze))))))
    (zo (JX (pv 1) (ix b (ev 1) (ec (zq T) b T.zp zI (za (ev 0) (za (EM.weak ei) (za (EM.weak (qC rfl T.kh (za (ev 1) ze))) ze)))))))
    zS)
   (cZ 1 (zo (z4 (zt (pv 1)))))))))
def mN(T:Txt K mg a):qz P w K mg base (CXe P w) 2 a.jF a.ag ["_law_script","_law_k","_law_number"] (lsp (WW K a) false [true,true,true] jF):=
 zM (S':=[1,1,1,0,0]) (Sb:=[]) (Sc:=[]) T.Qw.F JA rfl rfl rfl (by decide) λd A c s H E b=>
  (zi (se 3 JA.nd (ec (zq T) b T.zp zI (za (ev 0) (za (ev 1) (za (EM.weak ei) ze)))))
   (zi (se 4 JA.nd (zL zC zD (ec (zq T) b T.zp zI (za (ev 0) (za (EM.weak (zL zC zD (ev 1) ei)) (za (EM.weak (zL JL JQ ei (ev 3))) ze)))) (zL W6 W8 (ev 2) ei)))
   (zo (z4 (zL zC zD (zL zC zD (zL jx jA (vO Zi) (ev 3)) (ix b (vO Zi) (ev 2))) (zL jx jA (vO Zi) (ev 4)))))))
def XZ(T:Txt K mg a):qz P w K mg base (CXe P w) 2 a.qo a.X9 ["_law_weeks","_law_bays","_law_first","_law_last","_law_names"] (lsp (WW K a) false [true,true,true,true,true] qo):=
 zM (S':=[1,1,1,1,1,0,0,0,0]) (Sb:=[]) (Sc:=[]) T.vp.F jV rfl rfl rfl (by decide) λd A c s H E b=>
  (zi (yz (TWM.tm (Uj (yG cf cV (ev 2) ei (yr _)) (Uj (yG cf cV (ev 3) (ev 2) (yr _)) (JS (yG Jn Jr (ev 3) ei (yr _))))))
    (zo (z4 (ju jt)))
    zS)
   (zi (se 5 jV.nd (FM.em (WE rfl rfl T.U4 (za (FM.em (Va ["_law_week_here"] [none] [0] rfl (by kernel_rfl) (q_ (ev 0)) (λ_=>(zW (show List.Nodup (["_law_week_here"]:List Str)from by decide +kernel) rfl (.inl rfl))) (λ_=>Zk) (λ_=>(Vw (za (ix b (ev 0) ei) (za (zt (pv 0)) ze)))))) ze))))
   (zi (ZW (yg ⟨rfl,rfl⟩) rfl (Zy rfl T.ki (za (qC rfl T.kh (za (ev 4) ze)) ze)) (gn 6 jV.nd)
    (zi (yz (TWM.tm (Uj (WB (Yj b) (ix b (ev 4) (ev 6)) (ev 5)) (JS (CT (Yj b) (ix b (ev 4) (ev 6)) (kW (ev 4) wF (wG (ev 6)))))))
    (zo (z4 (ju jt)))
    zS)
   (zi (se 7 jV.nd (ix b (ev 5) (ix b (ev 4) (ev 6))))
   (zi (yz (yG JM JR (zL zC zD (ix b (ev 7) ei) (Yt rfl rfl T.Vl (za (ix b (ev 7) ei) ze))) (ix b (ev 7) ei) (yr _))
    (zo (z4 (ju jt)))
    zS)
   (zo (ZW (yg ⟨rfl,rfl⟩) rfl (c8 (EM.en (FM.em (vk (jY T) (rm b) rfl T.zJ.g T.zJ.k T.zJ.b zI (za (zt (pv 7)) ze))))) (gn 8 jV.nd)
    (zo (yz (TWM.tm (Uj (yG cf cV (ev 8) (ev 2) (yr _)) (JS (yG Jn Jr (ev 8) (ev 3) (yr _)))))
    (zo (z4 (ju jt)))
    zS))))))))
   (zo (z4 (QC Jn Jr (qC rfl T.kh (za (ev 4) ze)) (zL jx jA (ev 1) (zL zC zD (zL JL JQ (ev 3) (ev 2)) ei)) (yr _)))))))
def d4(T:Txt K mg a):qz P w K mg base (CXe P w) 2 a.qT a.VV ["_law_week_here","_law_first","_law_last"] (lsp (WW K a) false [false,true,true] qT):=
 zM (S':=[0,1,1]) (Sb:=[]) (Sc:=[]) T.vV.F bt rfl rfl rfl (by decide) λd A b s H E c=>
  (zo (z4 (cY c.units (FM.em (Va ["_law_night","_law_first","_law_last"] [none,some 1,some 2] [0,1,1] rfl (by kernel_rfl) (q_ (FM.em (vk (jY T) (rm c) rfl T.zJ.g T.zJ.k T.zJ.b zI (za (zt (pv 0)) ze)))) (λ_=>(zW (show List.Nodup (["_law_night","_law_first","_law_last"]:List Str)from by decide +kernel) rfl (.inl rfl))) (λ_=>(UR (TWM.tm (Uj (yG cf cV (ev 0) (ev 1) (yr _)) (JS (yG Jn Jr (ev 0) (ev 2) (yr _))))))) (λ_=>(zt (pv 0))))) (FM.em (qh ze)))))
def d5(T:Txt K mg a):qz P w K mg base (CXe P w) 3 a.qp a.VQ ["things","most"] (lsp (WW K a) false [true,false] qp):=
 zM (Sb:=[]) (Sc:=[]) T.vR.F bo rfl rfl rfl (by decide) λe A b s H E d=>
  (zo (yz (yG Jn Jr (qC rfl T.kh (za (ev 0) ze)) (ev 1) (yr _))
    (zo (Zz rfl T.sC T.dQ (Uy T) (rm d) rfl T.Xx T.Us (za (zt (pv 1)) ze)))
    zS))
def UB(T:Txt K mg a):qz P w K mg base (CXe P w) 3 a.qc a.QW ["name"] (lsp (WW K a) false [false] qc):=
 zM (S':=[0,0]) (Sb:=[]) (Sc:=[]) T.jO.F YJ rfl rfl rfl (by decide) λe A d s H E b=>
  (zi (yz (TWM.tm (Uj (yG cf cV (qC rfl T.kh (za (ev 0) ze)) ei (yr _)) (JS (yG Jn Jr (qC rfl T.kh (za (ev 0) ze)) (QB (wB rfl T.wU ⟨_,rfl⟩)) (yr _)))))
    (zo (Zz rfl T.dO T.Xy (QS T) (rm b) rfl T.Kj T.QK (za (zt (pv 0)) ze)))
    zS)
   (zi (ZW (yg ⟨rfl,rfl⟩) rfl (G5 (ev 0)) (gn 1 YJ.nd)
    (zo (yz (WB (Yj b) (ev 1) (vO (wB rfl T.YM ⟨_,rfl⟩)))
    (zo (Zz rfl T.dO T.Xy (QS T) (rm b) rfl T.Kj T.QK (za (zt (pv 0)) ze)))
    zS)))
   (zo (z4 (zt (pv 0))))))
def y_(T:Txt K mg a):qz P w K mg base (CXe P w) 3 a.zw a.Z6 ["value","least"] (lsp (WW K a) false [false,true] zw):=
 zM (S':=[0,1]) (Sb:=[]) (Sc:=[]) T.zV.F Vk rfl rfl rfl (by decide) λe A b s H E d=>
  (zi (yz (TWM.tm (Uj (yG cf cV (ev 0) (ev 1) (yr _)) (JS (yG Jn Jr (ev 0) (QB (wB rfl T.gf ⟨_,rfl⟩)) (yr _)))))
    (zo (Zz rfl T.gi T.XA (Wn T) (rm d) rfl T.JD T.Wh (za (zt (pv 0)) ze)))
    zS)
   (zo (z4 (zt (pv 0)))))
def Vm(T:Txt K mg a):qz P w K mg base (CXe P w) 3 a.yi a.Zp ["weeks"] (lsp (WW K a) true [true] yi):=
 zM (S':=[1,0,0,0,0,0]) (Sb:=[]) (Sc:=[]) T.yF.F yt rfl rfl rfl (by decide) λd A c s H E b=>
  (zi (wI yt.nd rfl (.inl rfl) Xc)
   (zi (ZW (yg ⟨rfl,rfl⟩) rfl (c8 (oY (pv 0))) (JZ rfl (zU (gn 2 yt.nd) (zU (gn 3 yt.nd) (zU (gn 4 yt.nd) (zU (gn 5 yt.nd) JY yn) yn) yn) yn))
    (zo (yz (qP (ec (Y4 T) b T.qR zI (za (ev 3) (za (ev 4) (za (ev 5) ze)))))
    (zo (UQ (Yj b) (pv 1) (ev 2) (FM.em (vk (bC T) (rm b) rfl T.qG.g T.qG.k T.qG.b zI (za (ev 3) (za (ev 4) (za (ev 5) ze)))))))
    zS)))
   (zo (fK (pv 1)))))
def UC(T:Txt K mg a):qz P w K mg base (CXe P w) 3 a.yO a.QX ["chosen"] (lsp (WW K a) false [true] yO):=
 zM (Sb:=[]) (Sc:=[]) T.jP.F YK rfl rfl rfl (by decide) λe A d s H E b=>
  (zo (De rfl ⟨rfl,rfl⟩ (λE=>(pv 0)) (λE=>(gn 1 YK.nd))
    (λE=>(zo (yz (vj b.units (qC rfl T.kh (za (ix b (ev 0) (ev 1)) ze)) ei)
    (zo (Zz rfl T.sE T.dR (Uz T) (rm b) rfl T.Kk T.Uv (za (zt (pv 1)) ze)))
    zS)))))
def UD(T:Txt K mg a):qz P w K mg base (CXe P w) 3 a.yD a.QY ["chosen","bays"] (lsp (WW K a) false [true,true] yD):=
 zM (Sb:=[]) (Sc:=[]) T.jQ.F jj rfl rfl rfl (by decide) λe A b s H E d=>
  (zo (ZW (yg ⟨rfl,rfl⟩) rfl (Zy rfl T.ki (za (QB (wB rfl T.VD ⟨_,rfl⟩)) ze)) (gn 2 jj.nd)
    (zo (ZW (yg ⟨rfl,rfl⟩) rfl (C6 rfl T.ki (za (ev 2) (za (QB (wB rfl T.VD ⟨_,rfl⟩)) ze))) (gn 3 jj.nd)
    (zi (se 4 jj.nd (FM.em (vk (bA T) (rm d) rfl T.qv.g T.qv.k T.qv.b zI (za (ev 0) (za (ev 2) (za (ev 3) ze))))))
   (zo (yz (yG Jn Jr (qC rfl T.kh (za (ev 4) ze)) (zL jx jA (ev 1) (zL zC zD (zL JL JQ (ev 3) (ev 2)) ei)) (yr _))
    (zo (Zz rfl T.sF T.vq (UA T) (rm d) rfl T.Kl T.Ux (za (zt (pv 2)) (za (zt (pv 3)) (za (zt (pv 4)) ze)))))
    zS)))))))
def mO(T:Txt K mg a):qz P w K mg base (CXe P w) 3 a.qU a.ah ["_law_script","_law_k"] (lsp (WW K a) false [true,true] qU):=
 zM (S':=[1,1,0,0,0,0,0,0,0,0]) (Sb:=[]) (Sc:=[]) T.Qx.F yh rfl rfl rfl (by decide) λd A c s H E b=>
  (zi (se 2 yh.nd (ix b (FM.em (qh (za ei (za ei (za (zL WT Jq ei ei) ze))))) (ec (zq T) b T.zp zI (za (ev 0) (za (EM.weak ei) (za (EM.weak ei) ze))))))
   (zi (wI yh.nd rfl (.inl rfl) (qh ze))
   (zi (ZW (yg ⟨rfl,rfl⟩) rfl (Zy rfl T.ki (za ei ze)) (gn 4 yh.nd)
    (zi (se 5 yh.nd (ec (zq T) b T.zp zI (za (ev 0) (za (EM.weak (zL zC zD (zL zC zD ei (zL jx jA ei (ev 1))) (ev 4))) (za (EM.weak ei) ze)))))
   (zi (yz (yG Jn Jr (ev 5) ei (yr _))
    (zo (se 5 yh.nd (ec (zq T) b T.zp zI (za (ev 0) (za (EM.weak (zL zC zD (zL zC zD ei (zL jx jA ei (ev 1))) (ev 4))) (za (ev 2) ze))))))
    zS)
   (zo (JX (pv 3) (zt (pv 5)))))))
   (zi (Dv yh.nd rfl (.inl rfl) (pv 3))
   (zi (se 7 yh.nd (ec (zq T) b T.zp zI (za (ev 0) (za (EM.weak (zL zC zD ei (zL jx jA ei (ev 1)))) (za (EM.weak ei) ze)))))
   (zi (se 8 yh.nd (ec (zq T) b T.zp zI (za (ev 0) (za (EM.weak (zL zC zD ei (zL jx jA ei (ev 1)))) (za (EM.weak ei) ze)))))
   (zi (se 9 yh.nd (h_ rfl rfl T.mI (za (zL zC zD (ev 6) (Yt rfl rfl T.Vl (za (kW (ev 3) wF (wG (zL zC zD (ev 7) ei))) ze))) (za (Yt rfl rfl T.Vl (za (kW (ev 3) (wG (zL zC zD (ev 7) ei)) wF) ze)) ze))))
   (zi (yz (vj b.units (ev 8) ei)
    (zo (se 9 yh.nd (zL JL JQ (ev 9) ei)))
    zS)
   (zi (yz (vj b.units (ev 8) ei)
    (zo (se 9 yh.nd (zL zC zD (ev 6) (Yt rfl rfl T.Vl (za (ev 3) ze)))))
    zS)
   (zi (yz (yG Jn Jr (ev 8) ei (yr _))
    (zo (se 9 yh.nd (zL zC zD (ev 9) (ec (zq T) b T.zp zI (za (ev 0) (za (EM.weak (zL zC zD ei (zL jx jA ei (ev 1)))) (za (EM.weak (zL zC zD ei (zL oE oF (ev 9) ei))) ze)))))))
    zS)
   (cZ 3 (zo (z4 (Vw (za (ec (mN T) b T.Qw zI (za (ev 0) (za (EM.weak ei) (za (ev 1) ze)))) (za (zt (pv 6)) (za (h_ rfl rfl T.mI (za ei (za (ev 9) ze))) (za (zt (pv 3)) ze))))))))))))))))))
def Kz(T:Txt K mg a):qz P w K mg base (CXe P w) 3 a.yx a.wm ["metre","due","loads","first","last"] (lsp (WW K a) false [true,true,true,true,true] yx):=
 zM (S':=[1,1,1,1,1]) (Sb:=[]) (Sc:=[]) T.qg.F JC rfl rfl rfl (by decide) λd A b s H E c=>
  (zi (yz (kI (qP (ec (Y4 T) c T.qR zI (za (ev 0) (za (ev 1) (za (ev 2) ze))))))
    (zo (z4 (ju jt)))
    zS)
   (zo (z4 (ia rfl rfl T.mH (za (FM.em (Va ["night","first","last"] [none,some 3,some 4] [0,1,1] rfl (by kernel_rfl) (q_ (FM.em (vk (bC T) (rm c) rfl T.qG.g T.qG.k T.qG.b zI (za (ev 0) (za (ev 1) (za (ev 2) ze)))))) (λ_=>(zW (show List.Nodup (["night","first","last"]:List Str)from by decide +kernel) rfl (.inl rfl))) (λ_=>Zk) (λ_=>(uY JM JM JR JR (ev 1) (ev 0) (ev 2))))) ze)))))
def bD(T:Txt K mg a):qz P w K mg base (CXe P w) 3 a.qx a.KU ["metre","due","loads","night"] (lsp (WW K a) false [true,true,true,true] qx):=
 zM (S':=[1,1,1,1]) (Sb:=[]) (Sc:=[]) T.k9.F Uq rfl rfl rfl (by decide) λd A c s H E b=>
  (zi (yz (qP (ec (Y4 T) b T.qR zI (za (ev 0) (za (ev 1) (za (ev 2) ze)))))
    (zo (z4 (Gp (Yj b) (ev 3) (FM.em (vk (bC T) (rm b) rfl T.qG.g T.qG.k T.qG.b zI (za (ev 0) (za (ev 1) (za (ev 2) ze))))))))
    zS)
   (zo (z4 (QC FE Gj (ev 3) (cQ b9) (yr _)))))
def KA(T:Txt K mg a):qz P w K mg base (CXe P w) 4 a.yy a.we ["name","had"] (lsp (WW K a) false [false,true] yy):=
 zM (S':=[0,1]) (Sb:=[]) (Sc:=[]) T.qe.F Jz rfl rfl rfl (by decide) λe A d s H E b=>
  (zi (K7 (ec (UB T) b T.jO zI (za (zt (pv 0)) ze)))
   (zi (yz (CT (Yj b) (ev 0) (ev 1))
    (zo (Zz rfl T.D7 T.sD (dX T) (rm b) rfl T.gh T.dN (za (zt (pv 0)) ze)))
    zS)
   (zo (z4 (zt (pv 0))))))
def sJ(T:Txt K mg a)(TB:uk base mg a.t5 a.t7):qz P w K mg base (CXe P w) 4 a.lG a.bS ["chosen","bays"] (hsp (WW K a) 2 Kv):=
 DF T.vS.F T.iP YL rfl rfl rfl λA outer s H E hr=>
  (z0 (rg YL.nd rfl (by first|exact .inl rfl|exact .inr rfl) (hf Xc))
   (z0 (Ds (S:=[0,0,0,0,0,0]) (fr:=false) [] (yg ⟨rfl,rfl⟩) rfl (Zy rfl T.ki (za (QB (wB rfl T.VD ⟨_,rfl⟩)) ze)) (rh YL.nd rfl (by first|exact .inl rfl|exact .inr rfl))
    (z0 (GZ (S:=[0,0,0,0,0,0]) [true,false,true,true] ["name","told","night","chosen"] [none,some 2,some 3,some 0] [0,0,0,0] YL.nd rfl rfl rfl (by kernel_rfl) (pv 0) (λ_=>(zW (show List.Nodup (["name","told","night","chosen"]:List Str)from by decide +kernel) rfl (.inl rfl))) (λ_=>(UR (TWM.tm (JT (WB (Yj hr) (ev 0) (ev 1)) (Zw (CT (Yj hr) (ev 2) (ix hr (ev 3) (ev 0)))))))) (λ_=>(zt (pv 0))))
   (qF (Dy (yg ⟨rfl,rfl⟩) rfl (Hg (xY (k:=0) rfl rfl TB rfl (λa h=>by first|exact Hf rfl h|exact clos_b rfl h) rfl (Mu rfl) rfl rfl (λpm a c' ctv s u=>.of_eq rfl) (λf a c' A outer s H vs Q E hr q=>xS rfl rfl (by decide) (ix hr (ix hr (ev 1) (ev 0)) (mf UK UO ei)) q) (rm hr) rfl T.Km (Jt (ZZ (pv 4)) iw)) (ZZ (pv 1))) (rh YL.nd rfl (.inl rfl))
    (qF (GY (Yj hr) (ZZ (pv 2)) (ZZ (pv 5)) (ZZ (pv 3))))))))
   (qF (Yy (ZZ (pv 2))))))
def KC(T:Txt K mg a):qz P w K mg base (CXe P w) 5 a.ym a.KP ["weeks"] (lsp (WW K a) false [true] ym):=
 zM (Sb:=[]) (Sc:=[]) T.yX.F yN rfl rfl rfl (by decide) λd A c s H E b=>
  (zi (K7 (ec (d5 T) b T.vR zI (za (ev 0) (za (QB (wB rfl T.YN ⟨_,rfl⟩)) ze))))
   (zi (wI yN.nd rfl (.inl rfl) Xc)
   (zo (ZW (yg ⟨rfl,rfl⟩) rfl (c8 (oY (pv 0))) (JZ rfl (zU (gn 2 yN.nd) (zU (gn 3 yN.nd) (zU (gn 4 yN.nd) (zU (gn 5 yN.nd) JY yn) yn) yn) yn))
    (zi (K7 (ec (KA T) b T.qe zI (za (zt (pv 2)) (za (ev 1) ze))))
   (zi (K7 (ec (y_ T) b T.zV zI (za (zt (pv 3)) (za (EM.weak ei) ze))))
   (zi (K7 (ec (y_ T) b T.zV zI (za (zt (pv 4)) (za (EM.weak ei) ze))))
   (zi (ZW (yg ⟨rfl,rfl⟩) rfl (c8 (EM.en (zt (pv 5)))) (gn 6 yN.nd)
    (zo (K7 (ec (y_ T) b T.zV zI (za (zt (pv 6)) (za (EM.weak ei) ze))))))
   (zo (UQ (Yj b) (pv 1) (ev 2) (ju jt)))))))))))
def D8(T:Txt K mg a)(d:uk base mg a.t5 a.t7):qz P w K mg base (CXe P w) 6 a.Cg a.Ci ["weeks","bays"] (hsp (WW K a) 2 jG):=
 rj T.U5.F gc rfl rfl rfl λe A c s H E b=>
  (z0 (aZ (hp (ec (KC T) b T.yX zI (za (ev 0) ze))))
   (z0 (aZ (hp (ec (y_ T) b T.zV zI (za (zt (pv 1)) (za (EM.weak ei) ze)))))
   (z0 (hse 2 gc.nd (hp (FM.em (vk (Vm T) (rm b) rfl T.yF.g T.yF.k T.yF.b zI (za (ev 0) ze)))))
   (z0 (aZ (hp (ec (UC T) b T.jP zI (za (ev 2) ze))))
   (z0 (aZ (hp (ec (UD T) b T.jQ zI (za (ev 2) (za (ev 1) ze)))))
   (z0 (rg gc.nd rfl (by first|exact .inl rfl|exact .inr rfl) (p7 (sJ T d) (rm b) rfl T.vS.g T.vS.k T.vS.b zI (Jt (ZZ (pv 2)) (Jt (ZZ (pv 1)) iw)) (Vd (Vd p_))))
   (qF (Yy (N9 (S:=[1,1,1,1]) (fr:=false) [true,false,false,true] (FM.em (WE rfl rfl T.U4 (za (FM.em (Va ["name","metre","due","loads","told"] [none,none,none,none,some 3] [0,0,0,0,1] rfl (by kernel_rfl) (q_ (ev 0)) (λ_=>(JZ rfl (zU (zW (show List.Nodup (["name","metre","due","loads","told"]:List Str)from by decide +kernel) rfl (.inl rfl)) (zU (zW (show List.Nodup (["name","metre","due","loads","told"]:List Str)from by decide +kernel) rfl (.inl rfl)) (zU (zW (show List.Nodup (["name","metre","due","loads","told"]:List Str)from by decide +kernel) rfl (.inl rfl)) (zU (zW (show List.Nodup (["name","metre","due","loads","told"]:List Str)from by decide +kernel) rfl (.inl rfl)) JY yn) yn) yn) yn))) (λ_=>Zk) (λ_=>(Vw (za (zt (pv 0)) (za (G6 (Yj b) (ev 4) (ev 0) ⟨rfl,rfl,rfl,rfl⟩) ze)))))) ze))))))))))))
def wc(T:Txt K mg a):qz P w K mg base (CXe P w) 6 a.zN a.wj ["weeks","bays"] (lsp (WW K a) false [true,false] zN):=
 zM (S':=[1,0]) (Sb:=[]) (Sc:=[]) T.yM.F JB rfl rfl rfl (by decide) λd A b s H E c=>
  (zi (DN (S2:=[]) ⟨rfl,rfl⟩ (xZ (KC T) (rm c) rfl T.yX.g T.yX.k T.yX.b (za (ev 0) ze) (Du (y_ T) (rm c) rfl T.zV.g T.zV.k T.zV.b (za (zt (pv 1)) (za (EM.weak ei) ze)))) rfl T.YO (λe=>(zo (z4 (ju jt)))) (fa T.mJ (fa T.dP (fa T.mK (fa T.Ag (fa T.mL (fa T.mM fz)))))))
   (zo (z4 (ju jt))))
def gk(T:Txt K mg a)(d:uk base mg a.t5 a.t7):qz P w K mg base (CXe P w) 7 a.aa a.af ["_law_weeks","_law_bays"] (hsp (WW K a) 2 yZ):=
 rj T.vh.F Xw rfl rfl rfl λf A b s H E c=>
  (qF (Ae ⟨rfl,rfl⟩ (Hn (D4 (hp (vO Zi)) (DE (D8 T d) (rm c) rfl T.U5.g T.U5.k T.U5.b (Jt (ZZ (pv 0)) (Jt (ZZ (pv 1)) iw)) (Vd (Vd p_))))) rfl T.Kk rfl T.Kl Xw.nd rfl (.inl rfl) (λe=>(qF (Yy (hp (Vw (za (vO Zi) ze)))))) (λe=>(qF (Yy (hp (Vw (za (vO Zi) (za (fJ (ev 2) (fa ⟨T.vq,T.Wj⟩ fz)) (za (fJ (ev 2) (fa ⟨T.vq,T.XG⟩ fz)) (za (fJ (ev 2) (fa ⟨T.vq,T.XI⟩ fz)) ze))))))))) (fa T.Ko fz) (fa ⟨T.Kq,T.Kp⟩ fz)))
def bE(T:Txt K mg a):qz P w K mg base (CXe P w) 7 a.ya a.KR ["weeks","bays","first","last","names"] (lsp (WW K a) false [true,false,true,true,true] ya):=
 zM (S':=[1,0,1,1,1,0]) (Sb:=[]) (Sc:=[]) T.kZ.F QH rfl rfl rfl (by decide) λd A c s H E b=>
  (zi (yz (TWM.tm (Uj (kI (qP (ec (wc T) b T.yM zI (za (ev 0) (za (zt (pv 1)) ze))))) (JS (kI (sf JM JM cf JR JR cV ei (ev 2) (ev 3) (QB (wB rfl T.VD ⟨_,rfl⟩)))))))
    (zo (z4 (ju jt)))
    zS)
   (zi (QD QH.nd rfl (by first|exact .inl rfl|exact .inr rfl) (FM.em (Va ["name","metre","due","loads","first","last"] [none,none,none,none,some 2,some 3] [0,0,0,0,1,1] rfl (by kernel_rfl) (q_ (ev 0)) (λ_=>(JZ rfl (zU (zW (show List.Nodup (["name","metre","due","loads","first","last"]:List Str)from by decide +kernel) rfl (.inl rfl)) (zU (zW (show List.Nodup (["name","metre","due","loads","first","last"]:List Str)from by decide +kernel) rfl (.inl rfl)) (zU (zW (show List.Nodup (["name","metre","due","loads","first","last"]:List Str)from by decide +kernel) rfl (.inl rfl)) (zU (zW (show List.Nodup (["name","metre","due","loads","first","last"]:List Str)from by decide +kernel) rfl (.inl rfl)) JY yn) yn) yn) yn))) (λ_=>(UR (qP (ec (Kz T) b T.qg UN (za (ev 1) (za (ev 2) (za (ev 3) (za (ev 4) (za (ev 5) ze))))))))) (λ_=>(zt (pv 0))))))
   (zi (yz (TWM.tm (Uj (kI (qP (ec (dY T) b T.vU zI (za (ev 4) ze)))) (JS (kI (qP (ia rfl rfl T.mH (za (FM.em (Va ["name","crowd"] [none,some 5] [0,0] rfl (by kernel_rfl) (q_ (ev 4)) (λ_=>(zW (show List.Nodup (["name","crowd"]:List Str)from by decide +kernel) rfl (.inl rfl))) (λ_=>Zk) (λ_=>(Gp (Yj b) (ev 0) (ev 1))))) ze)))))))
    (zo (z4 (ju jt)))
    zS)
   (zo (z4 (QC Jn Jr (qC rfl T.kh (za (ev 4) ze)) (zL jx jA (ev 1) (zL zC zD (zL JL JQ (ev 3) (ev 2)) ei)) (yr _)))))))
def d6(T:Txt K mg a):qz P w K mg base (CXe P w) 7 a.yd a.VX ["weeks","bays","told"] (lsp (WW K a) false [true,false,true] yd):=
 zM (S':=[1,0,1,0]) (Sb:=[]) (Sc:=[]) T.vX.F Ki rfl rfl rfl (by decide) λd A c s H E b=>
  (zi (yz (kI (qP (ec (wc T) b T.yM zI (za (ev 0) (za (zt (pv 1)) ze)))))
    (zo (z4 (ju jt)))
    zS)
   (zi (yz (kI (qP (ec (bB T) b T.k8 zI (za (EM.weak (FM.em (Va ["name","metre","due","loads"] [none,none,none,none] [0,0,0,0] rfl (by kernel_rfl) (q_ (ev 0)) (λ_=>(JZ rfl (zU (zW (show List.Nodup (["name","metre","due","loads"]:List Str)from by decide +kernel) rfl (.inl rfl)) (zU (zW (show List.Nodup (["name","metre","due","loads"]:List Str)from by decide +kernel) rfl (.inl rfl)) (zU (zW (show List.Nodup (["name","metre","due","loads"]:List Str)from by decide +kernel) rfl (.inl rfl)) (zU (zW (show List.Nodup (["name","metre","due","loads"]:List Str)from by decide +kernel) rfl (.inl rfl)) JY yn) yn) yn) yn))) (λ_=>Zk) (λ_=>(zt (pv 0)))))) (za (ev 2) ze)))))
    (zo (z4 (ju jt)))
    zS)
   (zi (yz (kI (qP (ia rfl rfl T.mH (za (FM.em (Va ["name","metre","due","loads","told"] [none,none,none,none,some 2] [0,0,0,0,1] rfl (by kernel_rfl) (q_ (ev 0)) (λ_=>(JZ rfl (zU (zW (show List.Nodup (["name","metre","due","loads","told"]:List Str)from by decide +kernel) rfl (.inl rfl)) (zU (zW (show List.Nodup (["name","metre","due","loads","told"]:List Str)from by decide +kernel) rfl (.inl rfl)) (zU (zW (show List.Nodup (["name","metre","due","loads","told"]:List Str)from by decide +kernel) rfl (.inl rfl)) (zU (zW (show List.Nodup (["name","metre","due","loads","told"]:List Str)from by decide +kernel) rfl (.inl rfl)) JY yn) yn) yn) yn))) (λ_=>Zk) (λ_=>(ec (bD T) b T.k9 UN (za (ev 1) (za (ev 2) (za (ev 3) (za (EM.weak (ix b (ev 4) (ev 0))) ze)))))))) ze))))
    (zo (z4 (ju jt)))
    zS)
   (zi (QD Ki.nd rfl (by first|exact .inl rfl|exact .inr rfl) (FM.em (xN rfl rfl T.QJ (ev 2))))
   (zo (z4 (ia rfl rfl T.mH (za (FM.em (Va ["night","taken","bays"] [none,some 3,some 1] [0,0,0] rfl (by kernel_rfl) (Zy rfl T.ki (za (QB (wB rfl T.VD ⟨_,rfl⟩)) ze)) (λ_=>(zW (show List.Nodup (["night","taken","bays"]:List Str)from by decide +kernel) rfl (.inl rfl))) (λ_=>Zk) (λ_=>(QC JM JR (so (ev 1) (ev 0)) (ev 2) (yr _))))) ze))))))))
def qa(T:Txt K mg a):qz P w K mg base (CXe P w) 8 a.zR a.Z7 ["_law_weeks","_law_bays","_law_first","_law_last","_law_names","_law_due"] (lsp (WW K a) false [false,false,true,true,false,true] zR):=
 zM (ms:=Z5) (S':=[0,0,1,1,0,1,0,0]) (Sb:=[]) (Sc:=[]) T.yc.F jC rfl rfl rfl (by decide) λcdv A outer s H E hr=>
  (zi (se 6 jC.nd (FM.em (qh (za (FM.em (Va ["_law_week_here"] [none] [0] rfl (by kernel_rfl) (q_ (ev 0)) (λ_=>(zW (i:=0) (show List.Nodup (["_law_week_here"]:List Str)from by decide +kernel) rfl (.inl rfl))) (λ_=>Zk) (λ_=>(Vw (za (ix hr (ev 0) ei) (za (ix hr (ev 0) ei) (za (ix hr (ev 0) ei) (za (FM.em (ZC rfl rfl T.QJ (za (ix hr (ev 0) ei) ze))) ze)))))))) (za (FM.em (ZC rfl rfl T.QJ (za (ev 4) ze))) ze)))))
   (zi (se 7 jC.nd (ec (bE T) hr T.kZ zI (za (EM.weak (ix hr (ev 6) ei)) (za (zt (pv 1)) (za (ev 2) (za (ev 3) (za (EM.weak (ix hr (ev 6) ei)) ze)))))))
   (zo (z4 (Vx (Bj rfl T.vQ (ev 7) (nC rfl T.iO PyProof.Rows.Boot.«bool» (v:=.ty "bool") rfl) rfl ⟨⟨trivial,T.vY⟩,⟨⟨trivial,T.ZJ⟩,trivial⟩⟩) (Vx (cY hr.units (ev 7) (ev 5)) (UP (cY hr.units (ev 6) (FM.em (qh (za (zt (pv 0)) (za (zt (pv 4)) ze))))))))))))
def qr(T:Txt K mg a):qz P w K mg base (CXe P w) 8 a.zK a.Qd ["_law_weeks","_law_bays","_law_told_here","_law_due"] (lsp (WW K a) false [true,false,true,true] zK):=
 zM (ms:=Y0) (S':=[1,0,1,1,0,0]) (Sb:=[]) (Sc:=[]) T.yo.F kg rfl rfl rfl (by decide) λcdv A outer s H E hr=>
  (zi (se 4 kg.nd (FM.em (qh (za (FM.em (Va ["_law_week_here"] [none] [0] rfl (by kernel_rfl) (q_ (ev 0)) (λ_=>(zW (i:=0) (show List.Nodup (["_law_week_here"]:List Str)from by decide +kernel) rfl (.inl rfl))) (λ_=>Zk) (λ_=>(Vw (za (ix hr (ev 0) ei) (za (ix hr (ev 0) ei) (za (ix hr (ev 0) ei) (za (FM.em (ZC rfl rfl T.QJ (za (ix hr (ev 0) ei) ze))) ze)))))))) (za (FM.em (WE rfl rfl T.U4 (za (ev 2) ze))) ze)))))
   (zi (se 5 kg.nd (ec (d6 T) hr T.vX zI (za (EM.weak (ix hr (ev 4) ei)) (za (zt (pv 1)) (za (EM.weak (ix hr (ev 4) ei)) ze)))))
   (zo (z4 (Vx (Bj rfl T.vQ (ev 5) (nC rfl T.iO PyProof.Rows.Boot.«bool» (v:=.ty "bool") rfl) rfl ⟨⟨trivial,T.vY⟩,⟨⟨trivial,T.ZJ⟩,trivial⟩⟩) (Vx (cY hr.units (ev 5) (ev 3)) (UP (Hb hr.units (Di (ev 4)) (GN (pR (Di (ev 0)) (pR (Di (ev 2)) GL)))))))))))
def d8(T:Txt K mg a):qz P w K mg base (CXe P w) 9 a.qV a.VW ["_law_script","_law_weeks","_law_bays","_law_word"] (lsp (WW K a) false [true,false,false,true] qV):=
 zM (S':=[1,0,0,1,0,0,0,0,0,0,0,0]) (Sb:=[]) (Sc:=[]) T.vW.F zB rfl rfl rfl (by decide) λd A c s H E b=>
  (zi (QD zB.nd rfl (by first|exact .inl rfl|exact .inr rfl) (zL JL JQ (ec (zq T) b T.zp zI (za (ev 0) (za (EM.weak ei) (za (EM.weak ei) ze)))) ei))
   (zi (QD zB.nd rfl (by first|exact .inl rfl|exact .inr rfl) (ix b (FM.em (qh (za (zt (pv 4)) (za (zL JL JQ (ec (zq T) b T.zp zI (za (ev 0) (za (EM.weak ei) (za (EM.weak ei) ze)))) ei) (za (zL WT Jq ei ei) ze))))) (ec (zq T) b T.zp zI (za (ev 0) (za (EM.weak ei) (za (EM.weak ei) ze))))))
   (zi (yz (TWM.tm (JT (fF b.units (ev 1) (FM.em (qh ze))) (Zw (vj b.units (ec (zq T) b T.zp zI (za (ev 0) (za (EM.weak ei) (za (EM.weak ei) ze)))) ei))))
    (zi (se 6 zB.nd (zL zC zD (FM.em (vk (jY T) (rm b) rfl T.zJ.g T.zJ.k T.zJ.b zI (za (ix b (ev 1) (ec (zq T) b T.zp zI (za (ev 0) (za (EM.weak ei) (za (EM.weak (qC rfl T.kh (za (ev 1) ze))) ze))))) ze))) (FM.em (qh (za ei ze)))))
   (zi (QD zB.nd rfl (by first|exact .inl rfl|exact .inr rfl) (ix b (ev 6) ei))
   (zo (QD zB.nd rfl (by first|exact .inl rfl|exact .inr rfl) (ix b (ev 6) (h_ rfl rfl T.mI (za ei (za (zL JL JQ (qC rfl T.kh (za (ev 6) ze)) ei) ze))))))))
    zS)
   (zi (L8 ["_law_week_here","_law_script","_law_first","_law_last"] [none,some 0,some 4,some 5] [0,1,0,0] zB.nd rfl rfl rfl (by kernel_rfl) (q_ (ev 1)) (λ_=>(zW (show List.Nodup (["_law_week_here","_law_script","_law_first","_law_last"]:List Str)from by decide +kernel) rfl (.inl rfl))) (λ_=>(UR (TWM.tm (Uj (vj b.units (ec (zq T) b T.zp UN (za (ev 1) (za (EM.weak ei) (za (EM.weak ei) ze)))) ei) (JS (qP (ec (d4 T) b T.vV UN (za (zt (pv 0)) (za (ev 2) (za (ev 3) ze)))))))))) (λ_=>(zt (pv 0))))
   (zi (GC ["_law_week_here"] [none] [0] zB.nd rfl rfl rfl (by kernel_rfl) (q_ (ev 7)) (λ_=>(zW (show List.Nodup (["_law_week_here"]:List Str)from by decide +kernel) rfl (.inl rfl))) (λ_=>Zk) (λ_=>(ix b (ev 0) ei)))
   (zi (yz (vj b.units (ix b (ev 3) ei) (vO Zi))
    (zi (oV (rG (ev 3) (wG ei) wF) (JZ rfl (zU (zW zB.nd rfl (by first|exact .inl rfl|exact .inr rfl)) (zU (zW zB.nd rfl (by first|exact .inl rfl|exact .inr rfl)) (zU (gn 8 zB.nd) JY yn) yn) yn)))
   (zi (yz (kI (qP (ec (qa T) b T.yc zI (za (zt (pv 1)) (za (zt (pv 2)) (za (ev 4) (za (ev 5) (za (zt (pv 8)) (za (EM.weak (ju jt)) ze)))))))))
    (zo (z4 (ju jt)))
    zS)
   (zo (wI zB.nd rfl (.inl rfl) (ZC rfl rfl T.QJ (za (ev 8) ze))))))
    zS)
   (zi (se 9 zB.nd (ec (zq T) b T.zp zI (za (ev 0) (za (EM.weak ei) (za (EM.weak ei) ze)))))
   (zi (yz (vj b.units (ev 9) ei)
    (zo (r8 (pv 8) (ec (zq T) b T.zp zI (za (ev 0) (za (EM.weak ei) (za (EM.weak (zL zC zD ei (qC rfl T.kh (za (ev 8) ze)))) ze)))) (vO Zi)))
    zS)
   (zi (yz (TWM.tm (JT (vj b.units (ev 9) ei) (Zw (fF b.units (ev 8) (FM.em (qh ze))))))
    (zo (JX (pv 8) (ix b (ev 8) (ec (zq T) b T.zp zI (za (ev 0) (za (EM.weak ei) (za (EM.weak (qC rfl T.kh (za (ev 8) ze))) ze)))))))
    zS)
   (zi (yz (TWM.tm (JT (vj b.units (ev 9) ei) (Zw (fF b.units (ev 8) (FM.em (qh ze))))))
    (zo (DZ (pv 8) (ec (zq T) b T.zp zI (za (ev 0) (za (EM.weak ei) (za (EM.weak (qC rfl T.kh (za (ev 8) ze))) ze))))))
    zS)
   (zi (yz (vj b.units (ev 9) ei)
    (zo (QD zB.nd rfl (by first|exact .inl rfl|exact .inr rfl) (zL zC zD (ev 4) ei)))
    zS)
   (zi (yz (vj b.units (ev 9) ei)
    (zo (QD zB.nd rfl (by first|exact .inl rfl|exact .inr rfl) (zL JL JQ (ev 5) ei)))
    zS)
   (zi (yz (vj b.units (ev 9) ei)
    (zo (QD zB.nd rfl (by first|exact .inl rfl|exact .inr rfl) (zL zC zD (ev 5) ei)))
    zS)
   (zi (se 10 zB.nd (ec (XZ T) b T.vp zI (za (ev 1) (za (ev 2) (za (ev 4) (za (ev 5) (za (ev 8) ze)))))))
   (cZ 8 (zi (yz (kI (qP (ec (qa T) b T.yc zI (za (zt (pv 1)) (za (zt (pv 2)) (za (ev 4) (za (ev 5) (za (zt (pv 8)) (za (ev 10) ze)))))))))
    (zo (z4 (ju jt)))
    zS)
   (zi (se 11 zB.nd (ec (d0 T) b T.YQ zI (za (ev 0) (za (ev 1) ze))))
   (zo (z4 (ec (qa T) b T.yc zI (za (zt (pv 11)) (za (zt (pv 2)) (za (ev 4) (za (ev 5) (za (zt (pv 8)) (za (EM.weak (Vx (ev 10) (UP (cY b.units (ev 11) (ev 1))))) ze))))))))))))))))))))))))))
def Hu(T:Txt K mg a)(d:uk base mg a.t5 a.t7):qz P w K mg base (CXe P w) 10 a.II a.IJ ["_law_script"] (hsp (WW K a) 1 BL):=
 rj T.sA.F QI rfl rfl rfl λe A c s H E b=>
  (z0 (BD (S:=Pw) (fr':=false) [true] ["_law_k","_law_script"] [none,some 0] [0,0] QI.nd rfl rfl rfl (by kernel_rfl) (Zy rfl T.ki (za (ec (zq T) b T.zp zI (za (ev 0) (za (EM.weak ei) (za (EM.weak ei) ze)))) ze)) (λ_=>(zW (show List.Nodup (["_law_k","_law_script"]:List Str)from by decide +kernel) rfl (.inl rfl))) (λ_=>Zk) (λ_=>(ec (mO T) b T.Qx UN (za (ev 1) (za (ev 0) ze)))))
   (z0 (hse 2 QI.nd (hp (ec (zq T) b T.zp zI (za (ev 0) (za (EM.weak ei) (za (EM.weak ei) ze))))))
   (z0 (hse 3 QI.nd (p7 (gk T d) (rm b) rfl T.vh.g T.vh.k T.vh.b zI (Jt (ZZ (pv 1)) (Jt (ZZ (pv 2)) iw)) (Vd (Vd p_))))
   (z0 (BD (S:=Pw) (fr':=false) [false,true] ["_law_week_here"] [none] [0] QI.nd rfl rfl rfl (by kernel_rfl) (q_ (ev 1)) (λ_=>(zW (show List.Nodup (["_law_week_here"]:List Str)from by decide +kernel) rfl (.inl rfl))) (λ_=>Zk) (λ_=>(ix b (ev 0) ei)))
   (z0 (dq (Bz (S:=Pw) (fr:=false) [false,true,false,false,true] (kI (qP (ec (qa T) b T.yc zI (za (zt (pv 1)) (za ei (za (EM.weak ei) (za (EM.weak ei) (za (zt (pv 4)) (za (EM.weak (ec (XZ T) b T.vp zI (za (ev 1) (za (EM.weak ei) (za (EM.weak ei) (za (EM.weak ei) (za (ev 4) ze))))))) ze))))))))))
    (qF (Yy (hp (ju jt))))
    Yx)
   (z0 (dq (Bz (S:=Pw) (fr:=false) [true,true,true,true] (kI (qP (ec (d8 T) b T.vW zI (za (ev 0) (za (zt (pv 1)) (za (zt (pv 2)) (za (ev 3) ze))))))))
    (qF (Yy (hp (ju jt))))
    Yx)
   (z0 (hse 5 QI.nd (hp (FM.em (vk (gj T) (rm b) rfl T.jD.g T.jD.k T.jD.b zI (za (ev 0) (za (ev 1) ze))))))
   (z0 (dq (Bz (S:=Pw) (fr:=false) [false,false,false,true] (vj b.units (ix b (ev 3) ei) (vO Zi)))
    (z0 (dq (Bz (S:=Pw) (fr:=false) [false,true,true,true] (kI (qP (ec (qr T) b T.yo zI (za (ev 1) (za (zt (pv 2)) (za (EM.weak (ix b (ev 3) ei)) (za (EM.weak (ju jt)) ze))))))))
    (qF (Yy (hp (ju jt))))
    Yx)
   (qF (dq (Bz (S:=Pw) (fr:=false) [true] (vj b.units (ec (zq T) b T.zp zI (za (ev 0) (za (EM.weak ei) (za (EM.weak ei) ze)))) ei))
    (qF (hse 5 QI.nd (hp (ix b (ev 3) ei))))
    Yx)))
    Yx)
   (z0 (dq (Bz (S:=Pw) (fr:=false) [false,true,true,false,false,true] (kI (qP (ec (qr T) b T.yo zI (za (ev 1) (za (zt (pv 2)) (za (ev 5) (za (EM.weak (ec (XY T) b T.vo zI (za (ev 1) (za (ev 2) (za (ev 5) ze))))) ze))))))))
    (qF (Yy (hp (ju jt))))
    Yx)
   (z0 (hse 5 QI.nd (hp (ec (dZ T) b T.vT zI (za (ev 0) (za (ev 5) ze)))))
   (z0 (hse 6 QI.nd (hp (ec (XY T) b T.vo zI (za (ev 1) (za (ev 2) (za (ev 5) ze))))))
   (z0 (dq (Bz (S:=Pw) (fr:=false) [false,true,true,false,false,true,true] (kI (qP (ec (qr T) b T.yo zI (za (ev 1) (za (zt (pv 2)) (za (ev 5) (za (ev 6) ze))))))))
    (qF (Yy (hp (ju jt))))
    Yx)
   (z0 (hse 7 QI.nd (hp (ec (d0 T) b T.YQ zI (za (ev 0) (za (ev 1) ze)))))
   (z0 (dq (Bz (S:=Pw) (fr:=false) [false,true,true,false,false,true,true,true] (kI (qP (ec (qr T) b T.yo zI (za (ev 7) (za (zt (pv 2)) (za (ev 5) (za (EM.weak (Vx (ev 6) (UP (cY b.units (ev 7) (ev 1))))) ze))))))))
    (qF (Yy (hp (ju jt))))
    Yx)
   (qF (Yy (hp (Vx (ec (qr T) b T.yo zI (za (ev 1) (za (zL zC zD (zL WT Jq ei ei) ei) (za (ev 5) (za (EM.weak (ju jt)) ze))))) (UP (ec (qa T) b T.yc zI (za (zt (pv 1)) (za (mf UK UO ei) (za (EM.weak ei) (za (EM.weak ei) (za (FM.em (qh ze)) (za (EM.weak (ju jt)) ze))))))))))))))))))))))))))
def zl(d:a ρ=.ok x)(c:b ρ=.ok y)(h:f x y=.ok z):mOp f a b ρ=.ok z:=by unfold mOp;rw[d,okb,c,okb,h]
def zr(h:ms ρ=.ok xs)(a:f xs=.ok x):zf f ms ρ=.ok x:=by unfold zf;rw[h,okb,a]
def zx(b:a ρ=.ok x)(h:ms ρ=.ok xs):zb a ms ρ=.ok (x::xs):=by unfold zb;rw[b,okb,h,okb]
def Yn(h:ms ρ=.ok xs)(a:xs.length<=sizeLine):kH ms ρ=.ok (.l xs):=by unfold kH;rw[h,okb,if_pos a]
def D9(b:a ρ=.ok (.i x))(c:0<n):mOp W7 a (mC (.i n)) ρ=.ok (.i (x % n)):=zl b rfl (pA c)
def Hv(b:a ρ=.ok (.i x))(c:0<n)(d:n<1073741824):mOp cU a (mC (.i n)) ρ=.ok (.i (x / n)):=zl b rfl (GF c d)
def vI(b:a ρ=.ok (.i x)):zQ (mOp (yQ false) a (mC (.i n))) ρ=.ok (decide (x=n)):=by unfold zQ;rw[zl b rfl (C8.trans (by rw[a0K]))];rfl
def QT(b:a ρ=.ok (.i x)):zQ (mOp pGt a (mC (.i n))) ρ=.ok (decide (x>n)):=by unfold zQ;rw[zl b rfl rfl];rfl
def QU(d:a ρ=.ok x)(c:b ρ=.ok y):eV a b ρ=.ok (x&&y):=by
 unfold eV;rw[d,okb];cases x
 .rfl
 .rw[c];rfl
def yp(h:c ρ=.ok x):sIf c a b ρ=if x=true then a ρ else b ρ:=by unfold sIf;rw[h,okb]
def jZ(h:m ρ=.ok x):jM m ρ=.ok (.rt x):=by unfold jM;rw[h,okb]
def sL(b:a ρ=.ok (.i x)):zQ (mOp pLt a (mC (.i n))) ρ=.ok (decide (x<n)):=by unfold zQ;rw[zl b rfl rfl];rfl
def zP(h:m ρ=.ok (.b b)):zQ m ρ=.ok b:=by unfold zQ;rw[h];rfl
def Vn(d:a ρ=.ok x)(c:b ρ=.ok y):mOr a b ρ=.ok (x||y):=by
 unfold mOr;rw[d,okb];cases x
 .rw[c];rfl
 .rfl
def jv(b:a ρ=.ok x):V9 a ρ=.ok (!x):=by unfold V9;rw[b,okb]
def JG(d:a ρ=.ok (.b x))(c:b ρ=.ok (.b y)):V_ a b ρ=.ok (.b (x&&y)):=by
 unfold V_;rw[d,okb];show(Out.ok x).bind _=_;rw[okb];cases x
 .rfl
 .rw[c];rfl
def My(e:a ρ=.ok (.i x))(d:b ρ=.ok (.i y))(f:c ρ=.ok (.i z)):cR pLe pLe a b c ρ=.ok (.b (decide (x<=y)&&decide (y<=z))):=by
 unfold cR;rw[e,okb,d,okb,show pLe (.i x) (.i y)=.ok (.b (decide (x<=y)))from rfl,okb];show(Out.ok (decide (x<=y))).bind _=_;rw[okb];cases decide (x<=y)
 .rfl
 .rw[f];rfl
def sz5{z:Str}(h:z.length<=100000):z.length<=sizeLine:=P8 h (by decide)
def signs_at(h:m ρ=.ok (.s z)):dr m ρ=.ok (z.cps.toList.map λc=>PV.s ⟨#[c]⟩):=by unfold dr;rw[h];rfl
def sO(h:ms ρ=.ok xs)(a:xs.length<=sizeLine):mq ms ρ=.ok (.t xs):=by unfold mq;rw[h,okb,if_pos a]
def U9(b:a ρ=.ok (.s x)):zQ (mOp (yQ n) a (mC (.s y))) ρ=.ok (xor n (decide (x=y))):=zP (zl b rfl Ma)
def yq(h:p ρ G=.nx ρ' G')(a:q ρ' G'=o):Yo p q ρ G=o:=by unfold Yo;rw[h];exact a
def Ah(h:c ρ G=.ok false G'):hIf c p q ρ G=q ρ G':=by unfold hIf;rw[h];rfl
def Hw(h:c ρ G=.ok true G'):hIf c p q ρ G=p ρ G':=by unfold hIf;rw[h];rfl
def Y5(c:WH bs ρ=some r)(a:m r=.ok b):hPT bs m ρ G=.ok b G:=by unfold hPT;rw[c];dsimp only;rw[a]
def iV(b:WH bs ρ=some r)(a:m r=.ok x):hP bs m ρ G=.ok (.v x) G:=by unfold hP;rw[b];dsimp only;rw[a]
def ky(h:m ρ G=.ok x G'):Vz i m ρ G=.nx (ρ.set i (some x)) G':=by unfold Vz;rw[h];rfl
def gm(h:m ρ G=.ok x G'):Ue m ρ G=.rt x G':=by unfold Ue;rw[h];rfl
def Oa(h:Vb G [] ρ=some r):Vb G [] (a::ρ)=some (none::r):=by show(Vb G [] ρ).map _=_;rw[h];rfl
def Ob(h:Vb G bs ρ=some r):Vb G (false::bs) (a::ρ)=some (none::r):=by show(Vb G bs ρ).map _=_;rw[h];rfl
def Mz(a:bY G 8 x=some y)(h:Vb G bs ρ=some r):Vb G (true::bs) (some x::ρ)=some (some y::r):=by show(bY G 8 x).bind _=_;rw[a,h];rfl
def MB(h:a.length+b.length<=n)(c:n<=100000):zA (.s a) (.s b)=.ok (.s (a++b)):=by have:a.length+b.length<=sizeLine:=P8 (P8 h c) (by decide);unfold zA;simp only[this,if_true]
def d9(a:0<=i)(b:i<xs.length):pIx (.l xs) (.i i)=.ok (xs[i.toNat]'(by omega)):=by rw[L9,pB a,O3 (by omega)];rfl
def nY{xs:Oj}{i:Int}(b:0<=i)(a:i<xs.length):∃y∈xs,pIx (.l (xs.map .s)) (.i i)=.ok (.s y):=
 ⟨xs[i.toNat]'(by omega),a1g _,by rw[d9 b (by grind),a0s]⟩
def iW{xs:OC}{i:Int}(b:0<=i)(a:i<xs.length):∃y∈xs,pIx (.l (xs.map .i)) (.i i)=.ok (.i y):=
 ⟨xs[i.toNat]'(by omega),a1g _,by rw[d9 b (by rw[u8];exact a),a0s]⟩
abbrev sk(z:Str):Key:=Sum.inr z
abbrev signs:Str:="abcdefghijklmnopqrstuvwxyz0123456789"
def str_inj{a b a' c:Str}(e:a.length=a'.length)(h:a++b=a'++c):a=a'/\b=c:=by have d:=R9 Str.cps h;have:=Array.append_inj d e;obtain⟨x⟩:=a;obtain⟨y⟩:=b;obtain⟨i⟩:=a';obtain⟨g⟩:=c;obtain⟨d,f⟩:=this;exact⟨R9 Str.mk d,R9 Str.mk f⟩
def Sgs(z:Str):Prop:=∀c∈z.cps.toList,c∈signs.cps.toList
def Sgs.app(f:Sgs a)(g:Sgs b):Sgs (a++b):=λc d=>by have e:(a++b).cps.toList=a.cps.toList++b.cps.toList:=a4g;rw[e]at d;exact(a0q.mp d).elim (f c) (g c)
def Nm(z:Str):Prop:=(1<=z.length/\z.length<=12)/\Sgs z
def nodup_range{g:Type}{f:Nat->g}(h:∀j k,j<n->k<n->f j=f k->j=k):((List.range n).map f).Nodup:=by rw[a0z,a2k];refine a3m ?_ (a0z.mp List.nodup_range);intro a b d i c e;exact c (h a b (a0a.mp d) (a0a.mp i) e)
def D_(b:a ρ=.ok (.i n)):qW a ρ=.ok (some n):=by unfold qW;rw[b];rfl
def jr{fr:Bool}{n:Nat}{ms:MS}{xs:OD}{c:Nat}{fs:OK}(h:ms (xs.map some++List.replicate (n-xs.length) none)=.exc c fs):Zt fr n ms xs=.exc c fs:=by unfold Zt;rw[h]
def jH(h:p ρ=.exc c fs):zZ p q ρ=.exc c fs:=by unfold zZ;rw[h];rfl
def ZS(h:m ρ=.exc c fs):We m ρ=.exc c fs:=by unfold We;rw[h];rfl
def KD(h:ms ρ=.ok xs)(a:f xs=.exc c fs):zf f ms ρ=.exc c fs:=by unfold zf;rw[h,okb,a]
def Vo(h:mi ρ=.ok xs)(a:j9 g b xs ρ=.exc c fs):Yk mi g b ρ=.exc c fs:=by unfold Yk;rw[h,okb,a]
def JH(h:m ρ=.ok x):We m ρ=.ok (.nx ρ):=by unfold We;rw[h];rfl
def Ai{fr:Bool}{n:Nat}{ms:MS}{xs:OD}{ρ:Sto}(hf:fr=false)(h:ms (xs.map some++List.replicate (n-xs.length) none)=.ok (.nx ρ)):Zt fr n ms xs=.ok .n:=by subst hf;unfold Zt;rw[h];rfl
def Ea{x:PV}{n:Int}{k:Nat}(h:qZ [x]=.ok (.i (k:Int)))(a:(k:Int)<=n):qp [x,.i n]=.ok .n:=by refine Ai rfl ((yp (x:=false) (zP (zl (zr rfl h) rfl ?_))).trans rfl);show Out.ok (PV.b (decide (k>n)))=_;rw[O4 (by omega)]
def VO(P:Oj):List (Key×PV):=P.map λz=>(sk z,.b true)
def Aj(h:z∉P):qB (VO P) (sk z)=none:=by
 cases e:qB (VO P) (sk z)with
 |none=>rfl
 |some x=>have:=Qt e;obtain⟨y,b,a⟩:=O9.mp this;cases a;exact absurd b h
def sP(a:1<=m)(b:m<=1000000000):zw [.i m,.i 1]=.ok (.i m):=by refine zE (zd ⟨_,(yp (Vn (x:=false) (y:=false) (zP (zl (x:=.i m) (y:=.i 1) rfl rfl ?_)) ((QT (x:=m) rfl).trans (by grind)))).trans rfl,rfl⟩);show Out.ok (PV.b (decide (m<1)))=_;rw[O4 (by omega)]
def ZT(z:Str):Bool:=decide (1<=z.length/\z.length<=12)&&z.cps.toList.all λc=>decide (c∈signs.cps.toList)
def Eb(h:ZT z=true):Nm z:=by unfold ZT at h;rw[S8]at h;refine⟨a0P h.1,λc a=>?_⟩;exact a0P (a0d.mp h.2 c a)
theorem sQ{z:Str}{A:MS}{r:Out Fw}(hA:∀s,A [some (.s z),s]=r)(hr:∀K:Sto->Out Fw,(r.bind λf=>match f with | .nx ρ2=>K ρ2 | .ct ρ2=>K ρ2 | .bk ρ2=>.ok (.nx ρ2) | .rt v=>.ok (.rt v))=r):
  ∀{cs:Og}{o:OQ},((cs.all λc=>decide (c∈signs.cps.toList))=true->∃o',j9 (gNm 1) (sIf (zQ (mOp (pIn true) (zc 1) (mC (.s signs)))) A zG) (cs.map λc=>PV.s ⟨#[c]⟩) [some (.s z),o]=.ok (.nx [some (.s z),o']))/\((cs.all λc=>decide (c∈signs.cps.toList))=false->j9 (gNm 1) (sIf (zQ (mOp (pIn true) (zc 1) (mC (.s signs)))) A zG) (cs.map λc=>PV.s ⟨#[c]⟩) [some (.s z),o]=r)
 |[],o=>⟨λ_=>⟨o,rfl⟩,λh=>by cases h⟩
 |c::cs,o=>by
  have eb:sIf (zQ (mOp (pIn true) (zc 1) (mC (.s signs)))) A zG [some (.s z),some (.s ⟨#[c]⟩)]=if(xor true (decide (c∈signs.cps.toList)))=true then A [some (.s z),some (.s ⟨#[c]⟩)]else zG [some (.s z),some (.s ⟨#[c]⟩)]:=by refine yp (zP (zl rfl rfl ?_));show Out.ok (PV.b (xor true (!(Builtin.Str.occurrences signs ⟨#[c]⟩ 0 signs.length 1).isEmpty)))=_;rw[StrLaws.found_one]
  have st:∀{q},sIf (zQ (mOp (pIn true) (zc 1) (mC (.s signs)))) A zG [some (.s z),some (.s ⟨#[c]⟩)]=q->j9 (gNm 1) (sIf (zQ (mOp (pIn true) (zc 1) (mC (.s signs)))) A zG) ((c::cs).map λc=>PV.s ⟨#[c]⟩) [some (.s z),o]=q.bind λf=>match f with | .nx ρ2=>j9 (gNm 1) (sIf (zQ (mOp (pIn true) (zc 1) (mC (.s signs)))) A zG) (cs.map λc=>PV.s ⟨#[c]⟩) ρ2 | .ct ρ2=>j9 (gNm 1) (sIf (zQ (mOp (pIn true) (zc 1) (mC (.s signs)))) A zG) (cs.map λc=>PV.s ⟨#[c]⟩) ρ2 | .bk ρ2=>.ok (.nx ρ2) | .rt v=>.ok (.rt v):=λ{q} h=>by rw[<- h];rfl
  rw[a0W];by_cases hc:c∈signs.cps.toList
  .rw[O5 hc]at eb ⊢;rw[st eb,a1s];exact sQ hA hr
  .rw[O4 hc]at eb ⊢;rw[st eb,a2e];refine⟨λh=>(by cases h),λ_=>?_⟩;rw[hA];exact hr _
def sR(hz:z.length<=1000)(b:zc 0 ρ=.ok (.s z)):mOr (zQ (mOp pLt (zf qZ (zb (zc 0) zk)) (mC (.i 1)))) (zQ (mOp pGt (zf qZ (zb (zc 0) zk)) (mC (.i 12)))) ρ=.ok (!decide (1<=z.length/\z.length<=12)):=by
 have a:qZ [.s z]=.ok (.i z.length):=GG (sz5 (by omega));refine(Vn (sL (zr (zx b rfl) a)) (QT (zr (zx b rfl) a))).trans ?_;congr 1;by_cases d:1<=z.length
 .by_cases c:z.length<=12
  .rw[O4 (by omega),O4 (by omega),O5 ⟨d,c⟩];rfl
  .rw[O5 (p:=(z.length:Int)>12) (by omega),O4 (p:=1<=z.length/\z.length<=12) (by omega),a26];rfl
 .rw[O5 (by omega),O4 (p:=1<=z.length/\z.length<=12) (by omega)];rfl
def Ak(hz:z.length<=1000):qc [.s z]=if ZT z=true then .ok (.s z)else .exc 1 [("name",.s z)]:=by
 have t:=yp (ρ:=[some (.s z),none]) (a:=ZX 1 ["name"] (zb (zc 0) zk)) (b:=zG) (sR hz rfl);have lp:=sQ (z:=z) (A:=ZX 1 ["name"] (zb (zc 0) zk)) (λ_=>rfl) (λ_=>rfl) (cs:=z.cps.toList) (o:=none);unfold ZT;generalize decide (1<=z.length/\z.length<=12)=d at t;cases d with
 |false=>exact jr (jH (t.trans rfl))
 |true=>
  generalize(z.cps.toList.all λc=>decide (c∈signs.cps.toList))=d at lp;cases d with
  |true=>obtain⟨o',e⟩:=lp.1 rfl;exact zE (zd ⟨_,t,zd ⟨_,kJ (signs_at rfl) e,rfl⟩⟩)
  |false=>exact jr (zd ⟨_,t,jH (Vo (signs_at rfl) (lp.2 rfl))⟩)
def Al(h:z∈P):(qB (VO P) (sk z)).isSome=true:=by
 induction P with
 |nil=>cases h
 |cons y P a=>
  unfold VO;rw[R7,qj];by_cases c:sk y=sk z
  .rw[if_pos c];rfl
  .rw[if_neg c];exact a ((P7.mp h).resolve_left λe=>c (by rw[e]))
def Ec(hz:z.length<=1000):yy [.s z,.d (VO P)]=if ZT z=false then .exc 1 [("name",.s z)]else if z∈P then .exc 4 [("name",.s z)]else .ok (.s z):=by
 have a:=Ak hz;have t:∀{b:Bool},(qB (VO P) (sk z)).isSome=b->sIf (zQ (mOp (pIn false) (zc 0) (zc 1))) (ZX 4 ["name"] (zb (zc 0) zk)) zG [some (.s z),some (.d (VO P))]=if b=true then .exc 4 [("name",.s z)]else .ok (.nx [some (.s z),some (.d (VO P))]):=λ{b} e=>by refine(yp (x:=b) (zP (zl rfl rfl ?_))).trans rfl;show Out.ok (PV.b (xor false (qB (VO P) (sk z)).isSome))=_;rw[e];cases b<;>rfl
 cases d:ZT z with
 |false=>rw[d]at a;exact jr (jH (ZS (KD rfl a)))
 |true=>
  rw[d]at a;by_cases c:z∈P
  .rw[if_pos c];exact jr (zd ⟨_,JH (zr rfl a),jH ((t (Al c)))⟩)
  .rw[if_neg c];exact zE (zd ⟨_,JH (zr rfl a),zd ⟨_,(t (b:=false) (by rw[Aj c];rfl)),rfl⟩⟩)
def mP(h:m<1\/m>1000000000):zw [.i m,.i 1]=.exc 2 [("value",.i m)]:=by refine jr (jH ((yp (x:=true) ((Vn (zP (zl rfl rfl (show _=Out.ok (PV.b (decide (m<1)))from rfl))) (QT rfl)).trans ?_)).trans rfl));rw[<- Bool.decide_or,O5 h]
def Ed{x:PV}{n:Int}{k:Nat}(h:qZ [x]=.ok (.i (k:Int)))(a:(k:Int)>n):qp [x,.i n]=.exc 3 [("most",.i n)]:=by refine jr ((yp (x:=true) (zP (zl (zr rfl h) rfl ?_))));show Out.ok (PV.b (decide (k>n)))=_;rw[O5 a]
def mQ(a:0<=m)(b:m<=1000000000):zw [.i m,.i 0]=.ok (.i m):=by refine zE (zd ⟨_,(yp (Vn (x:=false) (zP (zl rfl rfl ?_)) ((QT rfl).trans (by rw[O4 (by omega)])))).trans (show _=Out.ok (Fw.nx [some (.i m),some (.i 0)])from rfl),rfl⟩);show Out.ok (PV.b (decide (m<0)))=_;rw[O4 (by omega)]
def WL(h:c ρ=.ok true):sIf c a b ρ=a ρ:=(yp h).trans (if_pos rfl)
def oob(m:Int):Prop:=m<0\/1000000000<m
def X0(h:oob m):zw [.i m,.i 0]=.exc 2 [("value",.i m)]:=by refine jr (jH ((WL ((Vn (zP (zl rfl rfl rfl)) (QT rfl)).trans ?_)).trans rfl));congr 1;rw[<- Bool.decide_or];exact O5 h
def KG(h:¬oob m):zw [.i m,.i 0]=.ok (.i m):=mQ (by unfold oob at h;omega) (by unfold oob at h;omega)
def Y6(d:0<=k)(f:k<=1000)(g:0<m):∃x:Int,0<=x/\x<m/\zg [.sc ns,.i k,.i m]=.ok (.i x):=by
 obtain⟨c,o,j,q⟩:∃c:Int,0<=c/\c<1000000007/\sIf (zQ (mOp pGt (zf qZ (zb (zc 0) zk)) (mC (.i 0)))) (yH 3 (mOp W7 (mOp pIx (zc 0) (mOp W7 (zc 1) (zf qZ (zb (zc 0) zk)))) (mC (.i 1000000007)))) zG [some (.sc ns),some (.i k),some (.i m),some (.i 5)]=.ok (.nx [some (.sc ns),some (.i k),some (.i m),some (.i c)]):=by
  have l:zf qZ (zb (zc 0) zk) [some (.sc ns),some (.i k),some (.i m),some (.i 5)]=.ok (.i (ns.length:Int)):=zr rfl rfl;have t:=λP Q=>yp (a:=P) (b:=Q) (QT (n:=0) l);by_cases c:(ns.length:Int)>0
  .rw[O5 c]at t;have h:=a3D k (show(ns.length:Int)≠0 by omega);have i:=a2R k c;have e:pIx (.sc ns) (.i (k % (ns.length:Int)))=.ok (.i (ns[(k % (ns.length:Int)).toNat]'(by omega))):=by show wD ((atI ns _).map PV.i)=_;rw[pB h,O3 (by omega)];rfl
   exact⟨_,a3D _ (by decide),a2R _ (by decide),(t _ _).trans (zH (D9 (zl rfl (zl rfl l (pA c)) e) (by decide)))⟩
  .rw[O4 c]at t;exact⟨5,by decide,by decide,t _ _⟩
 have kk:0<=k*k/\k*k<=1000000:=⟨Int.mul_nonneg d d,a4n (Int.mul_le_mul f f d (by decide)) (by decide)⟩;exact⟨_,a3D _ (by omega),a2R _ g,zE (zd ⟨_,rfl,zd ⟨_,q,jZ (zl (Hv (D9 (zl (zl (zl rfl (zl rfl rfl (US (by decide) (by decide))) rfl) rfl rfl) (zl rfl (zl rfl rfl (US (by omega) (by omega))) rfl) (US (by omega) (by omega))) (by decide)) (by decide) (by decide)) rfl (pA g))⟩⟩)⟩
abbrev gp:Str:="abcdefghijklmnopqrstuvwyz0123456789"
def s2(r:Int):Str:=⟨#[(gp.cps.toList[r.toNat]?).getD 0]⟩
def d_:gp.length=35:=by decide +kernel
def Hx:∀a:Fin 35,∀b:Fin 35,s2 (a.val:Int)=s2 (b.val:Int)->a=b:=by decide +kernel
def MC:∀a:Fin 35,(gp.cps.toList[a.val]?).getD 0∈signs.cps.toList:=by decide +kernel
def MD(c:0<=r)(d:r<35):pIx (.s gp) (.i r)=.ok (.s (s2 r)):=by
 unfold pIx;have b:gp.length<=sizeLine:=by rw[d_];decide
 simp only[b,if_true];have a:r.toNat<gp.cps.toList.length:=by have:=d_;unfold Str.length at this;simp;omega
 rw[pB c];unfold s2;rw[O3 a];rfl
def Ld:∀a:Fin 13,(Txt.mul "x" (a.val:Int)).length=a.val/\∀c∈(Txt.mul "x" (a.val:Int)).cps.toList,c∈signs.cps.toList:=by decide +kernel
def nmX(a b:Nat)(n:Nat):Str:=Txt.mul "x" (a:Int)++s2 (n:Int)++Txt.mul "x" ((b:Int)+(n:Int) % 2)
def str_len{a b:Str}:(a++b).length=a.length+b.length:=Array.size_append
def BM(h:a+b<=10)(j:n<35):Nm (nmX a b n):=by
 obtain⟨i,l⟩:=Ld ⟨a,by omega⟩;have e:(b:Int)+(n:Int) % 2=((b+n % 2:Nat):Int):=by omega
 obtain⟨f,g⟩:=Ld ⟨b+n % 2,by omega⟩;unfold nmX;rw[e];refine⟨?_,((show Sgs _ from l).app λc d=>?_).app g⟩
 .rw[str_len,str_len];have:(s2 (n:Int)).length=1:=rfl;dsimp only at i f;omega
 .have:c∈[(gp.cps.toList[((n:Int)).toNat]?).getD 0]:=d;rw[T6.mp this];exact MC ⟨n,j⟩
def Ee(e:m<35)(d:n<35)(h:nmX a b m=nmX a b n):m=n:=by have c:=(str_inj (by rw[str_len,str_len];rfl) h).1;have f:=(str_inj rfl c).2;exact R9 Fin.val (Hx ⟨m,e⟩ ⟨n,d⟩ f)
def Hy(f:n<=35):((List.range n).map (nmX a b)).Nodup:=nodup_range λj k d c e=>Ee (by omega) (by omega) e
def Am(g:0<=k)(s:k<=900):∃a b:Nat,a+b<=10/\∀n:Nat,n<35->jF [.sc ns,.i k,.i (n:Int)]=.ok (.s (nmX a b n)):=by
 obtain⟨a,f,t,l⟩:=Y6 (m:=11) g (by omega) (by decide);obtain⟨b,p,r,o⟩:=Y6 (k:=k+1) (m:=11-a) (by omega) (by omega) (by omega);obtain⟨a,rfl⟩:=a2i f;obtain⟨b,rfl⟩:=a2i p;refine⟨a,b,by omega,λn q=>?_⟩;have d:∀{i:Int},0<=i->i<=100->jS (.s "x") (.i i)=.ok (.s (Txt.mul "x" i)):=λh u=>if_pos ⟨by decide,by omega,by omega⟩;obtain⟨j,_⟩:=Ld ⟨a,by omega⟩;have e:(b:Int)+(n:Int) % 2=((b+n % 2:Nat):Int):=by omega
 obtain⟨c,_⟩:=Ld ⟨b+n % 2,by omega⟩;rw[<- e]at c;dsimp only at j c;have v:(s2 (n:Int)).length=1:=rfl;exact zE (zd ⟨_,zH (zr rfl l),zd ⟨_,zH (zl (zr rfl o) (D9 rfl (by decide)) rfl),jZ (zl (zl (zl rfl rfl (d (by omega) (by omega))) (zl rfl rfl (MD (by omega) (by omega))) (MB (n:=100) (by omega) (by decide))) (zl rfl rfl (d (by omega) (by omega))) (MB (n:=100) (by rw[str_len];omega) (by decide)))⟩⟩)
section
variable {α:Type}{N:List α}{rel dl:α->Nat}{P:Nat->List α}{b:Nat}
def fl(P:Nat->List α)(t:Nat):Nat->List α
 |0=>[]
 |k+1=>fl P t k++P (t+k)
theorem iX{t:Nat}{x:α}:∀{k:Nat},x∈fl P t k->∃n,t<=n/\n<t+k/\x∈P n
 |0,h=>by cases h
 |k+1,h=>by
  rcases a0q.mp h with h|h
  .obtain⟨n,a,d,c⟩:=iX h;exact⟨n,a,by omega,c⟩
  .exact⟨t+k,by omega,by omega,h⟩
structure Edf(N:List α)(rel dl:α->Nat)(P:Nat->List α)(b:Nat):Prop where
 win:∀x∈N,rel x<=dl x/\dl x<=6
 one:∀n,n<=6->∀x∈P n,x∈N/\(∀m,m<n->x∉P m)/\rel x<=n/\n<=dl x
 nd:∀n,n<=6->(P n).Nodup
 two:∀n,n<=6->∀x∈N,(∀m,m<=n->x∉P m)->rel x<=n->n<=dl x->(P n).length=b/\∀y∈P n,dl y<=dl x
def Edf.Hz(e:Edf N rel dl P b){t:Nat}:∀{k:Nat},t+k<=7->(∀n,t<=n->n<t+k->(P n).length=b)->(fl P t k).Nodup/\(fl P t k).length=b*k
 |0,_,_=>⟨a1S,rfl⟩
 |k+1,m,h=>by
  obtain⟨g,l⟩:=e.Hz (k:=k) (by omega) λn a c=>h n a (by omega);refine⟨a0Q.mpr ⟨g,e.nd (t+k) (by omega),λx i y j q=>?_⟩,?_⟩
  .subst q;obtain⟨n,_,f,d⟩:=iX i;exact(e.one (t+k) (by omega) x j).2.1 n f d
  .show(fl P t k++P (t+k)).length=_;rw[P2,l,h (t+k) (by omega) (by omega),Nat.mul_succ]
def Edf.all(e:Edf N rel dl P b)(G:∀f l,f<=l->l<=6->∀S:List α,S.Nodup->(∀x∈S,x∈N/\f<=rel x/\dl x<=l)->S.length<=b*(l-f+1)):∀x∈N,∃n,n<=6/\x∈P n:=by
 intro j v;refine a16 λB=>?_;have z:=λn H h=>B ⟨n,H,h⟩;obtain⟨M,F⟩:=e.win j v;have g:∀t,t<=dl j->(∀n,t<=n->n<=dl j->(P n).length=b/\∀y∈P n,dl y<=dl j)->(t<=rel j)->(∀n,t<=n->n<=dl j->∀x∈P n,t<=rel x)->False:=λt u d L p=>by
  obtain⟨A,D⟩:=e.Hz (k:=dl j+1-t) (by omega) λn a c=>(d n a (by omega)).1;have:=G t (dl j) u F (j::fl P t (dl j+1-t)) (a0r.mpr ⟨λq=>by obtain⟨n,_,o,s⟩:=iX q;exact z n (by omega) s,A⟩) λx C=>by
   rcases P7.mp C with q|q
   .rw[q];exact⟨v,L,O2 _⟩
   .obtain⟨n,r,o,s⟩:=iX q;exact⟨(e.one n (by omega) x s).1,p n r (by omega) x s,(d n r (by omega)).2 x s⟩
  rw[O1,D,show dl j-t+1=dl j+1-t by omega]at this;omega
 have w:∀t,t<=dl j->(∀n,t<=n->n<=dl j->(P n).length=b/\∀y∈P n,dl y<=dl j)->False:=λt=>by
  induction t with
  |zero=>exact λu d=>g 0 u d (a0c _) λ_ _ _ _ _=>a0c _
  |succ t J=>
   intro u d;have i:∀x∈N,(∀m,m<=t->x∉P m)->rel x<=t->t<=dl x->dl x<=dl j->False:=λx p A D I Q=>J (by omega) λn r o=>by
    by_cases c:n=t
    .obtain⟨K,U⟩:=e.two t (by omega) x p A D I;rw[c];exact⟨K,λy R=>P8 (U y R) Q⟩
    .exact d n (by omega) o
   refine g (t+1) u d (a16 λc=>i j v (λm E=>z m (by omega)) (by omega) (by omega) (O2 _)) λn r o x p=>a16 λc=>?_;obtain⟨O,T,W,X⟩:=e.one n (by omega) x p;exact i x O (λm E=>T m (by omega)) (by omega) (by omega) ((d n r o).2 x p)
 exact w (dl j) (O2 _) λn r o=>by
  have:n=dl j:=by omega
  subst this;exact e.two _ F j v (λm E=>z m (by omega)) M (O2 _)
end
structure Wk where
 nm:Str
 m:Int
 d:Int
 ls:List Int
abbrev lsP(ls:OC):PV:=.l (ls.map .i)
abbrev wkP(w:Wk):PV:=.t [.s w.nm,.i w.m,.i w.d,lsP w.ls]
section
variable {m d:Int}{ls:OC}
def Eg{xs:OC}{n:Nat}:Uc (xs.map PV.i) none (some (n:Int))=(xs.take n).map PV.i:=by
 unfold Uc;rw[g_ (by omega),HT.Wz,List.drop_zero,a4p,a0t,a2m];by_cases h:n<=(xs.map PV.i).length
 .rw[a17 h]
 .rw[a2q (by omega),a2o,a0N (by omega)]
def sS{xs:OC}{n:Nat}:Uc (xs.map PV.i) (some (n:Int)) none=(xs.drop n).map PV.i:=by
 unfold Uc;rw[g_ (by omega),HT.Wz,a0t,a4b];by_cases h:n<=(xs.map PV.i).length
 .rw[a17 h,a0N (by simp)]
 .rw[a2q (by omega),a1W,a1M (by omega),List.take_nil]
def um(m d:Int)(ls:OC)(k:Nat):Bool:=decide (m+(ls.take (k+1)).sum<=d)&&decide ((ls.drop (k+1)).sum<=d)
def nt(m d:Int)(ls:OC):List Nat:=(List.range 7).filter (um m d ls)
abbrev nI(k:Nat):PV:=.i (k:Int)
def bF(f:a ρ=.ok (.i m))(e:b ρ=.ok (lsP ls))(g:c ρ=.ok (nI k)):mOp zA a (zf Wb (zb (mSl pSl b Wc (qW (mOp zA c (mC (.i 1))))) zk)) ρ=.ok (.i (m+(ls.take (k+1)).sum)):=by refine zl f (zr (zx ?_ rfl) UT) rfl;unfold mSl;rw[e];show(qW (mOp zA c (mC (.i 1))) ρ).bind _=_;rw[D_ (n:=((k+1:Nat):Int)) (zl g rfl rfl)];show Out.ok (PV.l (Uc _ _ _))=_;rw[Eg]
def X2(a:b ρ=.ok (lsP ls))(e:c ρ=.ok (nI k)):zf Wb (zb (mSl pSl b (qW (mOp zA c (mC (.i 1)))) Wc) zk) ρ=.ok (.i ((ls.drop (k+1)).sum)):=by refine zr (zx ?_ rfl) UT;unfold mSl;rw[a,D_ (n:=((k+1:Nat):Int)) (zl e rfl rfl)];show Out.ok (PV.l (Uc _ _ _))=_;rw[sS]
def HB:yw [.i m,.i d,lsP ls,nI k]=.ok (.b (um m d ls k)):=
 zE (zd ⟨_,zH (bF rfl rfl rfl),zd ⟨_,zH (X2 rfl rfl),jZ (JG (zl rfl rfl rfl) (zl rfl rfl rfl))⟩⟩)
def Fd(h:ms ρ=.ok [.i 7]):Yl ms ρ=.ok ((List.range 7).map nI):=by rw[aQ h (by decide) (by decide)];exact R9 Out.ok J9
def X3:k_ [.i m,.i d,lsP ls]=.ok (.l ((nt m d ls).map nI)):=by
 refine zE (jZ (Ym (Fd rfl) ?_));have:=ZA (g:=XJ) (c:=XN) (e:=XQ) nI (um m d ls) nI (λa=>∃z,a=[z,some (.i m),some (.i d),some (lsP ls)]) (List.range 7) [none,some (.i m),some (.i d),some (lsP ls)] [] ⟨none,rfl⟩ (λk f a ⟨z,b⟩=>by
  subst b;exact⟨_,rfl,⟨_,rfl⟩,zP (zr rfl HB),λ_=>rfl⟩) (by decide)
 exact this
def Eh(m d:Int)(ls:OC):Bool:=decide (m+ls.sum>d)
def bG:yC [.i m,.i d,lsP ls]=.ok (.b (Eh m d ls)):=
 zE (jZ (zl (zl rfl (zr rfl UT) rfl) rfl rfl))
def KH:ls.sum=(ls.take k).sum+(ls.drop k).sum:=by rw[<- List.sum_append,a1r]
def HD(h:∀x∈ls,0<=x):0<=ls.sum:=by
 induction ls with
 |nil=>exact a2N _
 |cons a l b=>rw[List.sum_cons];have:=h a O7;have:=b λx c=>h x (O6 _ c);omega
def eA(h:∀x∈ls,0<=x)(a:i<=j):(ls.take i).sum<=(ls.take j).sum:=by
 have e:ls.take i=(ls.take j).take i:=by rw[List.take_take,a17 a]
 have:=KH (ls:=ls.take j) (k:=i);have:=HD (ls:=(ls.take j).drop i) λx b=>h x (a2F (a4a b));rw[e];omega
def sT(h:∀x∈ls,0<=x)(a:i<=j):(ls.drop j).sum<=(ls.drop i).sum:=by have:=eA h a;have:=KH (ls:=ls) (k:=i);have:=KH (ls:=ls) (k:=j);omega
def Ei(h:∀x∈ls,0<=x)(c:i<=j)(e:j<=k)(a:um m d ls i=true)(b:um m d ls k=true):um m d ls j=true:=by unfold um at a b ⊢;rw[S8,T7,T7]at a b ⊢;have:=eA h (show j+1<=k+1 by omega);have:=sT h (show i+1<=j+1 by omega);omega
def fst(l:Og):Nat:=l.headD 0
def lst(l:Og):Nat:=l.getLastD 0
def eB:(nt m d ls).Pairwise (·<·):=List.Pairwise.sublist a4h (by decide)
def eC:k∈nt m d ls↔k<7/\um m d ls k=true:=by unfold nt;rw[a0l,a0a]
def HF:∀{l:Og},l.Pairwise (·<·)->∀x∈l,fst l<=x
 |[],_,x,h=>by cases h
 |a::l,p,x,h=>by
  rcases P7.mp h with e|h
  .rw[e];exact O2 _
  .exact a1k ((a2b.mp p).1 x h)
def HI:∀{l:Og},l≠[]->fst l∈l
 |[],h=>absurd rfl h
 |a::l,_=>O7
def iY:∀{l:Og},l≠[]->lst l∈l
 |[],h=>absurd rfl h
 |a::l,_=>by show(a::l).getLastD 0∈a::l;rw[a24,a1N (a1C _ _)];exact List.getLast_mem _
theorem BO:∀{l:Og},l.Pairwise (·<·)->∀x∈l,x<=lst l
 |[],_,x,h=>by cases h
 |[a],_,x,h=>by rw[T6.mp h];exact O2 _
 |a::b::l,p,x,h=>by
  have q:=(a2b.mp p);have e:lst (a::b::l)=lst (b::l):=rfl;rcases P7.mp h with e|h
  .rw[e];exact a1k (q.1 _ (iY (a1C _ _)))
  .exact BO q.2 x h
def HJ(h:∀x∈ls,0<=x)(c:nt m d ls≠[]):k∈nt m d ls↔fst (nt m d ls)<=k/\k<=lst (nt m d ls):=by
 constructor
 .exact λq=>⟨HF eB k q,BO eB k q⟩
 .intro⟨a,b⟩;have e:=eC.mp (HI c);have f:=eC.mp (iY c);exact eC.mpr ⟨by omega,Ei h a b e.2 f.2⟩
end
def HK(k:Key):pk (kP k)=some k:=by cases k<;>rfl
def HL:pIn true (kP r) (.d kvs)=.ok (.b (!(qB kvs r).isSome)):=by cases r<;>exact R9 (λb=>Out.ok (PV.b b)) (a1Z _)
def Ej:pIx (.d kvs) (kP r)=wD (qB kvs r):=by cases r<;>rfl
def WM{b:Type}{a:List (Key×b)}{v:b}(h:k∉a.map (·.1)):dput a k v=a++[(k,v)]:=by unfold dput;rw[WG,if_neg (λz=>h (J_.mp z))]
def iZ(d:ρ[i]?=some (some (.d kvs)))(c:mk ρ=.ok (kP k))(b:mv ρ=.ok v)(a:kvs.length<=1000):c5 i mk mv ρ=.ok (.nx (ρ.set i (some (.d (dput kvs k v))))):=by unfold c5;rw[b,okb,d];dsimp only;rw[c,okb,HK];dsimp only;rw[if_pos (a1o a (by decide))]
def vJ(d:g x ρ=some a)(c:b a=.ok (.nx ρ2)):j9 g b (x::xs) ρ=j9 g b xs ρ2:=by show((wD (g x ρ)).bind λa=>(b a).bind _)=_;rw[d];show(b a).bind _=_;rw[c];rfl
theorem HN{z:Str}:∀{N:Oj},inP (.str z) (N.map .s)=some (decide (z∈N))
 |[]=>by rfl
 |y::N=>by
  show(match some (V.str y),inP (.str z) (N.map .s)with|some u,some b=>some (eqV u (.str z)||b)|_,_=>none)=_;rw[HN];show some ((y==z)||decide (z∈N))=_;by_cases c:y=z
  .subst c;rw[a1B,O5 O7];rfl
  .rw[a0R.mpr c,a2T];by_cases h:z∈N
   .rw[O5 h,O5 (O6 _ h)]
   .rw[O4 h,O4 λq=>(P7.mp q).elim (λe=>c e.symm) h]
def HP{z:Str}{N:Oj}{n:Bool}:pIn n (.s z) (.l (N.map .s))=.ok (.b (xor n (decide (z∈N)))):=by show wD ((inP (.str z) (N.map .s)).map λb=>PV.b (xor n b))=_;rw[HN];rfl
abbrev Ch:=List (Str×List Nat)
abbrev ntP(l:Og):PV:=.l (l.map nI)
def chP(C:Ch):List (Key×PV):=C.map λp=>(sk p.1,ntP p.2)
def need(w:Wk):Bool:=Eh w.m w.d w.ls
abbrev ntW(w:Wk):List Nat:=nt w.m w.d w.ls
def chL(ws:List Wk):Ch:=(ws.filter need).map λw=>(w.nm,ntW w)
abbrev wsP(ws:List Wk):PV:=.l (ws.map wkP)
section
variable {C:Ch}{ws:List Wk}{z:Str}{l:Og}
def i4:(chP C).map (·.1)=C.map λp=>sk p.1:=by unfold chP;rw[S4];rfl
theorem mR:∀{N:Oj},N.Nodup->(N.map sk).Nodup
 |[],_=>a1S
 |z::N,h=>by obtain⟨a,c⟩:=a0r.mp h;refine a0r.mpr ⟨λq=>?_,mR c⟩;obtain⟨y,b,e⟩:=O9.mp q;cases e;exact a b
def HQ(a:(C.map (·.1)).Nodup)(h:(z,l)∈C):qB (chP C) (sk z)=some (ntP l):=by refine yV ?_ (O9.mpr ⟨(z,l),h,rfl⟩);rw[i4];have:=mR a;rw[S4]at this;exact this
def sU(a:(C.map (·.1)).Nodup)(h:(z,l)∈C):pIx (.d (chP C)) (.s z)=.ok (ntP l):=by have:=Ej (r:=sk z) (kvs:=chP C);rw[HQ a h]at this;exact this
def Ek:chL (ws++us)=chL ws++chL us:=by unfold chL;rw[a4u,T5]
def eD:(chL ws).map (·.1)=(ws.filter need).map (·.nm):=by unfold chL;rw[S4];rfl
def BP(a:(ws.map (·.nm)).Nodup):((chL ws).map (·.1)).Nodup:=by rw[eD];exact a.sublist (List.filter_sublist.map _)
def El(h:z∈(chL ws).map (·.1)):z∈ws.map (·.nm):=by rw[eD]at h;obtain⟨w,a,e⟩:=O9.mp h;exact O9.mpr ⟨w,(a0l.mp a).1,e⟩
def HU(h:l≠[]):pIx (ntP l) (.i 0)=.ok (nI (fst l)):=by
 cases l with
 |nil=>exact absurd rfl h
 |cons a l=>show wD (atI (nI a::l.map nI) 0)=_;rw[L_];rfl
def BQ(h:l≠[]):pIx (ntP l) (.i (-1))=.ok (nI (lst l)):=by show wD (atI (l.map nI) (-1))=_;rw[xh,List.getLast?_map,a1N h];unfold lst;rw[a24,a1N h];rfl
def An(r:(ws.map (·.nm)).Nodup)(y:ws.length<=1000):yi [wsP ws]=.ok (.d (chP (chL ws))):=by
 have loop:∀(d done:List Wk)(a b c e:OQ),done++d=ws->∃g j n f,j9 vv vx (d.map wkP) [some (wsP ws),some (.d (chP (chL done))),a,b,c,e]=.ok (.nx [some (wsP ws),some (.d (chP (chL ws))),g,j,n,f]):=by
  intro d
  induction d with
  |nil=>intro done a b c e h;rw[a0h]at h;subst h;exact⟨a,b,c,e,rfl⟩
  |cons w d x=>
   intro done a b c e h;obtain⟨g,j,n,f,q⟩:=x (done++[w]) (some (.s w.nm)) (some (.i w.m)) (some (.i w.d)) (some (lsP w.ls)) (by grind);refine⟨g,j,n,f,(vJ rfl ?_).trans q⟩;rw[Ek];have t:=yp (a:=c5 1 (zc 2) (zf k_ (zb (zc 3) (zb (zc 4) (zb (zc 5) zk))))) (b:=zG) (zP (zr (ρ:=[some (wsP ws),some (.d (chP (chL done))),some (.s w.nm),some (.i w.m),some (.i w.d),some (lsP w.ls)]) (ms:=zb (zc 3) (zb (zc 4) (zb (zc 5) zk))) rfl bG));refine t.trans ?_;have u:=λm=>by rw[<- h,T5]at r;exact(a0Q.mp r).2.2 _ m w.nm O7 rfl
   have s:(chL done).length<=1000:=by
    have:(chL done).length<=done.length:=by unfold chL;rw[u8];exact a0J _ _
    have:=R9 List.length h;rw[P2]at this;omega
   cases o:Eh w.m w.d w.ls with
   |false=>
    have:chL [w]=[]:=by unfold chL;rw[a06,if_neg (by unfold need;rw[o];exact P0)];rfl
    rw[this,a0h];rfl
   |true=>
    have:chL [w]=[(w.nm,ntW w)]:=by unfold chL;rw[a06,if_pos (by exact o)];rfl
    rw[this];refine(iZ (i:=1) (k:=sk w.nm) rfl rfl (zr rfl X3) (by unfold chP;rw[u8];exact s)).trans ?_;rw[WM (by rw[i4];intro m;obtain⟨p,hp,e⟩:=O9.mp m;exact u (El (O9.mpr ⟨p,hp,a1h e⟩)))];unfold chP;rw[T5];rfl
 obtain⟨a,b,c,e,q⟩:=loop ws [] none none none none rfl;exact zE (zd ⟨_,rfl,zd ⟨_,kJ (yk rfl) q,rfl⟩⟩)
def noN:Ch->Option Str
 |[]=>none
 |p::D=>if p.2.isEmpty=true then some p.1 else noN D
def bH{rest:Sto}:qE 0 (some (.d (chP C))::rest)=.ok (C.map λp=>.s p.1):=by show Out.ok ((chP C).map λa=>kP a.1)=_;unfold chP;rw[S4];rfl
def eE(i:(C.map (·.1)).Nodup):yO [.d (chP C)]=match noN C with|some z=>.exc 5 [("name",.s z)]|none=>.ok .n:=by
 have step:∀(z:Str)(l:Og),(z,l)∈C->yK [some (.d (chP C)),some (.s z)]=if l.isEmpty=true then .exc 5 [("name",.s z)]else .ok (.nx [some (.d (chP C)),some (.s z)]):=λz l h=>by
  refine(yp (vI (zr (zx (zl rfl rfl (sU i h)) rfl) (by show Out.ok (PV.i ((l.map nI).length:Int))=_;rw[u8])))).trans ?_;cases l with
  |nil=>rfl
  |cons a l=>rfl
 have loop:∀(D:Ch)(a:OQ),(∀p∈D,p∈C)->(noN D=none->∃m,j9 qH yK (D.map λp=>.s p.1) [some (.d (chP C)),a]=.ok (.nx [some (.d (chP C)),m]))/\∀z,noN D=some z->j9 qH yK (D.map λp=>.s p.1) [some (.d (chP C)),a]=.exc 5 [("name",.s z)]:=by
  intro D
  induction D with
  |nil=>exact λa _=>⟨λ_=>⟨a,rfl⟩,nofun⟩
  |cons p D g=>
   intro a f;obtain⟨c,d⟩:=g (some (.s p.1)) λq j=>f q (O6 _ j);have b:=step p.1 p.2 (f p O7);cases e:p.2.isEmpty with
   |true=>rw[e]at b;have en:noN (p::D)=some p.1:=if_pos e;rw[en];refine⟨nofun,λz h=>?_⟩;cases h;show(yK [some (.d (chP C)),some (.s p.1)]).bind _=_;rw[b];rfl
   |false=>rw[e]at b;have en:noN (p::D)=noN D:=if_neg (by grind);rw[en];have fs:j9 qH yK ((p::D).map λp=>.s p.1) [some (.d (chP C)),a]=_:=vJ rfl b;rw[fs];exact⟨c,d⟩
 obtain⟨c,d⟩:=loop C none λp h=>h;cases e:noN C with
 |none=>obtain⟨a,q⟩:=c e;exact Ai rfl (kJ bH q)
 |some z=>exact jr (Vo bH (d z e))
end
section
variable {C:Ch}{b:Nat}
def cw(C:Ch)(f l:Nat):List Str:=(C.filter λp=>decide (f<=fst p.2)&&decide (lst p.2<=l)).map (·.1)
def Em(d:(C.map (·.1)).Nodup)(h:∀p∈C,p.2≠[])(j:C.length<=1000):qw [.d (chP C),nI f,nI l]=.ok (.l ((cw C f l).map .s)):=by
 refine zE (jZ (Ym bH ?_));have:=ZA (g:=Z0) (c:=Z1) (e:=Z2) (λp:Str×List Nat=>PV.s p.1) (λp=>decide (f<=fst p.2)&&decide (lst p.2<=l)) (λp=>PV.s p.1) (λa=>∃z,a=[z,some (nI f),some (.d (chP C)),some (nI l)]) C [none,some (nI f),some (.d (chP C)),some (nI l)] [] ⟨none,rfl⟩ (λp hp a ⟨z,i⟩=>by
  subst i;refine⟨_,rfl,⟨_,rfl⟩,QU (zP (zl rfl (zl (zl rfl rfl (sU d hp)) rfl (HU (h p hp))) ?_)) (zP (zl (zl (zl rfl rfl (sU d hp)) rfl (BQ (h p hp))) rfl ?_)),λ_=>rfl⟩
  .show Out.ok (PV.b (decide (f<=(fst p.2:Int))))=_;rw[a0L.mpr a2G]
  .show Out.ok (PV.b (decide ((lst p.2:Int)<=l)))=_;rw[a0L.mpr a2G]) (by simp;omega)
 refine this.trans ?_;unfold cw;rw[S4];rfl
abbrev Crd(C:Ch)(b f l:Nat):Prop:=b*(l-f+1)<(cw C f l).length
abbrev crX(C:Ch)(f l:Nat):List (Str×PV):=[("first",nI f),("last",nI l),("cars",.l ((cw C f l).map .s))]
def Ao(s:(C.map (·.1)).Nodup)(o:∀p∈C,p.2≠[])(w:C.length<=1000)(hf:f<=6):∀(d:Og)(a c:OQ),(∀k∈d,f<=k/\k<=6)->((∀k∈d,¬Crd C b f k)/\∃v A,j9 qI yL (d.map nI) [some (.d (chP C)),some (nI b),some (nI f),a,c]=.ok (.nx [some (.d (chP C)),some (nI b),some (nI f),v,A]))\/∃l,f<=l/\l<=6/\Crd C b f l/\j9 qI yL (d.map nI) [some (.d (chP C)),some (nI b),some (nI f),a,c]=.exc 6 (crX C f l):=by
 intro d
 induction d with
 |nil=>exact λa c _=>.inl ⟨nofun,a,c,rfl⟩
 |cons k d r=>
  intro a c j;obtain⟨n,m⟩:=j k O7;have t:yL [some (.d (chP C)),some (nI b),some (nI f),some (nI k),c]=if decide (Crd C b f k)=true then .exc 6 (crX C f k)else .ok (.nx [some (.d (chP C)),some (nI b),some (nI f),some (nI k),some (.l ((cw C f k).map .s))]):=by
   refine zd ⟨_,zH (zr rfl (Em s o w)),?_⟩;refine(yp (x:=decide (Crd C b f k)) (zP (zl (zr rfl (by show Out.ok (PV.i (((cw C f k).map PV.s).length:Int))=_;rw[u8])) (zl rfl (zl (zl rfl rfl rfl) rfl rfl) (GD (by omega) (by omega))) ?_))).trans ?_
   .refine R9 (λq=>Out.ok (PV.b q)) (a0L.mpr ?_);rw[show(k:Int)-f+1=((k-f+1:Nat):Int) by omega];exact Int.ofNat_lt
   .rfl
  by_cases i:Crd C b f k
  .rw[O5 i]at t;refine .inr ⟨k,n,m,i,?_⟩;show(yL [some (.d (chP C)),some (nI b),some (nI f),some (nI k),c]).bind _=_;rw[t];rfl
  .rw[O4 i]at t;have fs:j9 qI yL ((k::d).map nI) [some (.d (chP C)),some (nI b),some (nI f),a,c]=_:=vJ rfl t;rw[fs];rcases r (some (nI k)) (some (.l ((cw C f k).map .s))) λq g=>j q (O6 _ g)with⟨u,z⟩|h
   .refine .inl ⟨λq g=>?_,z⟩;rcases P7.mp g with e|g
    .rw[e];exact i
    .exact u q g
   .exact .inr h
def HW{a b:Int}(c:-1000<=a)(e:a<=1000)(f:-1000<=b)(d:b<=1000):pe [.i a,.i b]=.ok (ic a (b-a).toNat):=by unfold pe;exact if_pos ⟨by omega,by omega,by omega,by omega⟩
def ZU{g:MG}{b:MS}{x:PV}{xs:OD}{ρ a:Sto}{c:Nat}{fs:OK}(e:g x ρ=some a)(d:b a=.exc c fs):j9 g b (x::xs) ρ=.exc c fs:=by show((wD (g x ρ)).bind λa=>(b a).bind _)=_;rw[e];show(b a).bind _=_;rw[d];rfl
def BR(hf:f<=6)(h:ms ρ=.ok [nI f,.i 7]):pf ms ρ=.ok (((List.range (7-f)).map λj=>f+j).map nI):=by unfold pf;rw[h,okb,HW (by omega) (by omega) (by omega) (by omega),S4,show(7-(f:Int)).toNat=7-f by omega];refine R9 Out.ok (a0T λk _=>?_);show PV.i (f+k)=PV.i ((f+k:Nat):Int);rw[Int.natCast_add]
def sV(w:(C.map (·.1)).Nodup)(u:∀p∈C,p.2≠[])(A:C.length<=1000):((∀f l,f<=l->l<=6->¬Crd C b f l)/\yD [.d (chP C),nI b]=.ok .n)\/∃f l,f<=l/\l<=6/\Crd C b f l/\yD [.d (chP C),nI b]=.exc 6 (crX C f l):=by
 have loop:∀(d:Og)(a c e:OQ),(∀k∈d,k<=6)->((∀f∈d,∀l,f<=l->l<=6->¬Crd C b f l)/\∃y s r,j9 qJ qK (d.map nI) [some (.d (chP C)),some (nI b),a,c,e]=.ok (.nx [some (.d (chP C)),some (nI b),y,s,r]))\/∃f l,f<=l/\l<=6/\Crd C b f l/\j9 qJ qK (d.map nI) [some (.d (chP C)),some (nI b),a,c,e]=.exc 6 (crX C f l):=by
  intro d
  induction d with
  |nil=>exact λa c e _=>.inl ⟨nofun,a,c,e,rfl⟩
  |cons k d v=>
   intro a c e n;have o:=n k O7;rcases Ao w u A o ((List.range (7-k)).map λj=>k+j) c e (λq g=>by obtain⟨j,B,rfl⟩:=O9.mp g;have:=a0a.mp B;omega)with⟨h1,s,r,h2⟩|⟨l,i,m,l3,h2⟩
   .have fs:j9 qJ qK ((k::d).map nI) [some (.d (chP C)),some (nI b),a,c,e]=_:=vJ rfl (kJ (BR o rfl) h2);rw[fs];rcases v (some (nI k)) s r λq g=>n q (O6 _ g)with⟨D,x⟩|h
    .refine .inl ⟨λq g l i m=>?_,x⟩;rcases P7.mp g with e|g
     .rw[e]at i ⊢;exact h1 l (O9.mpr ⟨l-k,a0a.mpr (by omega),by omega⟩)
     .exact D q g l i m
    .exact .inr h
   .exact .inr ⟨k,l,i,m,l3,ZU rfl (Vo (BR o rfl) h2)⟩
 rcases loop (List.range 7) none none none (λk n=>by have:=a0a.mp n;omega)with⟨h1,a,c,e,h2⟩|⟨f,l,i,m,l3,h2⟩
 .exact .inl ⟨λf l z t=>h1 f (a0a.mpr (by omega)) l z t,Ai rfl (kJ (Fd rfl) h2)⟩
 .exact .inr ⟨f,l,i,m,l3,jr (Vo (Fd rfl) h2)⟩
end
theorem Zn{d:Type}[DecidableEq d]:∀{a b:List d},a.Nodup->(∀x∈a,x∈b)->a.length<=b.length
 |[],b,_,_=>a0c _
 |x::a,b,g,h=>by have c:=h x O7;obtain⟨i,j⟩:=a0r.mp g;have:=Zn j λy f=>(a36 (show y≠x from λe=>i (e▸f))).mpr (h y (O6 _ f));rw[a3c c]at this;have l:=a2l c;rw[O1];omega
section
variable {C W:Ch}{b n:Nat}{T:OR}
def wt(C:Ch)(T:OR)(n:Nat):Ch:=C.filter λp=>!decide (p.1∈T.map (·.1))&&decide (n∈p.2)
def keyW(W:Ch):List Int:=W.map λp=>(lst p.2:Int)
def eX(W:Ch):Ch:=(eW (keyW W)).map λi=>W.getD i ("",[])
def tk(C:Ch)(b:Nat)(T:OR)(n:Nat):Ch:=(eX (wt C T n)).take b
def Tn(C:Ch)(b:Nat):Nat->List (Str×Nat)
 |0=>[]
 |n+1=>Tn C b n++(tk C b (Tn C b n) n).map λp=>(p.1,n)
abbrev Pn(C:Ch)(b n:Nat):Ch:=tk C b (Tn C b n) n
def bI:(keyW W).length=W.length:=by unfold keyW;rw[u8]
def Y7:(eX W).Perm W:=by have h:=(f6 (keyW W)).1;rw[bI]at h;have:=h.map λi=>W.getD i ("",[]);refine this.trans (List.Perm.of_eq ?_);refine a3k (by rw[u8,a0p]) λi h1 h2=>?_;rw[a0s,a2a,a0k,O3 h2];rfl
def En:(eX W).Pairwise λx y=>lst x.2<=lst y.2:=by
 obtain⟨h,hp⟩:=f6 (keyW W);unfold eX;rw[a2k];refine a3m (λ{i j} hi hj q=>?_) hp;have hi:=a0a.mp (h.mem_iff.mp hi);have hj:=a0a.mp (h.mem_iff.mp hj);rw[bI]at hi hj;have e:∀i,i<W.length->(keyW W).getD i 0=(lst (W.getD i ("",[])).2:Int):=λi hi=>by unfold keyW;rw[a0k,S5,a0k,O3 hi];rfl
 rw[e i hi,e j hj]at q;exact a2G.mp q
def VP:p∈wt C T n↔p∈C/\p.1∉T.map (·.1)/\n∈p.2:=by unfold wt;rw[a0l,S8,Bool.not_eq_true',a3t,T7]
def U_(h:p∈tk C b T n):p∈wt C T n:=Y7.mem_iff.mp (a2F h)
def MF(a:C.Nodup):(tk C b T n).Nodup:=(Y7.nodup_iff.mpr (a.sublist a4h)).sublist (a2Y _ _)
def HY:(tk C b T n).length<=b:=by unfold tk;rw[a0F];omega
def HZ(h:p∈wt C T n)(d:p∉tk C b T n):(tk C b T n).length=b/\∀y∈tk C b T n,lst y.2<=lst p.2:=by
 have hp:=Y7.mem_iff.mpr h;have a:=by rw[<- a1r b (eX (wt C T n))]at hp;exact(a0q.mp hp).resolve_left d
 constructor
 .unfold tk;rw[a0F];have:0<((eX (wt C T n)).drop b).length:=a2l a;rw[a05]at this;omega
 .intro y e;have c:=En (W:=wt C T n);rw[<- a1r b (eX (wt C T n))]at c;exact(List.pairwise_append.mp c).2.2 y e p a
theorem sW{p:Str×Nat}{k:Nat}:∀{n:Nat},k<=n->p∈Tn C b k->p∈Tn C b n
 |0,h,q=>by cases Nat.le_zero.mp h;exact q
 |n+1,h,q=>by
  by_cases c:k=n+1
  .subst c;exact q
  .exact a0A _ (sW (by omega) q)
theorem mS{z:Str}{k:Nat}:∀{n:Nat},(z,k)∈Tn C b n->k<n/\∃p∈Pn C b k,p.1=z
 |0,h=>by cases h
 |n+1,h=>by
  rcases a0q.mp h with h|h
  .obtain⟨c,a⟩:=mS h;exact⟨by omega,a⟩
  .obtain⟨p,hp,e⟩:=O9.mp h;cases e;exact⟨by omega,p,hp,rfl⟩
def H_(h:k<n)(hp:p∈Pn C b k):(p.1,k)∈Tn C b n:=
 sW h (R4 _ (O9.mpr ⟨p,hp,rfl⟩))
theorem Ap(a:(C.map (·.1)).Nodup):∀{n:Nat},((Tn C b n).map (·.1)).Nodup
 |0=>a1S
 |n+1=>by
  show((Tn C b n++(Pn C b n).map λp=>(p.1,n)).map (·.1)).Nodup;rw[T5,S4];have c:((Pn C b n).map (·.1)).Nodup:=by have:((eX (wt C (Tn C b n) n)).map (·.1)).Nodup:=(Y7.map _).nodup_iff.mpr (a.sublist (List.filter_sublist.map _));exact this.sublist ((a2Y _ _).map _)
  refine a0Q.mpr ⟨Ap a,c,λx g y f e=>?_⟩;obtain⟨p,hp,d⟩:=O9.mp f;exact(VP.mp (U_ hp)).2.1 (by grind)
structure Win(C:Ch):Prop where
 nd:(C.map (·.1)).Nodup
 ne:∀p∈C,p.2≠[]
 iv:∀p∈C,∀k,k∈p.2↔fst p.2<=k/\k<=lst p.2
 six:∀p∈C,∀k∈p.2,k<=6
def MH(a:(C.map (·.1)).Nodup):C.Nodup:=by rw[a0z,a2k]at a;exact a0z.mpr (a.imp λh e=>h (by rw[e]))
def Win.edf(w:Win C):Edf C (λp=>fst p.2) (λp=>lst p.2) (Pn C b) b where
 win:=λp hp=>by have a:=(w.iv p hp _).mp (iY (w.ne p hp));exact⟨a.1,w.six p hp _ (iY (w.ne p hp))⟩
 one:=λn c p hp=>by obtain⟨a,f,d⟩:=VP.mp (U_ hp);exact⟨a,λm o q=>f (O9.mpr ⟨_,H_ o q,rfl⟩),(w.iv p a n).mp d⟩
 nd:=λn _=>MF (MH w.nd)
 two:=λn c p hp a f d=>by
  refine HZ (VP.mpr ⟨hp,λq=>?_,(w.iv p hp n).mpr ⟨f,d⟩⟩) (a n (O2 _));obtain⟨t,r,e⟩:=O9.mp q;obtain⟨u,y,j,s⟩:=mS r;have g:=(VP.mp (U_ j)).1;have:y=p:=by have c:=w.nd;have i:=yV c g;have l:=yV c hp;have h:=s.trans e;rw[h,l]at i;exact Prod.ext h (a0e i).symm
  exact a t.2 (by omega) (this▸j)
def Win.all(w:Win C)(m:∀f l,f<=l->l<=6->¬Crd C b f l)(hp:p∈C):p.1∈(Tn C b 7).map (·.1):=by
 obtain⟨n,s,h⟩:=w.edf |>.all (λf l i o S d j=>by
  have:=m f l i o;have a:S.length<=(C.filter λp=>decide (f<=fst p.2)&&decide (lst p.2<=l)).length:=Zn d λx q=>by obtain⟨r,g,c⟩:=j x q;exact a0l.mpr ⟨r,by rw[O5 g,O5 c];rfl⟩
  have e:(cw C f l).length=(C.filter λp=>decide (f<=fst p.2)&&decide (lst p.2<=l)).length:=by unfold cw;rw[u8]
  rw[<- e]at a;exact P8 a (a32.mp this)) p hp
 exact O9.mpr ⟨_,H_ (by omega) h,rfl⟩
end
theorem BS{G:AH}{n:Nat}:∀{a:Oz},p0 (bY G (n+1)) (vK a)=some a
 |[]=>rfl
 | (k,x)::a=>by show((bY G (n+1) (.v x)).bind λy=>(p0 (bY G (n+1)) (vK a)).map ((k,y)::·))=_;rw[BS];rfl
def MJ(h:G[k]?=some (.d (vK kvs))):bY G 8 (.g k)=some (.d kvs):=by unfold bY;rw[h];show(p0 _ (vK kvs)).map PV.d=_;rw[BS];rfl
def Ia(e:WH bs ρ=none)(b:Vb G bs ρ=some r)(f:m r=.ok x)(d:Mm x=true)(a:xw x=some c):hF bs m ρ G=.ok (.g G.length) (G++[c]):=by unfold hF;rw[e,b];dsimp only;rw[f];dsimp only;rw[if_pos d,a]
theorem i5{b:Type}{f:b->PV}(h:∀x,imm (f x)=true):∀{a:List b},ui (a.map f)=true
 |[]=>rfl
 |x::a=>by show(imm (f x)&&ui (a.map f))=true;rw[h,i5 h];rfl
theorem eF{k:Nat}{g:HMG}{b:HMS}{xs:List HV}(J:Nat->ZY->AH->Prop)(n:∀i a G,J i a G->G[k]?=some (.l xs))(q:∀i (h:i<xs.length) a G,J i a G->∃d,g xs[i] a=some d/\∃c l,J (i+1) c l/\b d G=.nx c l):∀(r i:Nat)(a:ZY)(G:AH),i+r=xs.length->J i a G->∃f o,J xs.length f o/\Ve k g b r i a G=.nx f o
 |0,i,a,G,h,j=>by
  have e:i=xs.length:=by omega
  subst e;refine⟨a,G,j,?_⟩;unfold Ve;rw[n _ a G j];dsimp only;rw[a2w (O2 _)]
 |r+1,i,a,G,h,j=>by
  have p:i<xs.length:=by omega
  obtain⟨d,u,c,l,v,w⟩:=q i p a G j;obtain⟨m,x,t,s⟩:=eF J n q r (i+1) c l (by omega) v;refine⟨m,x,t,?_⟩;unfold Ve;rw[n _ a G j];dsimp only;rw[O3 p];dsimp only;rw[u];dsimp only;rw[w];exact s
def Aq(h:m ρ G=.ok (.g k) G1)(d:G1[k]?=some (.l a))(c:Ve k g b a.length 0 ρ G1=o):xD m g b ρ G=o:=by unfold xD;rw[h];show(match G1[k]? with|some (.l a)=>Ve k g b a.length 0 ρ G1|_=>.wall)=_;rw[d];exact c
def Ar(c:WH bs ρ=some r)(a:mi r=.ok xs)(h:fV g b (xs.map .v) ρ G=o):mB bs mi g b ρ G=o:=by unfold mB;rw[c];dsimp only;rw[a];exact h
def sX(h:g x ρ=some e)(f:b e G=.nx a d):fV g b (x::xs) ρ G=fV g b xs a d:=by
 show(match g x ρ with|none=>HFw.wall|some e=>match b e G with
   |.nx a d=>fV g b xs a d
   |.ct a d=>fV g b xs a d
   |.bk a d=>.nx a d
   |.rt v d=>.rt v d
   |.exc c fs d=>.exc c fs d
   |.wall=>.wall)=_
 rw[h];dsimp only;rw[f]
theorem Nr{G:AH}:∀{a:ZY},Vb G [] a=some (a.map λ_=>none)
 |[]=>rfl
 |_::_=>Oa Nr
theorem Ib{n:Nat}:∀{l:Og},inP (.int n) (l.map nI)=some (decide (n∈l))
 |[]=>by rw[O4 (by simp)];rfl
 |y::l=>by
  show(match some (V.int y),inP (.int n) (l.map nI)with|some u,some b=>some (eqV u (.int n)||b)|_,_=>none)=_;rw[Ib];show some (decide ((y:Int)=(n:Int))||decide (n∈l))=_;congr 1;by_cases c:y=n
  .subst c;rw[O5 rfl,O5 O7];rfl
  .rw[O4 (by omega),a2T];by_cases h:n∈l
   .rw[O5 h,O5 (O6 _ h)]
   .rw[O4 h,O4 λq=>(P7.mp q).elim (λe=>c e.symm) h]
def MK:pIn b (nI n) (ntP l)=.ok (.b (xor b (decide (n∈l)))):=by show wD ((inP (.int n) (l.map nI)).map λq=>PV.b (xor b q))=_;rw[Ib];rfl
section
variable {C:Ch}{b n t:Nat}{T:OR}{G:AH}
def tdP(T:OR):List (Key×PV):=T.map λp=>(sk p.1,nI p.2)
abbrev qM:Str:=("served"++".<locals>."++"<lambda>")
abbrev Mc:Cell:=.m 96 40 qM
def Rdy(G:AH):Prop:=G[0]?=some (.y true)\/G[0]?=some Mc
abbrev sSt(C:Ch)(b t:Nat)(n w x:Option HV):ZY:=[some (.v (.d (chP C))),some (.v (nI b)),some (.g t),n,w,x]
def Eo:(qB (tdP T) (sk z)).isSome=decide (z∈T.map (·.1)):=by
 unfold tdP
 induction T with
 |nil=>rfl
 |cons p T a=>
  rw[R7,qj,R7];by_cases c:p.1=z
  .rw[if_pos (by rw[c]),O5 (by rw[c];exact O7)];rfl
  .rw[if_neg (λh=>c (a1h h)),a];by_cases h:z∈T.map (·.1)
   .rw[O5 h,O5 (O6 _ h)]
   .rw[O4 h,O4 λq=>(P7.mp q).elim (λe=>c e.symm) h]
def Ep(w:Win C)(f:C.length<=1000):mLC (qE 0) [none,some 2,some 3,some 0] ZO ZP ZQ [some (.d (chP C)),none,some (.d (tdP T)),some (nI n),none,x]=.ok (.l ((wt C T n).map λp=>.s p.1)):=by
 refine Ym bH ?_;have:=ZA (g:=ZO) (c:=ZP) (e:=ZQ) (λp:Str×List Nat=>PV.s p.1) (λp=>!decide (p.1∈T.map (·.1))&&decide (n∈p.2)) (λp=>PV.s p.1) (λa=>∃z,a=[z,some (.d (tdP T)),some (nI n),some (.d (chP C))]) C [none,some (.d (tdP T)),some (nI n),some (.d (chP C))] [] ⟨none,rfl⟩ (λp hp a ⟨z,d⟩=>by
  subst d;refine⟨_,rfl,⟨_,rfl⟩,QU (zP (zl rfl rfl ?_)) (zP (zl rfl (zl rfl rfl (sU w.nd hp)) (MK.trans (by rw[a0K])))),λ_=>rfl⟩;have:=HL (r:=sk p.1) (kvs:=tdP T);rw[Eo]at this;exact this) (by simp;omega)
 exact this
def Ic(w:Win C)(hp:p∈C):nr 2 yA [.s p.1,.d (chP C)]=.ok (nI (lst p.2)):=by show(match yA [some (PV.s p.1),some (.d (chP C))]with | .ok y=>Out.ok y|_=>.wall)=_;rw[show yA [some (PV.s p.1),some (.d (chP C))]=.ok (nI (lst p.2))from zl (zl rfl rfl (sU w.nd hp)) rfl (BQ (w.ne p hp))]
theorem BU(w:Win C):∀{W:Ch},(∀p∈W,p∈C)->ba (λa=>nr 2 yA [a,.d (chP C)]) (W.map λp=>.s p.1)=some (keyW W)
 |[],_=>rfl
 |p::W,h=>by show(match nr 2 yA [.s p.1,.d (chP C)]with | .ok (.i n)=>(ba (λa=>nr 2 yA [a,.d (chP C)]) (W.map λp:Str×List Nat=>PV.s p.1)).map (n::·)|_=>none)=_;rw[Ic w (h p O7),BU w λq hq=>h q (O6 _ hq)];rfl
def Er(w:Win C)(h:∀p∈W,p∈C)(hl:W.length<64):DL (nr 2 yA) (.d (chP C)) (W.map λp=>.s p.1)=some (.l ((eX W).map λp=>.s p.1)):=by unfold DL;rw[if_pos (by grind),BU w h];show some (PV.l _)=some (PV.l _);unfold eX;rw[S4];congr 2;refine a0T λi hi=>?_;have hi':=a0a.mp ((f6 (keyW W)).1.mem_iff.mp hi);rw[bI]at hi';show(W.map λp=>PV.s p.1).getD i .n=PV.s (W.getD i ("",[])).1;rw[a0k,S5,a0k,O3 hi'];rfl
theorem BV:∀{a:OD},iy (a.map .v)=some a
 |[]=>rfl
 |x::a=>by show(iy (a.map .v)).map (x::·)=_;rw[BV];rfl
def Es{xs:OD}{n:Nat}:Uc xs none (some (n:Int))=xs.take n:=by
 unfold Uc;rw[g_ (by omega),HT.Wz,List.drop_zero,a4p,a0t];by_cases h:n<=xs.length
 .rw[a17 h]
 .rw[a2q (by omega),a2o,a0N (by omega)]
def Oc(h:Rdy G):(G.set 0 Mc)[0]?=some Mc:=by refine T8 ?_;rcases h with h|h<;>exact(P5.mp h).1
def Et(w:Win C)(h:Rdy G){W:Ch}{k:Nat}(d:G[k]?=some (.l ((W.map λp=>PV.s p.1).map .v)))(hW:∀p∈W,p∈C)(a:W.length<64){n x:Option HV}:dD 96 40 qM (nr 2 yA) 0 (Qz (Ud 4) uj) (sSt C b t n (some (.g k)) x) G=.ok (.v (.l ((eX W).map λp=>.s p.1))) (G.set 0 Mc):=by
 have e:(U2 G (.g k)).bind (DL (nr 2 yA) (.d (chP C)))=some (.l ((eX W).map λp=>.s p.1)):=by show(match G[k]? with|some (.l f)=>iy f|_=>none).bind _=_;rw[d];show(iy ((W.map λp=>PV.s p.1).map .v)).bind _=_;rw[BV];exact Er w hW a
 show(match(U2 G (.g k)).bind (DL (nr 2 yA) (.d (chP C))),G[0]? with
  |some z,some (.y true)=>HX.ok (HV.v z) (G.set 0 (.m 96 40 qM))
  |some z,some (.m l c q)=>if l=96/\c=40/\q=qM then .ok (.v z) G else .wall
  |_,_=>.wall)=_
 rw[e];rcases h with h|h
 .rw[h]
 .rw[h];show(if 96=96/\40=40/\qM=qM then HX.ok (HV.v (.l ((eX W).map λp=>.s p.1))) G else .wall)=_;rw[if_pos ⟨rfl,rfl,rfl⟩];obtain⟨i,g⟩:=P5.mp h;rw[<- g,a3X]
abbrev tdC(T:OR):Cell:=.d (vK (tdP T))
def Eu:(vK (tdP T)).length=T.length:=by unfold vK tdP;rw[u8,u8]
def Ie(h:z∉T.map (·.1)):dput (vK (tdP T)) (sk z) (.v (nI n))=vK (tdP (T++[(z,n)])):=by
 rw[WM]
 .unfold vK tdP;rw[T5,T5];rfl
 .unfold vK tdP;rw[S4,S4];intro q;obtain⟨p,hp,e⟩:=O9.mp q;exact h (O9.mpr ⟨p,hp,a1h e⟩)
def As{k:Nat}(d:G[t]?=some (tdC T))(h:z∉T.map (·.1))(c:T.length<=1000):JE (sSt C b t (some (.v (nI n))) w (some (.v (.s z)))) G=.nx (sSt C b t (some (.v (nI n))) w (some (.v (.s z)))) (G.set t (tdC (T++[(z,n)]))):=by show(match G[t]?,pk (.s z)with|some (.d a),some q=>if a.length<sizeLine then HFw.nx (sSt C b t (some (.v (nI n))) w (some (.v (.s z)))) (G.set t (.d (dput a q (.v (nI n)))))else .wall|_,_=>.wall)=_;rw[d];show(if(vK (tdP T)).length<sizeLine then HFw.nx _ (G.set t (.d (dput (vK (tdP T)) (sk z) (.v (nI n)))))else .wall)=_;rw[if_pos (by rw[Eu];exact a1o c (by decide)),Ie h]
def Au(w:Win C)(M:C.length<=40)(h:Rdy G)(r:G[t]?=some (tdC (Tn C b n)))(E:t≠0):∃L u f,ZR (sSt C b t (some (.v (nI n))) w0 x0) G=.nx (sSt C b t (some (.v (nI n))) L u) f/\Rdy f/\f[t]?=some (tdC (Tn C b (n+1)))/\f[0]?=some Mc:=by
 obtain⟨T,l⟩:∃T,T=Tn C b n:=⟨_,rfl⟩;rw[<- l]at r;have lt:=(P5.mp r).1;have W:=by
  have o:=Zn (l▸Ap w.nd) λz hz=>by obtain⟨p,hp,e⟩:=O9.mp hz;rw[l]at hp;obtain⟨_,q,U,eq⟩:=mS hp;exact O9.mpr ⟨q,(VP.mp (U_ U)).1,eq.trans e⟩
  rw[u8,u8]at o;omega
 have wl:(wt C T n).length<=40:=P8 (a0J _ _) M;obtain⟨a,c⟩:∃a,a=G++[.l (((wt C T n).map λp=>PV.s p.1).map .v)]:=⟨_,rfl⟩;have K:Vz 4 (hF [true,false,true,true] (mLC (qE 0) [none,some 2,some 3,some 0] ZO ZP ZQ)) (sSt C b t (some (.v (nI n))) w0 x0) G=.nx (sSt C b t (some (.v (nI n))) (some (.g G.length)) x0) a:=by rw[c];exact ky (Ia rfl (Mz rfl (Ob (Mz (MJ r) (Mz rfl Nr)))) (Ep w (by omega)) (i5 λp=>rfl) rfl)
 have o:Rdy a:=by
  have:a[0]?=G[0]?:=by rw[c,a0n (by omega)]
  unfold Rdy;rw[this];exact h
 have J:a[G.length]?=some (.l (((wt C T n).map λp=>PV.s p.1).map .v)):=by rw[c,a0M (O2 _),a2C];rfl
 have s2:=Et (b:=b) (t:=t) (n:=some (.v (nI n))) (x:=x0) w o J (λp hp=>(VP.mp hp).1) (by omega);obtain⟨P,hP⟩:∃P,P=tk C b T n:=⟨_,rfl⟩;obtain⟨d,j⟩:∃d,d=a.set 0 Mc++[.l ((P.map λp=>PV.s p.1).map .v)]:=⟨_,rfl⟩;have l1:a.length=G.length+1:=by rw[c,P2];rfl
 have F:(a.set 0 Mc).length=a.length:=a0i ..;have I:La (dD 96 40 qM (nr 2 yA) 0 (Qz (Ud 4) uj)) (Ud 1) (sSt C b t (some (.v (nI n))) (some (.g G.length)) x0) a=.ok (.g a.length) d:=by unfold La;rw[s2];show HX.ok (HV.g (a.set 0 Mc).length) (a.set 0 Mc++[Cell.l ((Uc ((eX (wt C T n)).map λp=>PV.s p.1) none (some b)).map .v)])=_;rw[Es,F,j,hP,<- a2m];rfl
 have y:d[a.length]?=some (.l ((P.map λp=>PV.s p.1).map .v)):=by rw[j,a0M (by omega),F,a2C];rfl
 have H:d[t]?=some (tdC T):=by rw[j,a0n (by omega),S9 (Ne.symm E),c,a0n lt];exact r
 have Q:d[0]?=some Mc:=by rw[j,a0n (by omega)];exact Oc o
 have m:=(P5.mp H).1;have A:=by
  have:=Ap (b:=b) w.nd (n:=n+1);have e:(Tn C b (n+1)).map (·.1)=T.map (·.1)++P.map (·.1):=by show(Tn C b n++(tk C b (Tn C b n) n).map λp=>(p.1,n)).map (·.1)=_;rw[T5,S4,<- l,<- hP];rfl
  rw[e]at this;exact this
 have Y:=by
  have:P.length<=(eX (wt C T n)).length:=by rw[hP];unfold tk;rw[a0F];omega
  rw[Y7.length_eq]at this;omega
 obtain⟨X,f,⟨u,rfl,rfl⟩,B⟩:=eF (k:=a.length) (g:=XU) (λi s f=>∃x,s=sSt C b t (some (.v (nI n))) (some (.g G.length)) x/\f=d.set t (tdC (T++(P.take i).map λp=>(p.1,n)))) (λi s f ⟨x,_,e⟩=>by rw[e,S9 (by omega)];exact y) (λi v s f ⟨x,R,O⟩=>by
  subst R O;rw[u8,u8]at v;rw[a0s,a0s];have N:P[i].1∉(T++(P.take i).map λp=>(p.1,n)).map (·.1):=λq=>by
   rw[T5,S4]at q;have e:T.map (·.1)++P.map (·.1)=(T.map (·.1)++(P.take i).map (·.1))++(P.drop i).map (·.1):=by rw[a0H,<- T5,a1r]
   rw[e]at A;exact(a0Q.mp A).2.2 _ q P[i].1 (O9.mpr ⟨P[i],by rw[a0G v];exact O7,rfl⟩) rfl
  refine⟨_,rfl,_,_,⟨_,rfl,?_⟩,As (k:=0) (T8 m) N (by grind)⟩;rw[List.set_set,a0H];rw[List.take_succ,O3 v,T5];rfl) P.length 0 (sSt C b t (some (.v (nI n))) (some (.g G.length)) x0) d (by simp) ⟨x0,rfl,by
   rw[List.take_zero,a25,a0h];obtain⟨Z,S⟩:=P5.mp H;rw[<- S,a3X]⟩
 rw[u8,u8,a2o]at B;have D:(d.set t (tdC (T++P.map λp=>(p.1,n))))[0]?=some Mc:=by rw[S9 E];exact Q
 refine⟨_,u,d.set t (tdC (T++P.map λp=>(p.1,n))),yq K (Aq I y (by rw[u8,u8];exact B)),.inr D,?_,D⟩;rw[T8 m,l,hP,l];rfl
theorem X4(w:Win C)(l:C.length<=40)(o:t≠0):∀(r n:Nat)(G:AH)(a c d:Option HV),n+r=7->Rdy G->G[t]?=some (tdC (Tn C b n))->∃i f g e,fV JF ZR (((List.range' n r).map nI).map .v) (sSt C b t a c d) G=.nx (sSt C b t i f g) e/\Rdy e/\e[t]?=some (tdC (Tn C b 7))
 |0,n,G,a,c,d,m,h,j=>⟨a,c,d,G,rfl,h,by cases m;exact j⟩
 |r+1,n,G,a,c,d,m,h,j=>by obtain⟨p,v,z,y,u,x,_⟩:=Au w l h j o;obtain⟨i,f,g,e,s,q⟩:=X4 w l o r (n+1) z (some (.v (nI n))) p v (by omega) u x;exact⟨i,f,g,e,(sX rfl y).trans s,q⟩
def Av(w:Win C)(q:C.length<=40)(h:Rdy G):∃a,Kv [.v (.d (chP C)),.v (nI b)] G=.ok (.g G.length) a/\Rdy a/\a[G.length]?=some (tdC (Tn C b 7)):=by
 have i:0<G.length:=by rcases h with h|h<;>exact(P5.mp h).1
 have m:Rdy (G++[tdC []]):=by have:(G++[tdC []])[0]?=G[0]?:=a0n i;unfold Rdy;rw[this];exact h
 obtain⟨f,g,d,a,e,p,l⟩:=X4 (t:=G.length) w q (by omega) 7 0 (G++[tdC []]) none none none rfl m (by rw[a0M (O2 _),a2C];rfl);refine⟨a,?_,p,l⟩;have o:Vz 2 (hF [] aL) [some (.v (.d (chP C))),some (.v (nI b)),none,none,none,none] G=.nx (sSt C b G.length none none none) (G++[tdC []]):=rfl;have s2:mB [] (Yl (zb (mC (.i 7)) zk)) JF ZR (sSt C b G.length none none none) (G++[tdC []])=.nx (sSt C b G.length f g d) a:=Ar rfl (Fd rfl) e;have j:Ue (Ud 2) (sSt C b G.length f g d) a = .rt (.g G.length) a:=rfl;show(match Ku [some (.v (.d (chP C))),some (.v (nI b)),none,none,none,none] G with | .nx _ a=>HX.ok (HV.v PV.n) a | .rt x a=>.ok x a | .exc c fs a=>.exc c fs a|_=>.wall)=_;rw[show Ku [some (.v (.d (chP C))),some (.v (nI b)),none,none,none,none] G=_ from yq o (yq s2 j)]
end
inductive Rf
 |bad (z:Str)
 |num (v:Int)
 |many
 |two (z:Str)
def nv:List Int->Option Int
 |[]=>none
 |x::l=>if x<0\/1000000000<x then some x else nv l
def dvN(w:Wk):Option Int:=if w.m<0\/1000000000<w.m then some w.m else if w.d<1\/w.d>1000000000 then some w.d else nv w.ls
def dvL:List Str->List Wk->Option Rf
 |_,[]=>none
 |P,w::ws=>if ZT w.nm=false then some (.bad w.nm)else if w.nm∈P then some (.two w.nm)else match dvN w with|some v=>some (.num v)|none=>dvL (P++[w.nm]) ws
def dv(ws:List Wk):Option Rf:=if 40<ws.length then some .many else dvL [] ws
def rE:Rf->Nat×List (Str×PV)
 |.bad z=>(1,[("name",.s z)])
 |.num v=>(2,[("value",.i v)])
 |.many=>(3,[("most",.i 40)])
 |.two z=>(4,[("name",.s z)])
def Ew(h:z∉P):dput (VO P) (sk z) (.b true)=VO (P++[z]):=by
 rw[WM]
 .unfold VO;rw[T5];rfl
 .unfold VO;rw[S4];intro q;obtain⟨y,a,e⟩:=O9.mp q;cases e;exact h a
theorem BW{A B C D E F:OQ}:∀(a:OC)(o:OQ),(nv a=none->∃b,j9 jm jn (a.map .i) [A,B,C,D,E,F,o]=.ok (.nx [A,B,C,D,E,F,b]))/\∀v,nv a=some v->j9 jm jn (a.map .i) [A,B,C,D,E,F,o]=.exc 2 [("value",.i v)]
 |[],o=>⟨λ_=>⟨o,rfl⟩,nofun⟩
 |x::a,o=>by
  unfold nv;by_cases c:x<0\/1000000000<x
  .rw[if_pos c];refine⟨nofun,λv h=>?_⟩;cases h;exact ZU rfl (ZS (KD rfl (X0 c)))
  .rw[if_neg c];have fs:j9 jm jn ((x::a).map .i) [A,B,C,D,E,F,o]=_:=vJ rfl (JH (zr rfl (KG c)));rw[fs];exact BW a (some (.i x))
def WN(hz:∀w∈ws,w.nm.length<=1000):(dv ws=none->ym [wsP ws]=.ok .n)/\∀r,dv ws=some r->ym [wsP ws]=.exc (rE r).1 (rE r).2:=by
 have loop:∀(f:List Wk)(P:Oj)(a b c d e:OQ),(∀w∈f,w.nm.length<=1000)->P.length+f.length<=1000->(dvL P f=none->∃g,j9 jo jq (f.map wkP) [some (wsP ws),some (.d (VO P)),a,b,c,d,e]=.ok (.nx g))/\∀r,dvL P f=some r->j9 jo jq (f.map wkP) [some (wsP ws),some (.d (VO P)),a,b,c,d,e]=.exc (rE r).1 (rE r).2:=by
  intro f
  induction f with
  |nil=>exact λP a b c d e _ _=>⟨λ_=>⟨_,rfl⟩,nofun⟩
  |cons w f z=>
   intro P a b c d e p hP;rw[O1]at hP;have cn:=Ec (P:=P) (p w O7);unfold dvL;by_cases u:ZT w.nm=false
   .rw[if_pos u]at cn ⊢;refine⟨nofun,λr h=>?_⟩;cases h;exact ZU rfl (jH (ZS (KD rfl cn)))
   .rw[if_neg u]at cn ⊢;by_cases m:w.nm∈P
    .rw[if_pos m]at cn ⊢;refine⟨nofun,λr h=>?_⟩;cases h;exact ZU rfl (jH (ZS (KD rfl cn)))
    .rw[if_neg m]at cn ⊢;have l:=JH (zr (ρ:=[some (wsP ws),some (.d (VO P)),some (.s w.nm),some (.i w.m),some (.i w.d),some (lsP w.ls),e]) (ms:=zb (zc 2) (zb (zc 1) zk)) rfl cn);unfold dvN;by_cases j:w.m<0\/1000000000<w.m
     .rw[if_pos j];refine⟨nofun,λr h=>?_⟩;cases h;exact ZU rfl (zd ⟨_,l,jH (ZS (KD rfl (X0 j)))⟩)
     .rw[if_neg j];have s2:=JH (zr (ρ:=[some (wsP ws),some (.d (VO P)),some (.s w.nm),some (.i w.m),some (.i w.d),some (lsP w.ls),e]) (ms:=zb (zc 3) (zb (mC (.i 0)) zk)) rfl (KG j));by_cases n:w.d<1\/w.d>1000000000
      .rw[if_pos n];refine⟨nofun,λr h=>?_⟩;cases h;exact ZU rfl (zd ⟨_,l,zd ⟨_,s2,jH (ZS (KD rfl (mP n)))⟩⟩)
      .rw[if_neg n];have o:=JH (zr (ρ:=[some (wsP ws),some (.d (VO P)),some (.s w.nm),some (.i w.m),some (.i w.d),some (lsP w.ls),e]) (ms:=zb (zc 4) (zb (mC (.i 1)) zk)) rfl (sP (by omega) (by omega)));obtain⟨H,J⟩:=BW w.ls e;cases y:nv w.ls with
       |some v=>refine⟨nofun,λr h=>?_⟩;cases h;exact ZU rfl (zd ⟨_,l,zd ⟨_,s2,zd ⟨_,o,jH (Vo (yk rfl) (J v y))⟩⟩⟩)
       |none=>obtain⟨L,q⟩:=H y;have fs:j9 jo jq ((w::f).map wkP) [some (wsP ws),some (.d (VO P)),a,b,c,d,e]=_:=vJ rfl (zd ⟨_,l,zd ⟨_,s2,zd ⟨_,o,zd ⟨_,kJ (yk rfl) q,iZ (k:=sk w.nm) rfl rfl rfl (by unfold VO;rw[u8];omega)⟩⟩⟩⟩);rw[fs,Ew m];exact z (P++[w.nm]) _ _ _ _ _ (λx I=>p x (O6 _ I)) (by grind)
 have t:qZ [wsP ws]=.ok (.i ws.length):=by show Out.ok (PV.i ((ws.map wkP).length:Int))=_;rw[u8]
 unfold dv;by_cases c:40<ws.length
 .rw[if_pos c];refine⟨nofun,λr h=>?_⟩;cases h;exact jr (jH (ZS (KD rfl (Ed t (by omega)))))
 .rw[if_neg c];have s:=JH (zr (ρ:=[some (wsP ws),none,none,none,none,none,none]) (ms:=zb (zc 0) (zb (mC (.i 40)) zk)) rfl (Ea t (by omega)));obtain⟨G,K⟩:=loop ws [] none none none none none hz (by grind);refine⟨λh=>?_,λr h=>?_⟩
  .obtain⟨g,q⟩:=G h;exact Ai rfl (zd ⟨_,s,zd ⟨_,rfl,kJ (yk rfl) q⟩⟩)
  .exact jr (zd ⟨_,s,zd ⟨_,rfl,Vo (yk rfl) (K r h)⟩⟩)
def i6(h:p ρ G=.exc c fs G'):Yo p q ρ G=.exc c fs G':=by unfold Yo;rw[h]
def WO(h:m ρ G=.ok x G'):Ke m ρ G=.nx ρ G':=by unfold Ke;rw[h];rfl
def eG(h:m ρ G=.exc c fs G'):Ke m ρ G=.exc c fs G':=by unfold Ke;rw[h];rfl
def BX(b:WH bs ρ=some r)(a:m r=.exc c fs):hP bs m ρ G=.exc c fs G:=by unfold hP;rw[b];dsimp only;rw[a]
def X5(h:hm (xs.map some++List.replicate (n-xs.length) none) G=.rt x G'):nq n hm xs G=.ok x G':=by unfold nq;rw[h]
def i7(h:hm (xs.map some++List.replicate (n-xs.length) none) G=.exc c fs G'):nq n hm xs G=.exc c fs G':=by unfold nq;rw[h]
def i8(h:ms ρ G=.ok xs G)(a:f xs G=o):fU f ms ρ G=o:=by unfold fU;rw[h];exact a
def Od:Ug G bs []=some []:=by cases bs<;>rfl
def Nt(h:Ug G bs ρ=some r):Ug G (false::bs) (a::ρ)=some (none::r):=by show(Ug G bs ρ).map _=_;rw[h];rfl
def Nu(a:sres G x=some y)(h:Ug G bs ρ=some r):Ug G (true::bs) (some x::ρ)=some (some y::r):=by show(sres G x).bind _=_;rw[a,h];rfl
theorem BY:∀{a:Oz},iA (vK a)=some a
 |[]=>rfl
 | (k,x)::a=>by show(iA (vK a)).map ((k,x)::·)=_;rw[BY];rfl
def i9:∀{acc:Oz},((acc++es).map (·.1)).Nodup->es.foldl (λacc kv=>dput acc kv.1 kv.2) acc=acc++es:=by
 induction es with
 |nil=>intro acc _;rw[a0h];rfl
 |cons e es ih=>
  intro acc h;have h1:=λq=>by rw[T5]at h;exact(a0Q.mp h).2.2 _ q e.1 O7 rfl
  rw[a00,WM h1,ih (by grind),a0H];rfl
theorem bJ:∀{us:List Wk}{P:Oj},dvL P us=none->(∀w∈us,ZT w.nm=true/\w.nm∉P/\dvN w=none)/\(us.map (·.nm)).Nodup
 |[],P,_=>⟨nofun,a1S⟩
 |w::us,P,h=>by
  unfold dvL at h;by_cases c1:ZT w.nm=false
  .rw[if_pos c1]at h;cases h
  .rw[if_neg c1]at h;by_cases c2:w.nm∈P
   .rw[if_pos c2]at h;cases h
   .rw[if_neg c2]at h;cases hn:dvN w with
    |some v=>rw[hn]at h;cases h
    |none=>
     rw[hn]at h;obtain⟨h1,h2⟩:=bJ h;refine⟨λu hu=>?_,a0r.mpr ⟨λq=>?_,h2⟩⟩
     .rcases P7.mp hu with e|hu
      .rw[e];exact⟨by cases q:ZT w.nm with|true=>rfl|false=>exact absurd q c1,c2,hn⟩
      .obtain⟨a1,a2,a3⟩:=h1 u hu;exact⟨a1,λq=>a2 (a0A _ q),a3⟩
     .obtain⟨u,hu,e⟩:=O9.mp q;exact(h1 u hu).2.1 (R4 _ (by grind))
theorem eI:∀{a:OC},nv a=none->∀x∈a,0<=x
 |[],_,x,h=>by cases h
 |y::a,h,x,b=>by
  unfold nv at h;by_cases c:y<0\/1000000000<y
  .rw[if_pos c]at h;cases h
  .rw[if_neg c]at h;rcases P7.mp b with e|b
   .rw[e];omega
   .exact eI h x b
def Aw(h:dvN w=none):∀x∈w.ls,0<=x:=by
 unfold dvN at h;by_cases c:w.m<0\/1000000000<w.m
 .rw[if_pos c]at h;cases h
 .rw[if_neg c]at h;by_cases a:w.d<1\/w.d>1000000000
  .rw[if_pos a]at h;cases h
  .rw[if_neg a]at h;exact eI h
structure ny(ws:List Wk):Prop where
 l:ws.length<=40
 nd:(ws.map (·.nm)).Nodup
 z:∀w∈ws,w.nm.length<=12
 nn:∀w∈ws,∀x∈w.ls,0<=x
def ZV(h:dv ws=none):ny ws:=by
 unfold dv at h;by_cases c:40<ws.length
 .rw[if_pos c]at h;cases h
 .rw[if_neg c]at h;obtain⟨b,d⟩:=bJ h;exact⟨by omega,d,λw a=>(Eb (b w a).1).1.2,λw a=>Aw (b w a).2.2⟩
theorem bK:∀{C:Ch},noN C=none->∀p∈C,p.2≠[]
 |[],_,p,h=>by cases h
 |q::C,h,p,hp=>by
  unfold noN at h;cases e:q.2.isEmpty with
  |true=>rw[e]at h;cases h
  |false=>
   rw[e]at h;rcases P7.mp hp with a|hp
   .rw[a];intro b;rw[b]at e;cases e
   .exact bK h p hp
def ny.win{ws:List Wk}(f:ny ws)(h:noN (chL ws)=none):Win (chL ws)where
 nd:=BP f.nd
 ne:=bK h
 iv:=λp hp k=>by have a:=bK h p hp;obtain⟨w,b,rfl⟩:=O9.mp hp;exact HJ (f.nn w (a0l.mp b).1) a
 six:=λp hp k c=>by obtain⟨w,b,rfl⟩:=O9.mp hp;have:=(eC.mp c).1;omega
def sY:(chL ws).length<=ws.length:=by unfold chL;rw[u8];exact a0J _ _
section
variable {ws:List Wk}{G:AH}{b:Nat}
def tlP(ws:List Wk)(T:OR):List (Key×PV):=ws.map λw=>(sk w.nm,(qB (tdP T) (sk w.nm)).getD .n)
def Ax:(tlP ws T).map (·.1)=(ws.map (·.nm)).map sk:=by unfold tlP;rw[S4,S4];rfl
theorem gq{g:Wk->PV}:∀{us:List Wk},Bw (us.map λw=>.t [.s w.nm,g w])=some (us.map λw=>(sk w.nm,g w))
 |[]=>rfl
 |w::us=>by show(Bw (us.map λw=>.t [.s w.nm,g w])).map ((sk w.nm,g w)::·)=_;rw[gq];rfl
abbrev cSt(ws:List Wk)(b:Int)(c t:Option HV):ZY:=[some (.v (wsP ws)),some (.v (.i b)),c,t]
def Ay(hz:∀w∈ws,w.nm.length<=1000)(h:dv ws=none):Ke (hP [true] (zf ym (zb (zc 0) zk))) (cSt ws i c t) G=.nx (cSt ws i c t) G:=
 WO (iV rfl (zr rfl ((WN hz).1 h)))
def Vp(h:dv ws=none)(d:b<=1000000000)(c:q (cSt ws b (some (.v (.d (chP (chL ws))))) none) G=o):Yo (Ke (hP [true] (zf ym (zb (zc 0) zk)))) (Yo (Ke (hP [false,true] (zf zw (zb (zc 1) (zb (mC (.i 0)) zk))))) (Yo (Vz 2 (hP [true] (zf yi (zb (zc 0) zk)))) q)) (cSt ws b none none) G=o:=by have f:=ZV h;have hz:∀w∈ws,w.nm.length<=1000:=λw a=>P8 (f.z w a) (by decide);refine yq (Ay hz h) (yq (WO (iV rfl (zr rfl (KG ?_)))) (yq (ky (iV rfl (zr rfl (An f.nd (by have:=f.l;omega))))) c));unfold oob;omega
def Ex(h:dv ws=none)(a:b<=1000000000)(c:noN (chL ws)=some z):jG [.v (wsP ws),.v (nI b)] G=.exc 5 [("name",.s z)] G:=by have e:=eE (BP (ZV h).nd);rw[c]at e;exact i7 (Vp h a (i6 (eG (BX rfl (KD rfl e)))))
def Ey(h:dv ws=none)(hb:b<=1000000000)(hn:noN (chL ws)=none)(hG:Rdy G):((∀f l,f<=l->l<=6->¬Crd (chL ws) b f l)/\∃G',Rdy G'/\jG [.v (wsP ws),.v (nI b)] G=.ok (.v (.d (tlP ws (Tn (chL ws) b 7)))) G')\/∃f l,f<=l/\l<=6/\Crd (chL ws) b f l/\jG [.v (wsP ws),.v (nI b)] G=.exc 6 (crX (chL ws) f l) G:=by
 have fn:=ZV h;have w:=fn.win hn;have hl:=P8 sY fn.l;have e:=eE w.nd;rw[hn]at e;have s4:Ke (hP [false,false,true] (zf yO (zb (zc 2) zk))) (cSt ws b (some (.v (.d (chP (chL ws))))) none) G=_:=WO (iV rfl (zr rfl e));rcases sV w.nd w.ne (by omega)with⟨nc,ec⟩|⟨f,l,h1,h2,h3,ec⟩
 .refine .inl ⟨nc,?_⟩;obtain⟨G',es,r',t'⟩:=Av w hl hG;have s5:Ke (hP [false,true,true] (zf yD (zb (zc 2) (zb (zc 1) zk)))) (cSt ws b (some (.v (.d (chP (chL ws))))) none) G=_:=WO (iV rfl (zr rfl ec));have s6:Vz 3 (fU Kv (Qz (Ud 2) (Qz (Ud 1) uj))) (cSt ws b (some (.v (.d (chP (chL ws))))) none) G=.nx (cSt ws b (some (.v (.d (chP (chL ws))))) (some (.g G.length))) G':=ky (i8 rfl es);refine⟨G',r',X5 (Vp h hb (yq s4 (yq s5 (yq s6 (gm ?_)))))⟩;have sx:Ug G' [true,false,false,true] (cSt ws b (some (.v (.d (chP (chL ws))))) (some (.g G.length)))=some [some (wsP ws),none,none,some (.d (tdP (Tn (chL ws) b 7)))]:=Nu rfl (Nt (Nt (Nu (by
   show(G'[G.length]?).bind Dt=_;rw[t'];show(iA (vK (tdP (Tn (chL ws) b 7)))).map PV.d=_;rw[BY];rfl) Od)))
  have e2:=vm (g:=dU) (e:=dW) wkP (λw=>.t [.s w.nm,(qB (tdP (Tn (chL ws) b 7)) (sk w.nm)).getD .n]) (λρ=>∃a b' c d,ρ=[a,b',c,d,some (.d (tdP (Tn (chL ws) b 7)))]) ws [none,none,none,none,some (.d (tdP (Tn (chL ws) b 7)))] ⟨_,_,_,_,rfl⟩ (λw hw ρ ⟨_,_,_,_,ez⟩=>by
   subst ez;exact⟨_,rfl,⟨_,_,_,_,rfl⟩,sO (zx rfl (zx rfl rfl)) (S6 rfl)⟩) (by have:=fn.l;omega)
  have ed:Yv [.l (ws.map λw=>.t [.s w.nm,(qB (tdP (Tn (chL ws) b 7)) (sk w.nm)).getD .n])]=.ok (.d (tlP ws (Tn (chL ws) b 7))):=by show wD ((Bw (ws.map λw=>.t [.s w.nm,(qB (tdP (Tn (chL ws) b 7)) (sk w.nm)).getD .n])).map λes=>PV.d (Xh es))=_;rw[gq];show Out.ok (PV.d (Xh (tlP ws (Tn (chL ws) b 7))))=_;unfold Xh;rw[i9 (by rw[a1J,Ax];exact mR fn.nd)];rfl
  unfold hW;rw[sx];dsimp only;rw[zr (zx (Ym (yk rfl) e2) rfl) ed]
 .exact .inr ⟨f,l,h1,h2,h3,i7 (Vp h hb (yq s4 (i6 (eG (BX rfl (KD rfl ec))))))⟩
end
def i_{K:Oj}(a:K.Nodup){k:Nat}(b:k<K.length):K[k]∉K.take k:=λq=>by rw[<- a1r k K]at a;exact(a0Q.mp a).2.2 _ q K[k] (by rw[a0G b];exact O7) rfl
def ML{N:Oj}{k:Nat}(h:k<N.length):pIx (.l (N.map .s)) (nI k)=.ok (.s N[k]):=by rw[d9 (by omega) (by grind),a0s];rfl
def cw_mem(h:z∈cw C f l):∃p∈C,p.1=z/\f<=fst p.2/\lst p.2<=l:=by unfold cw at h;obtain⟨p,hp,e⟩:=O9.mp h;obtain⟨b,a⟩:=a0l.mp hp;rw[S8,T7,T7]at a;exact⟨p,b,e,a⟩
def cw_nd(a:(C.map (·.1)).Nodup):(cw C f l).Nodup:=by exact a.sublist (List.filter_sublist.map _)
section
variable {C:Ch}{b:Nat}{ws us:List Wk}{T:OR}{w:Wk}
def Ez:qB (tdP T) (sk z)=(qB T z).map nI:=by
 unfold tdP
 induction T with
 |nil=>rfl
 |cons p T a=>
  rw[R7,qj,qj];by_cases c:p.1=z
  .rw[if_pos c,if_pos (by rw[c])];rfl
  .rw[if_neg c,if_neg (λh=>c (a1h h)),a]
def cnt(T:OR)(us:List Wk)(n:Nat):Nat:=(us.filter λw=>qB T w.nm==some n).length
def Tld(C:Ch)(T:OR)(w:Wk):Prop:=(w.nm∉C.map (·.1)/\qB T w.nm=none)\/∃n l,n<7/\(w.nm,l)∈C/\n∈l/\qB T w.nm=some n
def ny.told(f:ny ws)(h:noN (chL ws)=none)(m:∀f l,f<=l->l<=6->¬Crd (chL ws) b f l):∀w∈ws,Tld (chL ws) (Tn (chL ws) b 7) w:=λw v=>by
 have W:=f.win h;by_cases c:w.nm∈(chL ws).map (·.1)
 .obtain⟨p,hp,j⟩:=O9.mp c;have r:=W.all m hp;obtain⟨t,d,a⟩:=O9.mp r;have u:qB (Tn (chL ws) b 7) w.nm=some t.2:=yV (Ap W.nd) (by
   rw[<- j,<- show t.1=p.1 from a];exact d)
  obtain⟨s,y,i,g⟩:=mS d;obtain⟨q,x,o⟩:=VP.mp (U_ i);refine .inr ⟨t.2,y.2,s,?_,o,u⟩;rw[<- j,<- show t.1=p.1 from a,<- g];exact q
 .refine .inl ⟨c,?_⟩;cases e:qB (Tn (chL ws) b 7) w.nm with
  |none=>rfl
  |some n=>obtain⟨_,y,i,g⟩:=mS (Qt e);exact absurd (O9.mpr ⟨y,(VP.mp (U_ i)).1,g⟩) c
def Ig(a:(ws.map (·.nm)).Nodup):cnt (Tn C b 7) ws n<=b:=by
 have:((ws.filter λw=>qB (Tn C b 7) w.nm==some n).map (·.nm)).length<=((Pn C b n).map (·.1)).length:=Zn (a.sublist (List.filter_sublist.map _)) λz hz=>by obtain⟨w,c,e⟩:=O9.mp hz;have f:=a0b.mp (a0l.mp c).2;obtain⟨_,y,d,g⟩:=mS (Qt f);exact O9.mpr ⟨y,d,g.trans e⟩
 rw[u8,u8]at this;exact P8 this HY
end
def uo{a:Type}[DecidableEq a](acc:List a)(k:a):List a:=if k∈acc then acc else acc++[k]
def Az{ks:OV}:∀{b:OV}{k:Key},k∈ks.foldl uo b↔k∈b\/k∈ks:=by
 induction ks with
 |nil=>intro b k;simp
 |cons a ks c=>
  intro b k;rw[a00,c,P7];unfold uo;split
  .rename_i h;exact⟨λz=>z.imp id .inr,λz=>z.elim .inl λz=>z.elim (λe=>.inl (e▸h)) .inr⟩
  .rw[a0q,T6,or_assoc]
def EA{ks:OV}:∀{b:OV},b.Nodup->(ks.foldl uo b).Nodup:=by
 induction ks with
 |nil=>exact λh=>h
 |cons a ks d=>
  intro b h;refine d ?_;unfold uo;split
  .exact h
  .rename_i f;exact a0Q.mpr ⟨h,a0r.mpr ⟨List.not_mem_nil,a1S⟩,λx g y c e=>f (by grind)⟩
def BZ:ddK ks=ks.foldl uo []:=rfl
def wZ:k∈ddK ks↔k∈ks:=by rw[BZ,Az];simp
def sZ:(ddK ks).Nodup:=EA a1S
def EB{ks:OV}:∀{acc:OV},(ks.foldl uo acc).length<=acc.length+ks.length:=by
 induction ks with
 |nil=>exact λ{acc}=>O2 _
 |cons k ks ih=>
  intro acc;rw[a00,O1];refine P8 ih ?_;unfold uo;split
  .omega
  .rw[P2];show acc.length+1+_<=_;omega
def AA{ks:OV}:∀{acc:OV},(ks.foldl uo acc).length=acc.length+ks.length↔ks.Nodup/\∀k∈ks,k∉acc:=by
 induction ks with
 |nil=>intro acc;simp
 |cons k ks ih=>
  intro acc;rw[a00,O1,a0r];by_cases h:k∈acc
  .have:=EB (ks:=ks) (acc:=acc);rw[show uo acc k=acc from if_pos h];exact⟨λe=>by omega,λz=>absurd h (z.2 k O7)⟩
  .rw[show uo acc k=acc++[k]from if_neg h];have:=ih (acc:=acc++[k]);rw[P2]at this;rw[show acc.length+(ks.length+1)=acc.length+[k].length+ks.length by show _=acc.length+1+_;omega,this];constructor
   .exact λ⟨a,b⟩=>⟨⟨λz=>b k z (R4 _ (T6.mpr rfl)),a⟩,λj hj=>by
     rcases P7.mp hj with rfl|hj
     .exact h
     .exact λz=>b j hj (a0A _ z)⟩
   .exact λ⟨⟨a,b⟩,c⟩=>⟨b,λj hj z=>by
     rcases a0q.mp z with z|z
     .exact c j (O6 _ hj) z
     .rw[T6.mp z]at hj;exact a hj⟩
def EC:(ddK ks).length=ks.length↔ks.Nodup:=by have:=AA (ks:=ks) (acc:=[]);rw[BZ];simpa using this
def skq(a b:OV):Bool:=eqD (ddK a) (ddK b)
def ED:skq a b=true↔∀k,k∈a↔k∈b:=by
 unfold skq;rw[rY];constructor
 .rintro ⟨g,f⟩ k
  refine⟨λh=>wZ.mp (f k (wZ.mpr h)),λh=>?_⟩;by_cases c:k∈ddK a
  .exact wZ.mp c
  .have:=iq (a0r.mpr ⟨c,sZ⟩) λx e=>by
    rcases P7.mp e with rfl|e
    .exact wZ.mpr h
    .exact f x e
   rw[O1]at this;omega
 .intro h;refine⟨a3C (iq sZ λk d=>?_) (iq sZ λk d=>?_),λk d=>wZ.mpr ((h k).mp (wZ.mp d))⟩
  .exact wZ.mpr ((h k).mp (wZ.mp d))
  .exact wZ.mpr ((h k).mpr (wZ.mp d))
def AB:DQ (a.map kP)=some a:=by
 induction a with
 |nil=>rfl
 |cons k a b=>
  rw[R7];cases k with
  |inl i=>show(DQ (a.map kP)).map _=_;rw[b];rfl
  |inr x=>show(DQ (a.map kP)).map _=_;rw[b];rfl
def Ih(h:kvs.length<=1000):Yz [.d kvs]=.ok (ddK (kvs.map (·.1))):=if_pos (by omega)
def B3(h:ks.length<=1000):Yz [.l (ks.map kP)]=.ok (ddK ks):=by unfold Yz;dsimp only;rw[AB];dsimp only;rw[if_pos (by omega)]
def EE(d:Yz [x]=.ok (ddK a))(c:Yz [y]=.ok (ddK b)):yY [x,y]=.ok (.b (skq a b)):=by refine zE (jZ ?_);unfold r0;show(Yz [x]).bind _=_;rw[d];show(Yz [y]).bind _=_;rw[c];rfl
def AD{ks:OV}(h:ks.length<=1000):qk [.l (ks.map kP)]=.ok (.b (decide ks.Nodup)):=by
 refine zE (jZ (zl (x:=.i (ddK ks).length) (zr rfl ?_) (zr rfl rfl) ?_))
 .show(Yz _).bind _=_;rw[B3 h];rfl
 .rw[C8,u8];have:decide (((ddK ks).length:Int)=(ks.length:Int))=decide ks.Nodup:=a0L.mpr ((by exact⟨λe=>by exact_mod_cast e,λe=>by exact_mod_cast e⟩:((ddK ks).length:Int)=(ks.length:Int)↔(ddK ks).length=ks.length).trans EC);rw[this,a0K]
abbrev To:=List (Str×Option Int)
def oI:Option Int->PV
 |none=>.n
 |some i=>.i i
def tvP(T:To):List (Key×PV):=T.map λp=>(sk p.1,oI p.2)
abbrev tg(T:To)(z:Str):Option Int:=(qB T z).join
abbrev nms(ws:List Wk):List Str:=ws.map (·.nm)
def s_:(tvP T).map (·.1)=(T.map (·.1)).map sk:=by unfold tvP;rw[S4,S4];rfl
def B4:qB (tvP T) (sk z)=(qB T z).map oI:=by
 unfold tvP
 induction T with
 |nil=>rfl
 |cons p T a=>
  rw[R7,qj,qj];by_cases c:p.1=z
  .rw[if_pos c,if_pos (by rw[c])];rfl
  .rw[if_neg c,if_neg (λh=>c (a1h h)),a]
def Ii(h:z∈T.map (·.1)):pIx (.d (tvP T)) (.s z)=.ok (oI (tg T z)):=by obtain⟨o,e⟩:=a0v.mp (J_.mpr h);show pIx (.d (tvP T)) (kP (sk z))=_;rw[Ej,B4,e];show Out.ok (oI o)=.ok (oI (qB T z).join);rw[e];rfl
def inB(o:OT)(l:Og):Bool:=match o with
 |none=>false
 |some i=>l.any λk=>decide ((k:Int)=i)
theorem Ij{i:Int}:∀{l:Og},inP (.int i) (l.map nI)=some (l.any λk=>decide ((k:Int)=i))
 |[]=>rfl
 |k::l=>by show(match toV (nI k),inP (.int i) (l.map nI)with|some u,some b=>some (eqV u (.int i)||b)|_,_=>none)=_;rw[Ij];show some ((k==i)||_)=some (decide _||_);rw[Js]
theorem Ik:∀{l:Og},inP .non (l.map nI)=some false
 |[]=>rfl
 |k::l=>by show(match toV (nI k),inP .non (l.map nI)with|some u,some b=>some (eqV u .non||b)|_,_=>none)=_;rw[Ik];rfl
def Il:pIn n (oI o) (ntP l)=.ok (.b (xor n (inB o l))):=by
 cases o with
 |none=>show wD (((toV PV.n).bind λv=>inP v (l.map nI)).map λb=>PV.b (xor n b))=_;rw[show toV PV.n=some V.non from rfl,a1U,Ik];rfl
 |some i=>show wD (((toV (PV.i i)).bind λv=>inP v (l.map nI)).map λb=>PV.b (xor n b))=_;rw[show toV (PV.i i)=some (V.int i)from rfl,a1U,Ij];rfl
def nhB(w:Wk)(o:OT):Bool:=if need w=true then inB o (ntW w)else o.isNone
def cn(T:To)(ws:List Wk)(n:Nat):Nat:=(ws.filter λw=>tg T w.nm==some (n:Int)).length
structure Cd(ws:List Wk)(B:Int)(T:To):Prop where
 k:∀z,z∈nms ws↔z∈T.map (·.1)
 h:∀w∈ws,nhB w (tg T w.nm)=true
 c:∀n,n<7->(cn T ws n:Int)<=B
def B5:Be n (oI o) .n=.ok (.b (xor n o.isNone)):=by cases o<;>rfl
def AE:qx [.i w.m,.i w.d,lsP w.ls,oI o]=.ok (.b (nhB w o)):=by
 have c:zQ (zf yC (zb (zc 0) (zb (zc 1) (zb (zc 2) zk)))) [some (.i w.m),some (.i w.d),some (lsP w.ls),some (oI o)]=.ok (need w):=zP (zr rfl bG);unfold nhB;cases h:need w with
 |true=>rw[h]at c;rw[if_pos rfl];exact zE (qi ((yp c).trans (jZ (zl rfl (zr rfl X3) (Il.trans (by rw[a0K]))))))
 |false=>rw[h]at c;rw[if_neg P0];exact zE (zd ⟨_,(yp c).trans rfl,jZ (zl rfl rfl (B5.trans (by rw[a0K])))⟩)
def Im(h:m1 ρ=.ok (.nx ρ')):f7 cs m1 m2 ρ=.ok (.nx ρ'):=by unfold f7;rw[h]
def tD(h:m1 ρ=.exc c fs)(b:c∈cs)(a:m2 ρ=.ok (.rt x)):f7 cs m1 m2 ρ=.ok (.rt x):=by unfold f7;rw[h];dsimp only;rw[if_pos b,a]
def bL(h:ms ρ=.ok xs)(a:g xs=.ok x):QG (QE g ms) ρ=.ok (.nx ρ):=by unfold QG QE;rw[h];show(g xs).bind _=_;rw[a];rfl
def eJ(h:ms ρ=.ok xs)(a:g xs=.exc c fs):QG (QE g ms) ρ=.exc c fs:=by unfold QG QE;rw[h];show(g xs).bind _=_;rw[a];rfl
def Io:∀{r:Rf},(rE r).1∈[1,2,3,4,5,6]
 |.bad _=>(by decide:1∈[1,2,3,4,5,6])
 |.num _=>(by decide:2∈[1,2,3,4,5,6])
 |.many=>(by decide:3∈[1,2,3,4,5,6])
 |.two _=>(by decide:4∈[1,2,3,4,5,6])
section
variable {us:List Wk}{B:Int}(hz:∀w∈us,w.nm.length<=1000)
include hz
def B6(h:dv us=none)(a:¬oob B):zN [wsP us,.i B]=.ok (.b true):=
 zE (zd ⟨_,Im (zd ⟨_,bL rfl ((WN hz).1 h),bL rfl (KG a)⟩),rfl⟩)
def B7(h:dv us≠none\/oob B):zN [wsP us,.i B]=.ok (.b false):=by
 cases e:dv us with
 |some r=>exact zE (qi (tD (jH (eJ rfl ((WN hz).2 r e))) Io rfl))
 |none=>exact zE (qi (tD (zd ⟨_,bL rfl ((WN hz).1 e),eJ rfl (X0 (h.resolve_left λz=>z e))⟩) (by decide:2∈[1,2,3,4,5,6]) rfl))
end
def cT(T:To)(n:Nat):Nat:=T.countP λp=>p.2==some (n:Int)
theorem Ip{n:Nat}:∀{T:To},BH (.int n) (T.map λp=>oI p.2)=some (cT T n)
 |[]=>rfl
 |p::T=>by
  show(match toV (oI p.2),BH (.int n) (T.map λp=>oI p.2)with|some u,some k=>some (k+if eqV u (.int n)=true then 1 else 0)|_,_=>none)=_;rw[Ip];unfold cT;rw[a2p];cases h:p.2 with
  |none=>rfl
  |some i=>rfl
def Iq(l:(nms us).Nodup)(nt:(T.map (·.1)).Nodup)(j:∀z,z∈nms us↔z∈T.map (·.1)):cT T n=cn T us n:=by
 unfold cT cn;rw[List.countP_eq_length_filter,<- u8,<- u8 (f:=λw:Wk=>w.nm) (as:=us.filter _)];have a:((T.filter λp=>p.2==some (n:Int)).map (·.1)).Nodup:=nt.sublist (List.filter_sublist.map _);have b:((us.filter λw=>tg T w.nm==some (n:Int)).map (·.nm)).Nodup:=l.sublist (List.filter_sublist.map _);refine a3C (Zn a λz h=>?_) (Zn b λz h=>?_)
 .obtain⟨p,hp,rfl⟩:=O9.mp h;obtain⟨g,i⟩:=a0l.mp hp;obtain⟨w,d,e⟩:=O9.mp ((j p.1).mpr (O9.mpr ⟨p,g,rfl⟩));refine O9.mpr ⟨w,a0l.mpr ⟨d,?_⟩,e⟩;show(qB T w.nm).join==_;rw[show w.nm=p.1 from e,yV nt (show(p.1,p.2)∈T from g)];exact i
 .obtain⟨w,d,rfl⟩:=O9.mp h;obtain⟨g,i⟩:=a0l.mp d;have c:=a0b.mp i;cases e:qB T w.nm with
  |none=>rw[show tg T w.nm=_ from R9 Option.join e]at c;cases c
  |some o=>rw[show tg T w.nm=_ from R9 Option.join e]at c;exact O9.mpr ⟨(w.nm,o),a0l.mpr ⟨Qt e,by rw[show o=_ from c];exact a1B _⟩,rfl⟩
section
variable {us:List Wk}{B:Int}{T:To}(hz:∀w∈us,w.nm.length<=1000)
include hz
def KI(h:dv us≠none\/oob B):yd [wsP us,.i B,.d (tvP T)]=.ok (.b false):=
 zE (qi ((yp (jv (zP (zr rfl (B7 hz h))))).trans rfl))
def bM(h:dv us=none)(J:¬oob B)(nt:(T.map (·.1)).Nodup)(lt:T.length<=1000):∃b,yd [wsP us,.i B,.d (tvP T)]=.ok (.b b)/\(b=true↔Cd us B T):=by
 have f:=ZV h;have A:V9 (zQ (zf zN (zb (zc 0) (zb (zc 1) zk)))) [some (wsP us),some (.i B),some (.d (tvP T)),none]=.ok false:=jv (zP (zr rfl (B6 hz h J)));have G:=vm (g:=vy) (e:=vz) wkP (λw=>.s w.nm) (λj=>∃a b c d,j=[a,b,c,d]) us [none,none,none,none] ⟨_,_,_,_,rfl⟩ (λw C j ⟨_,_,_,_,o⟩=>by
  subst o;exact⟨_,rfl,⟨_,_,_,_,rfl⟩,rfl⟩) (by have:=f.l;omega)
 have same:=EE (B3 (ks:=(nms us).map sk) (by rw[u8,u8];have:=f.l;omega)) (Ih (kvs:=tvP T) (by unfold tvP;rw[u8];omega));rw[s_]at same;have q:=jv (zP (m:=zf yY (zb (mLC (z8 (zc 0)) [none,none,none,none] vy YW vz) (zb (zc 2) zk))) (ρ:=[some (wsP us),some (.i B),some (.d (tvP T)),none]) (zr (zx (Ym (yk rfl) (G.trans (show _=Out.ok (PV.l (((nms us).map sk).map kP)) by rw[S4,S4];rfl))) rfl) same));have D:skq ((nms us).map sk) ((T.map (·.1)).map sk)=true↔∀z,z∈nms us↔z∈T.map (·.1):=by
  have m:∀{l:Oj}{z:Str},sk z∈l.map sk↔z∈l:=λ{l z}=>⟨λh=>by obtain⟨y,I,e⟩:=O9.mp h;cases e;exact I,λh=>O9.mpr ⟨z,h,rfl⟩⟩;rw[ED];refine⟨λh z=>m.symm.trans ((h (sk z)).trans m),λh k=>?_⟩;cases k with
  |inl i=>exact⟨λh=>(by obtain⟨y,_,e⟩:=O9.mp h;cases e),λh=>(by obtain⟨y,_,e⟩:=O9.mp h;cases e)⟩
  |inr z=>exact m.trans ((h z).trans m.symm)
 cases eq:skq ((nms us).map sk) ((T.map (·.1)).map sk)with
 |false=>rw[eq]at q;exact⟨false,zE (zd ⟨_,(yp A).trans rfl,qi ((yp q).trans rfl)⟩),⟨λe=>(by cases e),λH=>by rw[D.mpr H.k]at eq;cases eq⟩⟩
 |true=>
  rw[eq]at q;have u:=D.mp eq;have E:=vm (g:=vA) (e:=vB) wkP (λw=>.b (nhB w (tg T w.nm))) (λj=>∃a b c d,j=[a,b,c,d,some (.d (tvP T))]) us [none,none,none,none,some (.d (tvP T))] ⟨_,_,_,_,rfl⟩ (λw C j ⟨_,_,_,_,o⟩=>by
   subst o;exact⟨_,rfl,⟨_,_,_,_,rfl⟩,zr (zx rfl (zx rfl (zx rfl (zx (zl rfl rfl (Ii ((u w.nm).mp (O9.mpr ⟨w,C,rfl⟩)))) rfl)))) AE⟩) (by have:=f.l;omega)
  have s:=jv (zP (m:=zf uf (zb (mLC (z8 (zc 0)) [none,none,none,none,some 2] vA YX vB) zk)) (ρ:=[some (wsP us),some (.i B),some (.d (tvP T)),none]) (zr (zx (Ym (yk rfl) E) rfl) WD));cases r:us.all λw=>nhB w (tg T w.nm)with
  |false=>rw[r]at s;exact⟨false,zE (zd ⟨_,(yp A).trans rfl,zd ⟨_,(yp q).trans rfl,qi ((yp s).trans rfl)⟩⟩),⟨λe=>(by cases e),λH=>by rw[a0d.mpr H.h]at r;cases r⟩⟩
  |true=>
   rw[r]at s;have F:=vm (g:=YY) (e:=YZ) nI (λn=>.b (decide ((cT T n:Int)<=B))) (λj=>∃a,j=[a,some (.l (T.map λp=>oI p.2)),some (.i B)]) (List.range 7) [none,some (.l (T.map λp=>oI p.2)),some (.i B)] ⟨_,rfl⟩ (λn t j ⟨_,o⟩=>by
    subst o;exact⟨_,rfl,⟨_,rfl⟩,zl (show wD (((toV (nI n)).bind λv=>BH v (T.map λp=>oI p.2)).map λ(k:Nat)=>PV.i k)=_ by
     rw[show toV (nI n)=some (V.int n)from rfl,a1U,Ip];rfl) rfl rfl⟩) (S6 rfl)
   refine⟨(List.range 7).all λn=>decide ((cT T n:Int)<=B),zE (zd ⟨_,(yp A).trans rfl,zd ⟨_,(yp q).trans rfl,zd ⟨_,(yp s).trans rfl,zd ⟨_,zH (show Out.ok (PV.l ((tvP T).map (·.2)))=_ by unfold tvP;rw[S4];rfl),jZ (zr (zx (Ym (Fd rfl) F) rfl) WD)⟩⟩⟩⟩),?_⟩;rw[a0d];constructor
   .exact λH=>⟨u,a0d.mp r,λn t=>by rw[<- Iq f.nd nt u];exact a0P (H n (a0a.mpr t))⟩
   .exact λH n t=>O5 (by rw[Iq f.nd nt u];exact H.c n (a0a.mp t))
end
def chk{σ a:Type}(f:σ->a->σ)(c:σ->a->Bool):σ->List a->Bool
 |_,[]=>true
 |u,x::b=>c u x&&chk f c (f u x) b
def gr(a:g x ρ=some ρ1)(c:b ρ1=.ok (.nx ρ2)):j9 g b (x::xs) ρ=j9 g b xs ρ2:=by rw[j9,a];show((b ρ1).bind _)=_;rw[c];rfl
def EF(a:g x ρ=some ρ1)(c:b ρ1=.ok (.rt v)):j9 g b (x::xs) ρ=.ok (.rt v):=by rw[j9,a];show((b ρ1).bind _)=_;rw[c];rfl
theorem WQ{σ l:Type}{g:MG}{b:MS}(m:l->PV)(J:σ->Sto->Prop)(f:σ->l->σ)(c:σ->l->Bool):∀(i:List l)(u:σ)(a:Sto),J u a->
  (∀x∈i,∀u a,J u a->∃e,g (m x) a=some e/\((c u x=true/\∃d,J (f u x) d/\b e=.ok (.nx d))\/(c u x=false/\b e=.ok (.rt (.b false)))))->
  (chk f c u i=true/\∃j,J (i.foldl f u) j/\j9 g b (i.map m) a=.ok (.nx j))\/(chk f c u i=false/\j9 g b (i.map m) a=.ok (.rt (.b false)))
 |[],u,a,h,_=>.inl ⟨rfl,a,h,rfl⟩
 |x::i,u,a,h,p=>by
  obtain⟨e,q,t⟩:=p x O7 u a h;rw[R7];unfold chk;rcases t with⟨n,d,r,o⟩|⟨n,o⟩
  .rw[gr q o,n];exact WQ m J f c i (f u x) d r λy s=>p y (O6 _ s)
  .rw[EF q o,n];exact .inr ⟨rfl,rfl⟩
def tE(h:m ρ=.ok x)(a:g x ρ=some ρ'):xf g m ρ=.ok (.nx ρ'):=by unfold xf;rw[h,okb,a];rfl
def bN(c:ρ[i]?=some (some (.l xs)))(a:mv ρ=.ok v)(b:mk ρ=.ok (nI j))(d:j<xs.length):Uk i mk mv ρ=.ok (.nx (ρ.set i (some (.l (xs.set j v))))):=by unfold Uk;rw[a,okb,c];dsimp only;rw[b,okb];dsimp only;rw[F9 (by omega) (by omega)];rw[a0t]
def la(h:ρ[i]?=some (some (.l xs)))(b:m ρ=.ok y)(a:xs.length<100000):nk i m ρ=.ok (.nx (ρ.set i (some (.l (xs++[y]))))):=by unfold nk;rw[h];show(m ρ).bind _=_;rw[b,okb,if_pos (R8 a (by decide))]
theorem AF{σ a:Type}{f:σ->a->σ}{c:a->Bool}:∀{b:List a}{u:σ},chk f (λ_ x=>c x) u b=b.all c
 |[],_=>rfl
 |x::b,u=>by unfold chk;rw[AF,a0W]
theorem eK{b:Type}:∀{a done:List b},a.foldl (λd w=>d++[w]) done=done++a
 |[],done=>(a0h _).symm
 |x::a,done=>by rw[a00,eK,a0H];rfl
theorem Y8{w:Wk}:∀(a l:Og)(o:OQ),l.length+a.length<=1000->∃b,j9 QL QM (a.map nI) [some (wkP w),some (.s w.nm),some (.i w.m),some (.i w.d),some (lsP w.ls),some (ntP l),o]=.ok (.nx [some (wkP w),some (.s w.nm),some (.i w.m),some (.i w.d),some (lsP w.ls),some (ntP (l++a.filter (um w.m w.d w.ls))),b])
 |[],l,o,_=>⟨o,by rw[List.filter_nil,a0h];rfl⟩
 |k::a,l,o,d=>by
  have c:=QU (zP (m:=mOp pLe (mOp zA (zc 2) (zf Wb (zb (mSl pSl (zc 4) Wc (qW (mOp zA (zc 6) (mC (.i 1))))) zk))) (zc 3)) (ρ:=[some (wkP w),some (.s w.nm),some (.i w.m),some (.i w.d),some (lsP w.ls),some (ntP l),some (nI k)]) (zl (bF rfl rfl rfl) rfl rfl)) (zP (m:=mOp pLe (zf Wb (zb (mSl pSl (zc 4) (qW (mOp zA (zc 6) (mC (.i 1)))) Wc) zk)) (zc 3)) (zl (X2 rfl rfl) rfl rfl));rw[O1]at d;rw[R7,a06];cases e:um w.m w.d w.ls k with
  |true=>
   rw[show(decide (w.m+(w.ls.take (k+1)).sum<=w.d)&&decide ((w.ls.drop (k+1)).sum<=w.d))=true from e]at c;obtain⟨b,q⟩:=Y8 a (l++[k]) (some (nI k)) (by rw[P2];show l.length+1+_<=_;omega);rw[a0H]at q;have f:nk 5 (zc 6) [some (wkP w),some (.s w.nm),some (.i w.m),some (.i w.d),some (lsP w.ls),some (ntP l),some (nI k)]=.ok (.nx [some (wkP w),some (.s w.nm),some (.i w.m),some (.i w.d),some (lsP w.ls),some (ntP (l++[k])),some (nI k)]):=
    (la rfl rfl (by rw[u8];omega)).trans (by rw[show l.map nI++[nI k]=(l++[k]).map nI by rw[T5];rfl];rfl)
   exact⟨b,(gr rfl ((WL c).trans f)).trans q⟩
  |false=>rw[show(decide (w.m+(w.ls.take (k+1)).sum<=w.d)&&decide ((w.ls.drop (k+1)).sum<=w.d))=false from e]at c;obtain⟨b,q⟩:=Y8 a l (some (nI k)) (by omega);exact⟨b,(gr rfl ((yp c).trans rfl)).trans q⟩
def Zo:zO [wkP w]=.ok (ntP (ntW w)):=by obtain⟨a,q⟩:=Y8 (List.range 7) [] none (S6 rfl);exact zE (zd ⟨_,rfl,zd ⟨_,zH (Yn rfl (a0c _)),zd ⟨_,kJ (Fd rfl) q,rfl⟩⟩⟩)
def lh(h:m ρ=.ok (wkP w)):zQ (mOp pLe (mOp zA (mOp pIx m (mC (.i 1))) (zf Wb (zb (mOp pIx m (mC (.i 3))) zk))) (mOp pIx m (mC (.i 2)))) ρ=.ok (!need w):=by
 refine zP (zl (zl (zl h rfl rfl) (zr (zx (zl h rfl rfl) rfl) UT) rfl) (zl h rfl rfl) ?_);show Out.ok (PV.b (decide (w.m+w.ls.sum<=w.d)))=.ok (.b (!decide (w.m+w.ls.sum>w.d)));by_cases c:w.m+w.ls.sum<=w.d
 .rw[O5 c,O4 (by omega)];rfl
 .rw[O4 c,O5 (by omega)];rfl
def tkO(T:To)(us:List Wk):List Int:=(List.range 7).map λn=>(cn T us n:Int)
def JI:(tkO T us).length=7:=by unfold tkO;rw[u8,a0p]
def gu(a:n<7):(tkO T us)[n]?=some (cn T us n:Int):=by unfold tkO;rw[S5,List.getElem?_range a];rfl
def B8:cn T (us++[w]) n=cn T us n+if tg T w.nm=some (n:Int)then 1 else 0:=by
 unfold cn;rw[a4u,P2];congr 1;rw[a06,List.filter_nil];by_cases c:tg T w.nm=some (n:Int)
 .rw[if_pos c,if_pos (a0b.mpr c)];rfl
 .rw[if_neg c,if_neg (λh=>c (a0b.mp h))];rfl
def AG{T:To}{us:List Wk}{w:Wk}{n:Nat}(h:tg T w.nm=some (n:Int))(b:n<7):(tkO T us).set n ((cn T us n:Int)+1)=tkO T (us++[w]):=by
 refine List.ext_getElem? λi=>?_;by_cases a:i<7
 .rw[gu a,B8,h];by_cases c:n=i
  .subst c;rw[T8 (by rw[JI];exact b),if_pos rfl];rfl
  .rw[S9 c,gu a,if_neg (λe=>c (by have:=a0e e;omega))];rfl
 .rw[a2w (by rw[a0i,JI];omega),a2w (by rw[JI];omega)]
def AI(h:tg T w.nm=none):tkO T (us++[w])=tkO T us:=by unfold tkO;refine a0T λn _=>?_;rw[B8,h,if_neg (λe=>by cases e)];rfl
theorem tF:∀{a b:Oj},cX (Wa 7) (a.map PV.s) (b.map PV.s)=some (decide (a=b))
 |[],[]=>rfl
 |[],_::_=>rfl
 |_::_,[]=>rfl
 |x::a,y::b=>by
  show Gk (some (x==y)) (cX (Wa 7) (a.map PV.s) (b.map PV.s))=_;rw[tF];show some ((x==y)&&decide (a=b))=_;rw[Js];by_cases c:x=y
  .subst c;rw[O5 rfl,a1s];exact R9 some (a0L.mpr ⟨λh=>by rw[h],λh=>(a1H h).2⟩)
  .rw[O4 c,O4 λh=>c (a1H h).1];rfl
theorem ll:∀{T:To},fZ (tvP T)=some (T.map (·.1))
 |[]=>rfl
 |p::T=>by show(fZ (tvP T)).map (p.1::·)=_;rw[ll];rfl
def AJ(na:a.Nodup)(c:b.Nodup):qQ a=qQ b↔∀z,z∈a↔z∈b:=by rw[<- List.perm_ext_iff_of_nodup na c];refine⟨λh=>((a1E a leS).symm.trans (List.Perm.of_eq h)).trans (a1E b leS),rJ⟩
section
variable {ws:List Wk}{B:Int}{T:To}
abbrev oSt(ws:List Wk)(B:Int)(T:To)(t a b:OQ):Sto:=[some (wsP ws),some (.i B),some (.d (tvP T)),t,a,b]
def AK(h:inB o l=true):∃k∈l,o=some (k:Int):=by
 cases o with
 |none=>cases h
 |some i=>obtain⟨k,a,e⟩:=a3b.mp h;exact⟨k,a,by rw[a0P e]⟩
def gw(q:w.nm∈T.map (·.1)):∃d,ZM (wkP w) (oSt ws B T (some (.l ((tkO T done).map .i))) a b)=some d/\((nhB w (tg T w.nm)=true/\∃f,(∃a b,f=oSt ws B T (some (.l ((tkO T (done++[w])).map .i))) a b)/\vc d=.ok (.nx f))\/(nhB w (tg T w.nm)=false/\vc d=.ok (.rt (.b false)))):=by
 refine⟨_,rfl,?_⟩;have g:yH 5 (mOp pIx (zc 2) (mOp pIx (zc 4) (mC (.i 0)))) (oSt ws B T (some (.l ((tkO T done).map .i))) (some (wkP w)) b)=.ok (.nx (oSt ws B T (some (.l ((tkO T done).map .i))) (some (wkP w)) (some (oI (tg T w.nm))))):=zH (zl rfl (zl rfl rfl rfl) (Ii q));generalize ho:tg T w.nm=o at g ⊢;have e:=lh (m:=zc 4) (ρ:=oSt ws B T (some (.l ((tkO T done).map .i))) (some (wkP w)) (some (oI o))) rfl;unfold nhB;cases n:need w with
 |false=>
  rw[n]at e;rw[if_neg P0];have c:=zP (m:=mOp (Be true) (zc 5) (mC .n)) (ρ:=oSt ws B T (some (.l ((tkO T done).map .i))) (some (wkP w)) (some (oI o))) (zl rfl rfl B5);cases o with
  |none=>exact .inl ⟨rfl,_,⟨some (wkP w),some .n,by rw[AI ho];rfl⟩,zd ⟨_,g,(WL e).trans ((yp c).trans rfl)⟩⟩
  |some i=>exact .inr ⟨rfl,zd ⟨_,g,(WL e).trans ((WL c).trans rfl)⟩⟩
 |true=>
  rw[n]at e;rw[if_pos rfl];have c:=zP (m:=mOp (pIn true) (zc 5) (zf zO (zb (zc 4) zk))) (ρ:=oSt ws B T (some (.l ((tkO T done).map .i))) (some (wkP w)) (some (oI o))) (zl rfl (zr rfl Zo) Il);cases l:inB o (ntW w)with
  |false=>rw[l]at c;exact .inr ⟨rfl,zd ⟨_,g,(yp e).trans ((WL c).trans rfl)⟩⟩
  |true=>
   rw[l]at c;obtain⟨k,p,rfl⟩:=AK l;have h:=(eC.mp p).1;refine .inl ⟨rfl,_,⟨some (wkP w),some (nI k),rfl⟩,zd ⟨_,g,(yp e).trans ((yp c).trans ?_)⟩⟩;show Uk 3 (zc 5) (mOp zA (mOp pIx (zc 3) (zc 5)) (mC (.i 1))) (oSt ws B T (some (.l ((tkO T done).map .i))) (some (wkP w)) (some (nI k)))=_;refine(bN rfl (zl (x:=.i (cn T done k:Int)) (zl rfl rfl ?_) rfl rfl) rfl (by rw[u8,JI];exact h)).trans ?_
   .rw[d9 (a0D k) (by rw[u8,JI];omega),a0s];have:=gu (T:=T) (us:=done) h;rw[O3 (by rw[JI];exact h)]at this;exact R9 (λz=>Out.ok (PV.i z)) (a0e this)
   .rw[<- AG ho h,a4v];rfl
def tG(f:ny ws)(nt:(T.map (·.1)).Nodup)(lt:T.length<64):∃b,ql [wsP ws,.i B,.d (tvP T)]=.ok (.b b)/\(b=true↔Cd ws B T):=by
 have y:U0 [.d (tvP T)]=.ok (.l ((qQ (T.map (·.1))).map .s)):=by show(match fZ (tvP T)with|some j=>if j.length<64 then Out.ok (PV.l ((qQ j).map .s))else .wall|none=>.wall)=_;rw[ll];exact if_pos (by rw[u8];omega)
 have s2:Xm [.l ((nms ws).map .s)]=.ok (.l ((qQ (nms ws)).map .s)):=by show(match Dw ((nms ws).map .s)with|some j=>if j.length<64 then Out.ok (PV.l ((qQ j).map .s))else .wall|none=>.wall)=_;rw[iC];exact if_pos (by rw[u8];have:=f.l;omega)
 have A:=vm (g:=wV) (e:=wW) wkP (λw=>.s w.nm) (λc=>∃z,c=[z]) ws [none] ⟨_,rfl⟩ (λw s c ⟨_,C⟩=>by subst C;exact⟨_,rfl,⟨_,rfl⟩,zl rfl rfl rfl⟩) (by have:=f.l;omega);have h:zQ (mOp (yQ true) (zf U0 (zb (zc 2) zk)) (zf Xm (zb (mLC (z8 (zc 0)) [none] wV QN wW) zk))) (oSt ws B T none none none)=.ok (!decide (qQ (T.map (·.1))=qQ (nms ws))):=by
  refine zP (zl (zr rfl y) (zr (zx (Ym (yk rfl) (A.trans ?_)) rfl) s2) ?_)
  .rw[S4];rfl
  .rw[pD,tF];exact R9 (λz=>Out.ok (PV.b z)) (a1Z _)
 have i:=AJ nt f.nd;by_cases m:qQ (T.map (·.1))=qQ (nms ws)
 .rw[O5 m]at h;have u:=i.mp m;have r:yH 3 (kH (zb (mC (.i 0)) (zb (mC (.i 0)) (zb (mC (.i 0)) (zb (mC (.i 0)) (zb (mC (.i 0)) (zb (mC (.i 0)) (zb (mC (.i 0)) zk)))))))) (oSt ws B T none none none)=.ok (.nx (oSt ws B T (some (.l ((tkO T []).map .i))) none none)):=zH (Yn rfl (S6 rfl));have q:=WQ wkP (λdone c=>∃a b,c=oSt ws B T (some (.l ((tkO T done).map .i))) a b) (λd w=>d++[w]) (λ_ w=>nhB w (tg T w.nm)) ws [] (oSt ws B T (some (.l ((tkO T []).map .i))) none none) ⟨_,_,rfl⟩ λw s done c ⟨a,b,e⟩=>by subst e;exact gw ((u w.nm).mpr (O9.mpr ⟨w,s,rfl⟩))
  rw[AF,eK,a1J]at q;rcases q with⟨l,D,⟨a,b,e⟩,p⟩|⟨l,p⟩
  .subst e;have t:tkO T ws≠[]:=λe=>by have:=JI (T:=T) (us:=ws);rw[e]at this;cases this
   refine⟨decide (ng (tkO T ws)<=B),zE (zd ⟨_,(yp h).trans rfl,zd ⟨_,r,zd ⟨_,kJ (yk rfl) p,jZ (zl (zr rfl (Mb t)) rfl rfl)⟩⟩⟩),?_⟩;rw[T7];constructor
   .refine λv=>⟨λz=>(u z).symm,a0d.mp l,λn o=>a4n (fI (O9.mpr ⟨n,a0a.mpr o,rfl⟩)) v⟩
   .intro H;have:=aH t;generalize ng (tkO T ws)=x at this ⊢;unfold tkO at this;obtain⟨n,o,rfl⟩:=O9.mp this;exact H.c n (a0a.mp o)
  .exact⟨false,zE (zd ⟨_,(yp h).trans rfl,zd ⟨_,r,qi (kJ (yk rfl) p)⟩⟩),⟨λe=>(by cases e),λH=>by rw[a0d.mpr H.h]at l;cases l⟩⟩
 .rw[O4 m]at h;exact⟨false,zE (qi ((WL h).trans rfl)),⟨λe=>(by cases e),λH=>absurd (i.mpr λz=>(H.k z).symm) m⟩⟩
end
def Ir(c:a ρ=.ok true):mOr a b ρ=.ok true:=by unfold mOr;rw[c];rfl
structure Kd(ws:List Wk)(B f l:Int)(N:Oj):Prop where
 f0:0<=f
 fl:f<=l
 l6:l<=6
 nd:N.Nodup
 i:∀z∈N,∃w∈ws,w.nm=z/\need w=true/\∀n∈ntW w,f<=(n:Int)/\(n:Int)<=l
 c:B*(l-f+1)<(N.length:Int)
def mcB(w:Wk)(f l:Int):Bool:=need w&&(ntW w).all λn=>decide (f<=(n:Int))&&decide ((n:Int)<=l)
def bO:mcB w f l=true↔need w=true/\∀n∈ntW w,f<=(n:Int)/\(n:Int)<=l:=by unfold mcB;rw[S8,a0d];refine and_congr_right λ_=>forall_congr' λn=>imp_congr_right λ_=>?_;rw[S8,T7,T7]
def lq:(nt m d ls).length<=7:=by exact P8 (a0J _ _) (by simp)
def EG:yx [.i w.m,.i w.d,lsP w.ls,.i f,.i l]=.ok (.b (mcB w f l)):=by
 have c:V9 (zQ (zf yC (zb (zc 0) (zb (zc 1) (zb (zc 2) zk))))) [some (.i w.m),some (.i w.d),some (lsP w.ls),some (.i f),some (.i l)]=.ok (!need w):=jv (zP (zr rfl bG));unfold mcB;cases h:need w with
 |false=>rw[h]at c;exact zE (qi ((WL c)))
 |true=>
  rw[h]at c;have e:=vm (g:=jW) (e:=jX) nI (λn=>.b (decide (f<=n)&&decide (n<=l))) (λb=>∃a,b=[a,some (.i f),some (.i l)]) (ntW w) [none,some (.i f),some (.i l)] ⟨_,rfl⟩ (λn _ b ⟨_,d⟩=>by
   subst d;exact⟨_,rfl,⟨_,rfl⟩,My rfl rfl rfl⟩) (P8 lq (by decide))
  exact zE (zd ⟨_,(yp c),jZ (zr (zx (Ym (yk (zr rfl X3)) e) rfl) (WD.trans (by rw[a1s])))⟩)
def Iu(f:a ρ=.ok (.i x))(e:b ρ=.ok (.i y))(g:c ρ=.ok (.i z))(h:d ρ=.ok (.i u)):zQ (Xq pLe pLe pLt a b c d) ρ=.ok (decide (x<=y)&&(decide (y<=z)&&decide (z<u))):=by
 refine zP ?_;unfold Xq;rw[f,okb,e,okb];rw[show pLe (.i x) (.i y)=.ok (.b (decide (x<=y)))from rfl,okb];cases decide (x<=y)with
 |false=>rfl
 |true=>
  rw[g,okb];rw[show pLe (.i y) (.i z)=.ok (.b (decide (y<=z)))from rfl,okb];cases decide (y<=z)with
  |false=>rfl
  |true=>rw[h,okb];rfl
section
variable {us:List Wk}{B f l:Int}{N:Oj}
def QV(hz:∀w∈us,w.nm.length<=1000)(h:dv us≠none\/oob B):ya [wsP us,.i B,.i f,.i l,.l (N.map .s)]=.ok (.b false):=
 zE (qi ((WL (Ir (jv (zP (zr rfl (B7 hz h)))))).trans rfl))
def UE(hz:∀w∈us,w.nm.length<=1000)(h:dv us=none)(F:¬oob B)(M:N.length<=1000):∃b,ya [wsP us,.i B,.i f,.i l,.l (N.map .s)]=.ok (.b b)/\(b=true↔Kd us B f l N):=by
 have G:=ZV h;have p:=Vn (jv (zP (m:=zf zN (zb (zc 0) (zb (zc 1) zk))) (ρ:=[some (wsP us),some (.i B),some (.i f),some (.i l),some (.l (N.map .s)),none]) (zr rfl (B6 hz h F)))) (jv (Iu (a:=mC (.i 0)) (b:=zc 2) (c:=zc 3) (d:=mC (.i 7)) rfl rfl rfl rfl));rw[a2W,a2T]at p;cases o:(decide (0<=f)&&(decide (f<=l)&&decide (l<7)))with
 |false=>rw[o]at p;exact⟨false,zE (qi ((WL p).trans rfl)),⟨λe=>(by cases e),λH=>by rw[O5 H.f0,O5 H.fl,O5 (by have:=H.l6;omega)]at o;cases o⟩⟩
 |true=>
  rw[o]at p;rw[S8,S8,T7,T7,T7]at o;obtain⟨O,fl,P⟩:=o;have q:=ZA (g:=kj) (c:=kl) (e:=km) wkP (λw=>mcB w f l) (λw=>.s w.nm) (λj=>∃a b c d,j=[a,b,c,d,some (.i f),some (.i l)]) us [none,none,none,none,some (.i f),some (.i l)] [] ⟨_,_,_,_,rfl⟩ (λw _ j ⟨_,_,_,_,v⟩=>by
   subst v;exact⟨_,rfl,⟨_,_,_,_,rfl⟩,zP (zr rfl EG),λ_=>rfl⟩) (by have:=G.l;show 0+_<=_;omega)
  have q:lcP kj kl km (us.map wkP) [none,none,none,none,some (.i f),some (.i l)] []=.ok (.l (((us.filter λw=>mcB w f l).map (·.nm)).map .s)):=by rw[q,S4];rfl
  generalize hcr:(us.filter λw=>mcB w f l).map (·.nm)=cr at q;have L:=vm (g:=ko) (e:=kr) PV.s (λz=>.b (decide (z∈cr))) (λj=>∃a,j=[a,some (.l (cr.map .s))]) N [none,some (.l (cr.map .s))] ⟨_,rfl⟩ (λz _ j ⟨_,v⟩=>by
   subst v;exact⟨_,rfl,⟨_,rfl⟩,zl rfl rfl (HP.trans (by rw[a0K]))⟩) (by omega)
  have E:=AD (ks:=N.map sk) (by rw[u8];exact M);rw[show(N.map sk).map kP=N.map PV.s by rw[S4];rfl]at E;have t:decide (N.map sk).Nodup=decide N.Nodup:=a0L.mpr ⟨λh=>by
   rw[a0z,a2k]at h;exact a0z.mpr (h.imp λC e=>C (by rw[e])),mR⟩
  rw[t]at E;have s:=Vn (jv (zP (m:=zf qk (zb (zc 4) zk)) (ρ:=[some (wsP us),some (.i B),some (.i f),some (.i l),some (.l (N.map .s)),some (.l (cr.map .s))]) (zr rfl E))) (jv (zP (m:=zf uf (zb (mLC (z8 (zc 4)) [none,some 5] ko Z4 kr) zk)) (zr (zx (Ym (yk rfl) L) rfl) WD)));have r:∀z,z∈cr↔∃w∈us,w.nm=z/\need w=true/\∀n∈ntW w,f<=(n:Int)/\(n:Int)<=l:=λz=>by
   rw[<- hcr];constructor
   .intro J;obtain⟨w,I,e⟩:=O9.mp J;obtain⟨A,D⟩:=a0l.mp I;exact⟨w,A,e,bO.mp D⟩
   .rintro ⟨w,A,e,D⟩
    exact O9.mpr ⟨w,a0l.mpr ⟨A,bO.mpr D⟩,e⟩
  cases i:(!decide N.Nodup || !N.all λz=>decide (z∈cr))with
  |true=>rw[i]at s;refine⟨false,zE (zd ⟨_,(yp p).trans rfl,zd ⟨_,zH (Ym (yk rfl) q),qi ((WL s).trans rfl)⟩⟩),⟨λe=>(by cases e),λH=>?_⟩⟩;rw[O5 H.nd,a0d.mpr λz hz=>O5 ((r z).mpr (H.i z hz))]at i;cases i
  |false=>rw[i]at s;rw[Bool.or_eq_false_iff,a4w,a4w,T7,a0d]at i;refine⟨decide ((N.length:Int)>B*(l-f+1)),zE (zd ⟨_,(yp p).trans rfl,zd ⟨_,zH (Ym (yk rfl) q),zd ⟨_,(yp s).trans rfl,jZ (zl (zr rfl (by show Out.ok (PV.i ((N.map PV.s).length:Int))=_;rw[u8])) (zl rfl (zl (zl rfl rfl rfl) rfl rfl) (US (by unfold oob at F;omega) (by unfold oob at F;omega))) rfl)⟩⟩⟩),?_⟩;rw[T7];exact⟨λK=>⟨O,fl,by omega,i.1,λz hz=>(r z).mp (a0P (i.2 z hz)),K⟩,λH=>H.c⟩
end
def bdP(ws:List Wk):List (Key×PV):=ws.map λw=>(sk w.nm,wkP w)
def wq(ws:List Wk)(z:Str):Option Wk:=qB (ws.map λw=>(w.nm,w)) z
theorem tH{z:Str}:∀{ws:List Wk},qB (bdP ws) (sk z)=(wq ws z).map wkP
 |[]=>rfl
 |w::ws=>by
  unfold bdP wq;rw[R7,R7,qj,qj];by_cases c:w.nm=z
  .rw[if_pos c,if_pos (by rw[c])];rfl
  .rw[if_neg c,if_neg (λh=>c (a1h h))];exact tH
def Iv(h:wq ws z=some w):w∈ws/\w.nm=z:=by obtain⟨u,a,e⟩:=O9.mp (Qt h);cases e;exact⟨a,rfl⟩
def EH(a:(nms ws).Nodup)(h:w∈ws):wq ws w.nm=some w:=
 yV (by rw[S4];exact a) (O9.mpr ⟨w,h,rfl⟩)
def MM(nd:(nms ws).Nodup):Yv [.l (ws.map λw=>.t [.s w.nm,wkP w])]=.ok (.d (bdP ws)):=by
 show wD ((Bw (ws.map λw=>.t [.s w.nm,wkP w])).map λes=>PV.d (Xh es))=_;rw[gq];show Out.ok (PV.d (Xh (bdP ws)))=_;unfold Xh;rw[i9 (by
  rw[a1J];unfold bdP;rw[S4,show((λq:Key×PV=>q.1)∘λw:Wk=>(sk w.nm,wkP w))=sk∘(·.nm)from rfl,<- S4];exact mR nd)];rfl
def ckB(ws:List Wk)(f l:Int)(N:Oj)(k:Nat):Bool:=match wq ws (N.getD k "")with
 |none=>false
 |some w=>!decide (N.getD k ""∈N.take k)&&mcB w f l
section
variable {ws:List Wk}{B f l:Int}{N:Oj}
abbrev qSt(ws:List Wk)(B f l:Int)(N:Oj)(a b c:OQ):Sto:=[some (wsP ws),some (.i B),some (.i f),some (.i l),some (.l (N.map .s)),some (.d (bdP ws)),a,b,c]
def bP{a b c:OQ}:(((ntW w).all λn=>decide (f<=(n:Int))&&decide ((n:Int)<=l))=true/\∃j,Yk (z8 (zf zO (zb (zc 7) zk))) vd ve (qSt ws B f l N a (some (wkP w)) c)=.ok (.nx (qSt ws B f l N a (some (wkP w)) j)))\/(((ntW w).all λn=>decide (f<=(n:Int))&&decide ((n:Int)<=l))=false/\Yk (z8 (zf zO (zb (zc 7) zk))) vd ve (qSt ws B f l N a (some (wkP w)) c)=.ok (.rt (.b false))):=by
 have o:=WQ (g:=vd) (b:=ve) nI (λ(_:Unit) i=>∃c,i=qSt ws B f l N a (some (wkP w)) c) (λu _=>u) (λ_ n=>decide (f<=(n:Int))&&decide ((n:Int)<=l)) (ntW w) () (qSt ws B f l N a (some (wkP w)) c) ⟨_,rfl⟩ λn _ _ i ⟨c,e⟩=>by
  subst e;refine⟨_,rfl,?_⟩;have t:=Vn (zP (m:=mOp pLt (zc 8) (zc 2)) (ρ:=qSt ws B f l N a (some (wkP w)) (some (nI n))) (zl rfl rfl rfl)) (zP (m:=mOp pGt (zc 8) (zc 3)) (zl rfl rfl rfl));by_cases d:f<=(n:Int)
  .by_cases h:(n:Int)<=l
   .rw[O4 (show ¬(n:Int)<f by omega),O4 (show ¬(n:Int)>l by omega)]at t;exact .inl ⟨by rw[O5 d,O5 h];rfl,_,⟨_,rfl⟩,(yp t).trans rfl⟩
   .rw[O5 (show(n:Int)>l by omega),a26]at t;exact .inr ⟨by rw[O4 h,a08],(WL t).trans rfl⟩
  .rw[O5 (show(n:Int)<f by omega),Bool.true_or]at t;exact .inr ⟨by rw[O4 d,a2e],(WL t).trans rfl⟩
 rw[AF]at o;have p:z8 (zf zO (zb (zc 7) zk)) (qSt ws B f l N a (some (wkP w)) c)=.ok ((ntW w).map nI):=yk (zr rfl Zo);rcases o with⟨d,q,⟨j,e⟩,h⟩|⟨d,h⟩
 .subst e;exact .inl ⟨d,j,kJ p h⟩
 .exact .inr ⟨d,kJ p h⟩
def gx(q:k<N.length):∃d,ZN (nI k) (qSt ws B f l N a b c)=some d/\((ckB ws f l N k=true/\∃g,(∃a b c,g=qSt ws B f l N a b c)/\vf d=.ok (.nx g))\/(ckB ws f l N k=false/\vf d=.ok (.rt (.b false)))):=by
 refine⟨_,rfl,?_⟩;unfold ckB;rw[show N.getD k ""=N[k]from by rw[a0k,O3 q];rfl];have i:mOp pIx (zc 4) (zc 6) (qSt ws B f l N (some (nI k)) b c)=.ok (.s N[k]):=zl rfl rfl (ML q);have u:mSl pSl (zc 4) Wc (qW (zc 6)) (qSt ws B f l N (some (nI k)) b c)=.ok (.l ((N.take k).map .s)):=by show Out.ok (PV.l (Uc (N.map PV.s) none (some (k:Int))))=_;rw[Es,a2m]
 generalize N[k]=z at i ⊢;have v:zQ (mOp (pIn true) (mOp pIx (zc 4) (zc 6)) (zc 5)) (qSt ws B f l N (some (nI k)) b c)=.ok (!(wq ws z).isSome):=zP (zl i rfl (by
  have:=HL (r:=sk z) (kvs:=bdP ws);rw[tH,a1P]at this;exact this))
 have t:=Vn v (zP (zl i u (HP (n:=false))));cases e:wq ws z with
 |none=>rw[e]at t;exact .inr ⟨rfl,qi ((WL t).trans rfl)⟩
 |some w=>
  rw[e]at t;dsimp only;by_cases hz:z∈N.take k
  .rw[O5 hz]at t ⊢;exact .inr ⟨rfl,qi ((WL t).trans rfl)⟩
  .rw[O4 hz]at t ⊢;have j:yH 7 (mOp pIx (zc 5) (mOp pIx (zc 4) (zc 6))) (qSt ws B f l N (some (nI k)) b c)=.ok (.nx (qSt ws B f l N (some (nI k)) (some (wkP w)) c)):=zH (zl rfl i (by
    show pIx (.d (bdP ws)) (kP (sk z))=_;rw[Ej,tH,e];rfl))
   have h:=lh (m:=zc 7) (ρ:=qSt ws B f l N (some (nI k)) (some (wkP w)) c) rfl;unfold mcB;cases s:need w with
   |false=>rw[s]at h;exact .inr ⟨rfl,zd ⟨_,(yp t).trans rfl,zd ⟨_,j,qi ((WL h).trans rfl)⟩⟩⟩
   |true=>
    rw[s]at h;rcases bP (b:=none)with⟨o,x,p⟩|⟨o,p⟩
    .exact .inl ⟨by rw[o];rfl,_,⟨_,_,x,rfl⟩,zd ⟨_,(yp t).trans rfl,zd ⟨_,j,zd ⟨_,(yp h).trans rfl,p⟩⟩⟩⟩
    .exact .inr ⟨by rw[o];rfl,zd ⟨_,(yp t).trans rfl,zd ⟨_,j,zd ⟨_,(yp h).trans rfl,p⟩⟩⟩⟩
end
def range_all:(List.range n).all c=true↔∀k,k<n->c k=true:=by rw[a0d];exact⟨λh k a=>h k (a0a.mpr a),λh k a=>h k (a0a.mp a)⟩
def B9(m:ny ws):(∀k,k<N.length->ckB ws f l N k=true)↔N.Nodup/\∀z∈N,∃w∈ws,w.nm=z/\need w=true/\∀n∈ntW w,f<=(n:Int)/\(n:Int)<=l:=by
 have g:∀{k:Nat}(a:k<N.length),N.getD k ""=N[k]:=λ{k} a=>by rw[a0k,O3 a];rfl
 constructor
 .intro h;have at':∀k (a:k<N.length),∃w,wq ws N[k]=some w/\N[k]∉N.take k/\mcB w f l=true:=λk a=>by
   have:=h k a;unfold ckB at this;rw[g a]at this;cases e:wq ws N[k]with
   |none=>rw[e]at this;cases this
   |some w=>rw[e]at this;rw[S8,Bool.not_eq_true',a3t]at this;exact⟨w,rfl,this⟩
  refine⟨a0z.mpr (a15.mpr λi j t q p e=>?_),λz hz=>?_⟩
  .obtain⟨_,_,b,_⟩:=at' j q;refine b (a2H.mpr ⟨i,by rw[a0F];omega,?_⟩);rw[List.getElem_take,e]
  .obtain⟨k,a,rfl⟩:=List.getElem_of_mem hz;obtain⟨w,d,_,c⟩:=at' k a;obtain⟨s,r⟩:=Iv d;exact⟨w,s,r,bO.mp c⟩
 .rintro ⟨o,h⟩ k a
  obtain⟨w,d,b,c⟩:=h N[k] (a1g a);unfold ckB;rw[g a,<- b,EH m.nd d];dsimp only;rw[b,O4 (i_ o a),bO.mpr c];rfl
def tI(j:ny ws)(M:-1<=B)(K:B<=2000000000)(L:N.length<=1000):∃b,qo [wsP ws,.i B,.i f,.i l,.l (N.map .s)]=.ok (.b b)/\(b=true↔Kd ws B f l N):=by
 have i:=Vn (sL (a:=zc 2) (ρ:=[some (wsP ws),some (.i B),some (.i f),some (.i l),some (.l (N.map .s)),none,none,none,none]) (n:=0) rfl) (Vn (zP (m:=mOp pLt (zc 3) (zc 2)) (zl rfl rfl rfl)) (QT (a:=zc 3) (n:=6) rfl));by_cases r:0<=f/\f<=l/\l<=6
 .obtain⟨G,fl,E⟩:=r;rw[O4 (show ¬f<0 by omega),O4 (show ¬l<f by omega),O4 (show ¬l>6 by omega)]at i;have D:=vm (g:=wX) (e:=wY) wkP (λw=>.t [.s w.nm,wkP w]) (λd=>∃z,d=[z]) ws [none] ⟨_,rfl⟩ (λw J d ⟨_,C⟩=>by subst C;exact⟨_,rfl,⟨_,rfl⟩,sO (zx (zl rfl rfl rfl) (zx rfl rfl)) (show 2<=sizeLine by decide)⟩) (by have:=j.l;omega);have v:yH 5 (zf Yv (zb (mLC (z8 (zc 0)) [none] wX QO wY) zk)) [some (wsP ws),some (.i B),some (.i f),some (.i l),some (.l (N.map .s)),none,none,none,none]=.ok (.nx (qSt ws B f l N none none none)):=zH (zr (zx (Ym (yk rfl) D) rfl) (MM j.nd));have s:∀{d:Sto},zc 4 d=.ok (.l (N.map .s))->zf qZ (zb (zc 4) zk) d=.ok (.i N.length):=λh=>zr (zx h rfl) (by show Out.ok (PV.i ((N.map PV.s).length:Int))=_;rw[u8]);have t:Yl (zb (zf qZ (zb (zc 4) zk)) zk) (qSt ws B f l N none none none)=.ok ((List.range N.length).map nI):=by rw[aQ (by exact zx (s rfl) rfl) (by omega) (by omega)];exact R9 Out.ok J9
  have q:=WQ nI (λ(_:Unit) d=>∃a b c,d=qSt ws B f l N a b c) (λu _=>u) (λ_ k=>ckB ws f l N k) (List.range N.length) () (qSt ws B f l N none none none) ⟨_,_,_,rfl⟩ λk F _ d ⟨a,b,c,e⟩=>by subst e;exact gx (a0a.mp F)
  rw[AF]at q;rcases q with⟨o,I,⟨a,b,c,e⟩,p⟩|⟨o,p⟩
  .subst e;refine⟨decide (N.length>B*(l-f+1)),zE (zd ⟨_,(yp i),zd ⟨_,v,zd ⟨_,kJ t p,jZ (zl (s rfl) (zl rfl (zl (zl rfl rfl rfl) rfl rfl) (US (by omega) (by omega))) rfl)⟩⟩⟩),?_⟩;rw[T7];obtain⟨A,h⟩:=(B9 j).mp (range_all.mp o);exact⟨λy=>⟨G,fl,E,A,h,y⟩,λH=>H.c⟩
  .exact⟨false,zE (zd ⟨_,(yp i),zd ⟨_,v,qi (kJ t p)⟩⟩),⟨λe=>(by cases e),λH=>by rw[range_all.mpr ((B9 j).mpr ⟨H.nd,H.i⟩)]at o;cases o⟩⟩
 .have:(decide (f<0)||(decide (l<f)||decide (l>6)))=true:=by rw[Bool.or_eq_true,Bool.or_eq_true,T7,T7,T7];omega
  rw[this]at i;exact⟨false,zE (qi ((WL i))),⟨λe=>(by cases e),λH=>absurd ⟨H.f0,H.fl,H.l6⟩ r⟩⟩
theorem tJ{n:Nat}:∀{a b:OC},cX (Wa n) (a.map PV.i) (b.map PV.i)=some (decide (a=b))
 |[],[]=>rfl
 |[],_::_=>rfl
 |_::_,[]=>rfl
 |x::a,y::b=>by
  rw[R7,R7,jT,pE,tJ];show some (decide (x=y)&&decide (a=b))=_;by_cases c:x=y
  .subst c;rw[O5 rfl,a1s];exact R9 some (a0L.mpr ⟨λh=>by rw[h],λh=>(a1H h).2⟩)
  .rw[O4 c,O4 λh=>c (a1H h).1];rfl
def eqW(u w:Wk):Bool:=decide (u.nm=w.nm)&&(decide (u.m=w.m)&&(decide (u.d=w.d)&&decide (u.ls=w.ls)))
def MN:Wa (n+2) (wkP u) (wkP w)=some (eqW u w):=by show cX (Wa (n+1)) [.s u.nm,.i u.m,.i u.d,lsP u.ls] [.s w.nm,.i w.m,.i w.d,lsP w.ls]=_;rw[jT,jT,jT,jT,show Wa (n+1) (lsP u.ls) (lsP w.ls)=some (decide (u.ls=w.ls))from tJ];show some (_&&(_&&(_&&(_&&true))))=_;rw[a10];rfl
def tK:List Wk->List Wk->Bool
 |[],[]=>true
 |u::a,w::ws=>eqW u w&&tK a ws
 |_,_=>false
theorem EI{n:Nat}:∀{a ws:List Wk},cX (Wa (n+2)) (a.map wkP) (ws.map wkP)=some (tK a ws)
 |[],[]=>rfl
 |[],_::_=>rfl
 |_::_,[]=>rfl
 |u::a,w::ws=>by rw[R7,R7,jT,MN,EI];rfl
def EJ:eqW u w=true↔u=w:=by obtain⟨a,b,c,d⟩:=u;obtain⟨l,h,m,f⟩:=w;show(decide (a=l)&&(decide (b=h)&&(decide (c=m)&&decide (d=f))))=true↔_;rw[S8,S8,S8,T7,T7,T7,T7];exact⟨λ⟨j,n,g,i⟩=>by subst j;subst n;subst g;subst i;rfl,λe=>by cases e;exact⟨rfl,rfl,rfl,rfl⟩⟩
theorem KJ:∀{a ws:List Wk},tK a ws=true↔a=ws
 |[],[]=>⟨λ_=>rfl,λ_=>rfl⟩
 |[],_::_=>⟨λh=>(by cases h),λh=>(by cases h)⟩
 |_::_,[]=>⟨λh=>(by cases h),λh=>(by cases h)⟩
 |u::a,w::ws=>by unfold tK;rw[S8,EJ,KJ,List.cons.injEq]
theorem KN{g:Pg}:∀{a:OD},(∀x∈a,g x x=true)->al2 g a a=true
 |[],_=>rfl
 |x::a,h=>by show(g x x&&al2 g a a)=true;rw[h x O7,KN λy b=>h y (O6 _ b)];rfl
def lu:fX (n+1) (.i x) (.i x)=true:=by show(some (eqV (.int x) (.int x))==some true)=true;simp[eqV]
def Iw:fX (n+1) (.s x) (.s x)=true:=by show(some (eqV (.str x) (.str x))==some true)=true;simp[eqV]
def EK:fX 6 (wkP w) (wkP w)=true:=KN λx a=>by
 simp only[List.mem_cons,List.not_mem_nil,or_false]at a;rcases a with rfl|rfl|rfl|rfl
 .exact Iw
 .exact lu
 .exact lu
 .exact KN λy b=>by obtain⟨i,_,rfl⟩:=O9.mp b;exact lu
def EL:fX 7 (wsP us) (wsP us)=true:=KN λx a=>by obtain⟨w,_,rfl⟩:=O9.mp a;exact EK
theorem lz{g:Pg}{a:Oz}(d:(a.map (·.1)).Nodup)(h:∀q∈a,g q.2 q.2=true):∀{r:Oz},(∀q∈r,q∈a)->alD g a r=true
 |[],_=>rfl
 |q::r,b=>by show((match qB a q.1 with|some y=>g q.2 y|none=>false)&&alD g a r)=true;have c:=b q O7;rw[yV d (show(q.1,q.2)∈a from c),lz d h λx e=>b x (O6 _ e),a10];exact h q c
def EO(nt:(T.map (·.1)).Nodup):fX 7 (.d (tvP T)) (.d (tvP T))=true:=by
 show(decide ((tvP T).length=(tvP T).length)&&alD (fX 6) (tvP T) (tvP T))=true;rw[O5 rfl,a1s];refine lz (by rw[s_];exact mR nt) (λq a=>?_) λq a=>a;obtain⟨p,_,rfl⟩:=O9.mp a;cases p.2 with
 |none=>rfl
 |some i=>exact lu
section
variable {us:List Wk}{B f l:Int}{N:Oj}{T:To}{due:Bool}(hl:us.length<=1000)
def tL:mq (zb (mOp pIx (zc 0) (mC (.i 0))) (zb (mOp pIx (zc 0) (mC (.i 1))) (zb (mOp pIx (zc 0) (mC (.i 2))) (zb (zf kK (zb (mOp pIx (zc 0) (mC (.i 3))) zk)) zk)))) [some (wkP w)]=.ok (wkP w):=
 sO (zx (zl rfl rfl rfl) (zx (zl rfl rfl rfl) (zx (zl rfl rfl rfl) (zx (zr (zx (zl rfl rfl rfl) rfl) rfl) rfl)))) (S6 rfl)
include hl
def tM(d:m b=.ok (wsP us))(h:∀w a,g (wkP w) [a]=some [some (wkP w)])(he:∀w,e [some (wkP w)]=.ok (wkP w)):mLC (z8 m) [none] g bX e b=.ok (wsP us):=
 Ym (yk d) (vm (g:=g) (e:=e) wkP wkP (λb=>∃z,b=[z]) us [none] ⟨_,rfl⟩ (λw _ b ⟨_,c⟩=>by subst c;exact⟨_,h w _,⟨_,rfl⟩,he w⟩) (by omega))
def KO(nt:(T.map (·.1)).Nodup)(h:yd [wsP us,.i B,.d (tvP T)]=.ok (.b due)):zK [wsP us,.i B,.d (tvP T),.b due]=.ok (.b true):=by
 have c:yH 4 (kH (zb (mLC (z8 (zc 0)) [none] v9 v_ wa) (zb (zf Yv (zb (zc 2) zk)) zk))) [some (wsP us),some (.i B),some (.d (tvP T)),some (.b due),none,none]=.ok (.nx [some (wsP us),some (.i B),some (.d (tvP T)),some (.b due),some (.l [wsP us,.d (tvP T)]),none]):=zH (Yn (xs:=[wsP us,.d (tvP T)]) (zx (tM hl rfl (λ_ _=>rfl) λw=>tL) (zx (zr (xs:=[.d (tvP T)]) rfl rfl) rfl)) (S6 rfl));have b:yH 5 (zf yd (zb (mOp pIx (zc 4) (mC (.i 0))) (zb (zc 1) (zb (mOp pIx (zc 4) (mC (.i 1))) zk)))) [some (wsP us),some (.i B),some (.d (tvP T)),some (.b due),some (.l [wsP us,.d (tvP T)]),none]=.ok (.nx [some (wsP us),some (.i B),some (.d (tvP T)),some (.b due),some (.l [wsP us,.d (tvP T)]),some (.b due)]):=zH (zr (xs:=[wsP us,.i B,.d (tvP T)]) rfl h);refine zE (zd ⟨_,c,zd ⟨_,b,jZ (JG (x:=true) (y:=true) rfl (JG (x:=true) (y:=true) (zl rfl rfl (GH.trans (by rw[O5 rfl];rfl))) ?_))⟩⟩);refine zl (x:=.l [wsP us,.d (tvP T)]) (y:=.l [wsP us,.d (tvP T)]) rfl (Yn (xs:=[wsP us,.d (tvP T)]) rfl (S6 rfl)) ?_;have e:fX 8 (.l [wsP us,.d (tvP T)]) (.l [wsP us,.d (tvP T)])=true:=KN λx a=>by
  simp only[List.mem_cons,List.not_mem_nil,or_false]at a;rcases a with rfl|rfl
  .exact EL
  .exact EO nt
 unfold G_;rw[if_pos e];rfl
def Y9(h:ya [wsP us,.i B,.i f,.i l,.l (N.map .s)]=.ok (.b due)):zR [wsP us,.i B,.i f,.i l,.l (N.map .s),.b due]=.ok (.b true):=by
 have b:yH 6 (kH (zb (mLC (z8 (zc 0)) [none] vC vD vE) (zb (zf kK (zb (zc 4) zk)) zk))) [some (wsP us),some (.i B),some (.i f),some (.i l),some (.l (N.map .s)),some (.b due),none,none]=.ok (.nx [some (wsP us),some (.i B),some (.i f),some (.i l),some (.l (N.map .s)),some (.b due),some (.l [wsP us,.l (N.map .s)]),none]):=zH (Yn (xs:=[wsP us,.l (N.map .s)]) (zx (tM hl rfl (λ_ _=>rfl) λw=>tL) (zx (zr (xs:=[.l (N.map .s)]) rfl rfl) rfl)) (S6 rfl));refine zE (zd ⟨_,b,zd ⟨_,zH (zr (xs:=[wsP us,.i B,.i f,.i l,.l (N.map .s)]) rfl h),jZ (JG (x:=true) (y:=true) rfl (JG (x:=true) (y:=true) (zl rfl rfl (GH.trans (by rw[O5 rfl];rfl))) ?_))⟩⟩);refine zl (x:=.l [wsP us,.l (N.map .s)]) (y:=.l [wsP us,.l (N.map .s)]) rfl (Yn (xs:=[wsP us,.l (N.map .s)]) rfl (S6 rfl)) ?_;rw[pD,de λx a=>?_];rfl;simp only[List.mem_cons,List.not_mem_nil,or_false]at a;rcases a with rfl|rfl
 .show cX (Wa 6) _ _=_;rw[EI (n:=4),KJ.mpr rfl]
 .exact df (n:=6)
end
theorem lA:∀{L:OC},(∀x∈L,0<=x/\x<100000000)->0<=L.sum/\L.sum<=99999999*L.length
 |[],_=>⟨a2N _,a2N _⟩
 |a::L,h=>by obtain⟨e,f⟩:=lA λx b=>h x (O6 _ b);obtain⟨c,d⟩:=h a O7;rw[List.sum_cons,O1];refine⟨by omega,?_⟩;omega
theorem tN:∀{L:OC},(∀x∈L,0<=x/\x<100000000)->nv L=none
 |[],_=>rfl
 |a::L,h=>by unfold nv;have:=h a O7;rw[if_neg (by omega)];exact tN λx b=>h x (O6 _ b)
def yB(l:0<=k)(i:k<=1000)(j:0<m)(d:zc 0 ρ=.ok (.sc ns))(f:a ρ=.ok (.i k))(h:b ρ=.ok (.i m)):∃x:Nat,(x:Int)<m/\zf zg (zb (zc 0) (zb a (zb b zk))) ρ=.ok (nI x):=by obtain⟨x,c,g,e⟩:=Y6 l i j;obtain⟨x,rfl⟩:=a2i c;exact⟨x,g,zr (zx d (zx f (zx h rfl))) e⟩
def Iy{ρ:Sto}{m n:ME}{xs:OC}{x:Nat}(h:m ρ=.ok (.l (xs.map .i)))(a:n ρ=.ok (nI x))(b:x<xs.length):mOp pIx m n ρ=.ok (.i xs[x]):=by refine zl h a ?_;rw[d9 (by omega) (by rw[u8];omega),a0s];rfl
section
variable {ns:OC}{k:Nat}
abbrev kSt(ns:OC)(k:Nat)(s:Int)(L:OC)(j l m p w d:OQ):Sto:=[some (.sc ns),some (nI k),some (.i s),some (.l (L.map .i)),j,l,m,p,w,d]
abbrev Lok(L:OC):Prop:=∀x∈L,0<=x/\x<100000000
def eM(h:zc 1 ρ=.ok (nI k)):mOp zA (mC (.i c)) (mOp jS (mC (.i 17)) (zc 1)) ρ=.ok (.i (c+17*(k:Int))):=zl rfl (zl rfl h (US (by decide) (by decide))) rfl
def ER(u:k<=40)(g:0<s/\s<=100000000)(v:j<8)(z:Lok L)(q:L.length<=100):∃x h,0<=x/\x<100000000/\YU (kSt ns k s L (some (nI j)) l m p w d)=.ok (.nx (kSt ns k s (L++[x]) (some (nI j)) h m p w d)):=by
 obtain⟨x,r,f⟩:=yB (ρ:=kSt ns k s L (some (nI j)) l m p w d) (a:=mOp zA (mOp zA (mC (.i 20)) (mOp jS (mC (.i 17)) (zc 1))) (zc 4)) (b:=mC (.i 4)) (by omega) (by omega) (by decide) rfl (zl (eM rfl) rfl rfl) rfl;have e:∀y:Int,nk 3 (zc 5) (kSt ns k s L (some (nI j)) (some (.i y)) m p w d)=.ok (.nx (kSt ns k s (L++[y]) (some (nI j)) (some (.i y)) m p w d)):=λy=>by rw[la rfl rfl (by grind)];show Out.ok (Fw.nx [_,_,_,some (PV.l (L.map PV.i++[.i y])),_,_,_,_,_,_])=_;rw[show L.map PV.i++[.i y]=(L++[y]).map .i by rw[T5];rfl]
 have t:=yp (a:=yH 5 (zf zg (zb (zc 0) (zb (mOp zA (mOp zA (mC (.i 28)) (mOp jS (mC (.i 17)) (zc 1))) (zc 4)) (zb (zc 2) zk))))) (b:=zG) (QT (ρ:=kSt ns k s L (some (nI j)) (some (nI x)) m p w d) (a:=zc 5) (n:=0) rfl);by_cases c:(x:Int)>0
 .rw[O5 c]at t;obtain⟨y,A,o⟩:=yB (ρ:=kSt ns k s L (some (nI j)) (some (nI x)) m p w d) (a:=mOp zA (mOp zA (mC (.i 28)) (mOp jS (mC (.i 17)) (zc 1))) (zc 4)) (b:=zc 2) (by omega) (by omega) g.1 rfl (zl (eM rfl) rfl rfl) rfl;exact⟨y,_,by omega,by omega,zd ⟨_,zH f,zd ⟨_,t.trans (zH o),e y⟩⟩⟩
 .rw[O4 c]at t;exact⟨x,_,by omega,by omega,zd ⟨_,zH f,zd ⟨_,t,e x⟩⟩⟩
theorem lB{s:Int}{m p w d:OQ}(i:k<=40)(n:0<s/\s<=100000000):∀(a:Og)(L:OC)(j l:OQ),(∀q∈a,q<8)->L.length+a.length<=100->Lok L->∃b f g,Lok b/\b.length=L.length+a.length/\j9 VL YU (a.map nI) (kSt ns k s L j l m p w d)=.ok (.nx (kSt ns k s b f g m p w d))
 |[],L,j,l,_,_,c=>⟨L,j,l,c,rfl,rfl⟩
 |q::a,L,j,l,o,A,c=>by rw[O1]at A;obtain⟨x,z,t,B,e⟩:=ER i n (o q O7) c (by omega);obtain⟨b,f,g,v,E,u⟩:=lB i n a (L++[x]) (some (nI q)) z (λr C=>o r (O6 _ C)) (by rw[P2];show _+1+_<=_;omega) (λy D=>(a0q.mp D).elim (c y) λh=>by rw[T6.mp h];exact⟨t,B⟩);refine⟨b,f,g,v,?_,(vJ rfl e).trans u⟩;rw[E];have:(L++[x]).length=L.length+1:=P2;rw[this,O1];omega
def pop_at:xC 3 6 (kSt ns k s (L++[x]) j l none p w d)=.ok (.nx (kSt ns k s L j l (some (.i x)) p w d)):=by
 show(match((L++[x]).map PV.i)[((L++[x]).map PV.i).length-1]? with
  |some y=>Out.ok (Fw.nx [some (.sc ns),some (nI k),some (.i s),some (.l ((L++[x]).map PV.i).dropLast),j,l,some y,p,w,d])
  |none=>.wall)=_
 rw[show((L++[x]).map PV.i).dropLast=L.map .i by rw[T5,show[x].map PV.i=[.i x]from rfl,List.dropLast_concat],
  show((L++[x]).map PV.i)[((L++[x]).map PV.i).length-1]?=some (.i x) by
   rw[T5,P2,a0M (by show _<=_+1-1;omega),show(L.map PV.i).length+([x].map PV.i).length-1-(L.map PV.i).length=0 by show _+1-1-_=0;omega];rfl]
def ES(H:∀n:Nat,n<35->jF [.sc ns,.i 1,.i (n:Int)]=.ok (.s (nmX a b n)))(hk:k<=8):∃w:Wk,qU [.sc ns,nI k]=.ok (wkP w)/\w.nm=nmX a b k/\dvN w=none/\w.ls.length=7:=by
 obtain⟨x,x1,G⟩:=yB (ns:=ns) (ρ:=[some (.sc ns),some (nI k),none,none,none,none,none,none,none,none]) (k:=0) (m:=3) (a:=mC (.i 0)) (b:=mC (.i 3)) (by decide) (by decide) (by decide) rfl rfl rfl;have R:vN (.i 10) (.i 8)=.ok (.i 100000000):=by rw[c_ (by decide) (by decide) (by decide)];rfl
 obtain⟨s,X,N⟩:∃s:Int,(0<s/\s<=100000000)/\mOp pIx (kH (zb (mC (.i 10)) (zb (mC (.i 60000)) (zb (mOp vN (mC (.i 10)) (mC (.i 8))) zk)))) (zf zg (zb (zc 0) (zb (mC (.i 0)) (zb (mC (.i 3)) zk)))) [some (.sc ns),some (nI k),none,none,none,none,none,none,none,none]=.ok (.i s):=by
  refine⟨_,?_,Iy (xs:=[10,60000,100000000]) (Yn (zx rfl (zx rfl (zx (zl rfl rfl R) rfl))) (S6 rfl)) G (by show x<3;omega)⟩;have:∀y∈[10,60000,(100000000:Int)],0<y/\y<=100000000:=by decide
  exact this _ (a1g _)
 obtain⟨L,j,l,g,h,O⟩:=lB (ns:=ns) (k:=k) (m:=none) (p:=none) (w:=none) (d:=none) (by omega) X (List.range 8) [] none none (λq Y=>a0a.mp Y) (by decide) nofun;rw[a0p,a2A]at h;obtain⟨L,m,rfl⟩:∃M m,L=M++[m]:=by refine⟨L.dropLast,L.getLast (λe=>by rw[e]at h;cases h),(List.dropLast_concat_getLast _).symm⟩
 rw[P2]at h;have h:L.length=7:=by have:[m].length=1:=rfl;omega
 have hm:=g m (R4 _ (a3u _));have g:Lok L:=λy W=>g y (a0A _ W);obtain⟨t,t1,et⟩:=yB (ns:=ns) (ρ:=kSt ns k s L j l (some (.i m)) none none none) (k:=36+17*(k:Int)) (m:=7) (b:=mC (.i 7)) (by omega) (by omega) (by decide) rfl (eM rfl) rfl;obtain⟨w,w1,Z⟩:=yB (ns:=ns) (ρ:=kSt ns k s L j l (some (.i m)) (some (nI t)) none none) (k:=37+17*(k:Int)) (m:=16) (b:=mC (.i 16)) (by omega) (by omega) (by decide) rfl (eM rfl) rfl;obtain⟨S0,K⟩:=lA g;have E:=KH (ls:=L) (k:=t+1);have I:=(lA (L:=L.take (t+1)) λx r=>g x (a2F r)).1;have U:=(lA (L:=L.drop (t+1)) λx r=>g x (a4a r)).1;rw[h]at K;obtain⟨A,C⟩:∃A,A=(L.take (t+1)).sum:=⟨_,rfl⟩;obtain⟨B,hB⟩:∃B,B=(L.drop (t+1)).sum:=⟨_,rfl⟩;rw[<- C]at E I;rw[<- hB]at E U;have F:yH 9 (zf ue (zb (mOp zA (zc 6) (zf Wb (zb (mSl pSl (zc 3) Wc (qW (mOp zA (zc 7) (mC (.i 1))))) zk))) (zb (zf Wb (zb (mSl pSl (zc 3) (qW (mOp zA (zc 7) (mC (.i 1)))) Wc) zk)) zk))) (kSt ns k s L j l (some (.i m)) (some (nI t)) (some (nI w)) none)=.ok (.nx (kSt ns k s L j l (some (.i m)) (some (nI t)) (some (nI w)) (some (.i (max (m+A) B))))):=by rw[C,hB];exact zH (zr (zx (bF (m:=m) (ls:=L) (k:=t) rfl rfl rfl) (zx (X2 (ls:=L) (k:=t) rfl rfl) rfl)) rfl)
 obtain⟨D,hD⟩:∃D,D=max (m+A) B:=⟨_,rfl⟩;have hD':0<=D/\D<=800000000:=by omega
 rw[<- hD]at F
 -- three ifs
 obtain⟨i,S,u⟩:∃i,(i<=800000000/\((w:Int)>11->0<=i))/\sIf (zQ (mOp (yQ false) (zc 8) (mC (.i 1)))) (yH 9 (mOp m9 (zc 9) (mC (.i 1)))) zG (kSt ns k s L j l (some (.i m)) (some (nI t)) (some (nI w)) (some (.i D)))=.ok (.nx (kSt ns k s L j l (some (.i m)) (some (nI t)) (some (nI w)) (some (.i i)))):=by
  have q:=λP Q=>yp (a:=P) (b:=Q) (vI (ρ:=kSt ns k s L j l (some (.i m)) (some (nI t)) (some (nI w)) (some (.i D))) (a:=zc 8) (x:=(w:Int)) (n:=1) rfl);by_cases c:(w:Int)=1
  .exact⟨D-1,by omega,(q _ _).trans (by rw[O5 c];exact zH (zl rfl rfl rfl))⟩
  .exact⟨D,by omega,(q _ _).trans (by rw[O4 c];rfl)⟩
 obtain⟨f,J,z⟩:∃f,(f<=800000000/\((w:Int)>11->0<=f))/\sIf (zQ (mOp (yQ false) (zc 8) (mC (.i 2)))) (yH 9 (mOp zA (zc 6) (zf Wb (zb (zc 3) zk)))) zG (kSt ns k s L j l (some (.i m)) (some (nI t)) (some (nI w)) (some (.i i)))=.ok (.nx (kSt ns k s L j l (some (.i m)) (some (nI t)) (some (nI w)) (some (.i f)))):=by
  have q:=λP Q=>yp (a:=P) (b:=Q) (vI (ρ:=kSt ns k s L j l (some (.i m)) (some (nI t)) (some (nI w)) (some (.i i))) (a:=zc 8) (x:=(w:Int)) (n:=2) rfl);by_cases c:(w:Int)=2
  .exact⟨m+L.sum,by omega,(q _ _).trans (by rw[O5 c];exact zH (zl rfl (zr (xs:=[lsP L]) rfl UT) rfl))⟩
  .exact⟨i,S,(q _ _).trans (by rw[O4 c];rfl)⟩
 obtain⟨o,d3,v⟩:∃o,o<=1000000000/\sIf (zQ (mOp pGt (zc 8) (mC (.i 11)))) (yH 9 (mOp zA (zc 9) (zf zg (zb (zc 0) (zb (mOp zA (mC (.i 38)) (mOp jS (mC (.i 17)) (zc 1))) (zb (mOp zA (mC (.i 1)) (mOp cU (zc 9) (mC (.i 4)))) zk)))))) zG (kSt ns k s L j l (some (.i m)) (some (nI t)) (some (nI w)) (some (.i f)))=.ok (.nx (kSt ns k s L j l (some (.i m)) (some (nI t)) (some (nI w)) (some (.i o)))):=by
  have q:=λP Q=>yp (a:=P) (b:=Q) (QT (ρ:=kSt ns k s L j l (some (.i m)) (some (nI t)) (some (nI w)) (some (.i f))) (a:=zc 8) (x:=(w:Int)) (n:=11) rfl);by_cases c:(w:Int)>11
  .have:=J.2 c;obtain⟨y,y1,T⟩:=yB (ns:=ns) (ρ:=kSt ns k s L j l (some (.i m)) (some (nI t)) (some (nI w)) (some (.i f))) (k:=38+17*(k:Int)) (m:=1+f / 4) (a:=mOp zA (mC (.i 38)) (mOp jS (mC (.i 17)) (zc 1))) (b:=mOp zA (mC (.i 1)) (mOp cU (zc 9) (mC (.i 4)))) (by omega) (by omega) (by omega) rfl (eM rfl) (zl rfl (Hv rfl (by decide) (by decide)) rfl);exact⟨f+(y:Int),by omega,(q _ _).trans (by rw[O5 c];exact zH (zl rfl T rfl))⟩
  .exact⟨f,by omega,(q _ _).trans (by rw[O4 c];rfl)⟩
 refine⟨⟨nmX a b k,m,max 1 o,L⟩,?_,rfl,?_,h⟩
 .exact zE (zd ⟨_,zH N,zd ⟨kSt ns k s [] none none none none none none,rfl,zd ⟨_,kJ (by rw[aQ (n:=8) rfl (by decide) (by decide)];exact R9 Out.ok J9) O,zd ⟨_,pop_at,zd ⟨_,zH et,zd ⟨_,zH Z,zd ⟨_,F,zd ⟨_,u,zd ⟨_,z,zd ⟨_,v,jZ (sO (zx (zr (xs:=[.sc ns,.i 1,nI k]) rfl (H k (by omega))) (zx rfl (zx (zr (xs:=[.i 1,.i o]) rfl rfl) (zx rfl rfl)))) (S6 rfl))⟩⟩⟩⟩⟩⟩⟩⟩⟩⟩)
 .unfold dvN;dsimp only;rw[if_neg (by omega),if_neg (by omega)];exact tN g
end
def ET(h:Nm z):ZT z=true:=by unfold ZT;rw[S8];exact⟨O5 h.1,a0d.mpr λc a=>O5 (h.2 c a)⟩
theorem B_:∀{a:List Wk}{P:Oj},(∀w∈a,ZT w.nm=true/\w.nm∉P/\dvN w=none)->(a.map (·.nm)).Nodup->dvL P a=none
 |[],_,_,_=>rfl
 |w::a,P,h,f=>by
  obtain⟨j,l,d⟩:=h w O7;obtain⟨c,g⟩:=a0r.mp f;unfold dvL;rw[if_neg (by rw[j];exact Bool.noConfusion),if_neg l,d];refine B_ (λu b=>?_) g;obtain⟨m,i,e⟩:=h u (O6 _ b);refine⟨m,λq=>?_,e⟩;rcases a0q.mp q with q|q
  .exact i q
  .exact c (O9.mpr ⟨u,b,T6.mp q⟩)
abbrev Wok(n:Nat)(us:List Wk):Prop:=∀w∈us,w.nm.length<=n/\w.ls.length=7
def EU(h0:zc 0 ρ=.ok (.sc ns))(hf:Xb ρ [none,some 0]=[none,some (.sc ns)]):∃ws:List Wk,dv ws=none/\Wok 12 ws/\ws.length<=8/\mLC (Yl (zb (zf zg (zb (zc 0) (zb (mC (.i 13)) (zb (mC (.i 7)) zk)))) zk)) [none,some 0] bx iR bz ρ=.ok (wsP ws):=by
 obtain⟨a,b,hab,hn⟩:=Am (k:=1) (by decide) (by decide);have H:∀k:Nat,∃w:Wk,k<=8->qU [.sc ns,nI k]=.ok (wkP w)/\w.nm=nmX a b k/\dvN w=none/\w.ls.length=7:=λk=>by
  by_cases hk:k<=8
  .obtain⟨w,h⟩:=ES hn hk;exact⟨w,λ_=>h⟩
  .exact⟨⟨"",0,0,[]⟩,λh=>absurd h hk⟩
 obtain⟨F,hF⟩:∃F:Nat->Wk,∀k,k<=8->qU [.sc ns,nI k]=.ok (wkP (F k))/\(F k).nm=nmX a b k/\dvN (F k)=none/\(F k).ls.length=7:=⟨λk=>Classical.choose (H k),λk=>a0j (H k)⟩;obtain⟨x,x1,ex⟩:=yB (a:=mC (.i 13)) (b:=mC (.i 7)) (by decide) (by decide) (by decide) h0 rfl rfl;have hF':∀w∈(List.range x).map F,∃k,k<9/\F k=w:=λw hw=>by obtain⟨k,hk,e⟩:=O9.mp hw;exact⟨k,by have:=a0a.mp hk;omega,e⟩
 have en:((List.range x).map F).map (·.nm)=(List.range x).map (nmX a b):=by rw[S4];exact a0T λk hk=>(hF k (by have:=a0a.mp hk;omega)).2.1
 refine⟨(List.range x).map F,?_,λw hw=>?_,by rw[u8,a0p];omega,?_⟩
 .unfold dv;rw[if_neg (by rw[u8,a0p];omega)];refine B_ (λw hw=>?_) (by rw[en];exact Hy (by omega));obtain⟨k,hk,rfl⟩:=hF' w hw;obtain⟨_,h1,h2,_⟩:=hF k (by omega);exact⟨by rw[h1];exact ET (BM hab (by omega)),nofun,h2⟩
 .obtain⟨k,hk,rfl⟩:=hF' w hw;obtain⟨_,h1,_,h3⟩:=hF k (by omega);exact⟨by rw[h1];exact(BM hab (by omega)).1.2,h3⟩
 .refine Ym (xs:=(List.range x).map nI) (by rw[aQ (zx ex rfl) (by omega) (by omega),a0t];exact R9 Out.ok J9) ?_;rw[hf,wsP,S4];exact vm (λk:Nat=>nI k) (λk=>wkP (F k)) (λρ=>∃z,ρ=[z,some (.sc ns)]) (List.range x) [none,some (.sc ns)] ⟨_,rfl⟩ (λk hk ρ ⟨z,ez⟩=>by
   subst ez;exact⟨_,rfl,⟨_,rfl⟩,zr rfl (hF k (by have:=a0a.mp hk;omega)).1⟩) (by rw[a0p];omega)
def ixW(h:k<us.length):pIx (wsP us) (nI k)=.ok (wkP us[k]):=by rw[d9 (by omega) (by rw[u8];omega),a0s];rfl
section
variable {ws:List Wk}{b:Nat}{G G':AH}
abbrev tO:HMS:=Ue (Ad (hP [] (mC (.s "care"))) (iF jG (Qz (Ud 0) (Qz (Ud 1) uj))))
abbrev Iz(ws:List Wk)(b:Nat):ZY:=[some (.v (wsP ws)),some (.v (nI b)),none]
def EV(h:jG [.v (wsP ws),.v (nI b)] G=.ok (.v x) G'):tO (Iz ws b) G=.rt (.v (.t [.s "care",x])) G':=by refine gm ?_;show((jG [.v (wsP ws),.v (nI b)] G).bind λy a=>.ok (mkT [.v (.s "care"),y]) a)=_;rw[h];rfl
def lC(h:jG [.v (wsP ws),.v (nI b)] G=.exc c fs G'):tO (Iz ws b) G=.exc c fs G':=by show(((jG [.v (wsP ws),.v (nI b)] G).bind λy d=>.ok (mkT [.v (.s "care"),y]) d).fw λx a=>.rt x a)=_;rw[h];rfl
def tP(h:jG [.v (wsP ws),.v (nI b)] G=.ok (.v x) G'):yZ [.v (wsP ws),.v (nI b)] G=.ok (.v (.t [.s "care",x])) G':=by refine X5 ?_;show Kh [5] [6] tO _ 2 _ (Iz ws b) G=_;unfold Kh;rw[EV h]
def tQ(h:jG [.v (wsP ws),.v (nI b)] G=.exc 5 [("name",.s z)] G'):yZ [.v (wsP ws),.v (nI b)] G=.ok (.v (.t [.s "none"])) G':=by refine X5 ?_;show Kh [5] [6] tO _ 2 _ (Iz ws b) G=_;unfold Kh;rw[lC h];rfl
def mT(h:jG [.v (wsP ws),.v (nI b)] G=.exc 6 [("first",x),("last",y),("cars",z)] G'):yZ [.v (wsP ws),.v (nI b)] G=.ok (.v (.t [.s "crowd",x,y,z])) G':=by refine X5 ?_;show Kh [5] [6] tO _ 2 _ (Iz ws b) G=_;unfold Kh;rw[lC h];rfl
def IA(f:ny ws)(d:w∈ws)(c:u∈ws)(e:w.nm=u.nm):w=u:=by have a:=EH f.nd d;rw[e,EH f.nd c]at a;exact(a0e a).symm
def tvT(ws:List Wk)(T:OR):To:=ws.map λw=>(w.nm,(qB T w.nm).map λn=>(n:Int))
def bQ:(tvT ws T).map (·.1)=nms ws:=by unfold tvT;rw[S4];rfl
def MP:tlP ws T=tvP (tvT ws T):=by unfold tlP tvP tvT;rw[S4];refine a0T λw _=>?_;rw[Ez];show _=(sk w.nm,oI ((qB T w.nm).map λn=>(n:Int)));cases qB T w.nm<;>rfl
def tR(f:ny ws)(a:w∈ws):tg (tvT ws T) w.nm=(qB T w.nm).map λn=>(n:Int):=by show(qB (tvT ws T) w.nm).join=_;rw[yV (by rw[bQ];exact f.nd) (show(w.nm,(qB T w.nm).map λn=>(n:Int))∈tvT ws T from O9.mpr ⟨w,a,rfl⟩)];rfl
def Ca(h:p∈chL ws):∃w∈ws,need w=true/\p=(w.nm,ntW w):=by unfold chL at h;obtain⟨w,a,e⟩:=O9.mp h;obtain⟨c,d⟩:=a0l.mp a;exact⟨w,c,d,e.symm⟩
def EW(f:ny ws)(h:noN (chL ws)=none)(q:∀f l,f<=l->l<=6->¬Crd (chL ws) b f l):Cd ws b (tvT ws (Tn (chL ws) b 7)):=by
 refine⟨λz=>by rw[bQ],λw a=>?_,λn _=>?_⟩
 .rw[tR f a];unfold nhB;rcases f.told h q w a with⟨p,d⟩|⟨n,l,_,d,i,o⟩
  .have c:need w=false:=by
    cases e:need w with
    |false=>rfl
    |true=>exact absurd (O9.mpr ⟨(w.nm,ntW w),by unfold chL;exact O9.mpr ⟨w,a0l.mpr ⟨a,e⟩,rfl⟩,rfl⟩) p
   rw[c,if_neg P0,d];rfl
  .obtain⟨u,m,c,e⟩:=Ca d;have j:=R9 Prod.fst e;have g:l=ntW u:=R9 Prod.snd e;obtain rfl:=IA f a m j;rw[c,if_pos rfl,o];exact a3b.mpr ⟨n,g▸i,O5 rfl⟩
 .have:cn (tvT ws (Tn (chL ws) b 7)) ws n=cnt (Tn (chL ws) b 7) ws n:=by
   unfold cn cnt;refine R9 List.length (List.filter_congr λw a=>?_);rw[tR f a];cases qB (Tn (chL ws) b 7) w.nm with
   |none=>rfl
   |some k=>show((some (k:Int))==some (n:Int))=(some k==some n);rw[a2E,a0b,a0b];exact⟨λe=>by have:=a0e e;exact R9 some (by omega),λe=>by rw[a0e e]⟩
  rw[this];exact a2G.mpr (Ig f.nd)
def AL(c:ny ws)(m:noN (chL ws)=none)(i:f<=l)(q:l<=6)(d:Crd (chL ws) b f l):Kd ws b f l (cw (chL ws) f l):=by
 have W:=c.win m;refine⟨a0D _,a2G.mpr i,by omega,cw_nd W.nd,λz hz=>?_,?_⟩
 .obtain⟨p,hp,e,r,o⟩:=cw_mem hz;obtain⟨w,g,h,a⟩:=Ca hp;refine⟨w,g,by rw[<- e,a],h,λn j=>?_⟩;have:=(W.iv p hp n).mp (by rw[a];exact j);omega
 .have:b*(l-f+1)<(cw (chL ws) f l).length:=d;rw[show(l:Int)-(f:Int)+1=((l-f+1:Nat):Int) by omega,<- Int.natCast_mul];exact Int.ofNat_lt.mpr this
def EX(h:dv ws=none)(d:b<=1000000000)(i:Rdy G):∃G',(∃T,Cd ws b T/\T.map (·.1)=nms ws/\yZ [.v (wsP ws),.v (nI b)] G=.ok (.v (.t [.s "care",.d (tvP T)])) G')\/yZ [.v (wsP ws),.v (nI b)] G=.ok (.v (.t [.s "none"])) G'\/∃(f l:Nat)(N:Oj),Kd ws b f l N/\N.length<=40/\yZ [.v (wsP ws),.v (nI b)] G=.ok (.v (.t [.s "crowd",nI f,nI l,.l (N.map .s)])) G':=by
 have f:=ZV h;cases c:noN (chL ws)with
 |some z=>exact⟨G,.inr (.inl (tQ (Ex h d c)))⟩
 |none=>
  rcases Ey h d c i with⟨m,G',_,e⟩|⟨a,l,j,n,g,e⟩
  .exact⟨G',.inl ⟨_,EW f c m,bQ,tP (by rw[e,MP])⟩⟩
  .refine⟨G,.inr (.inr ⟨a,l,_,AL f c j n g,?_,mT e⟩)⟩;unfold cw;rw[u8];exact P8 (a0J _ _) (P8 sY f.l)
end
def Cb:dput (tvP T) (sk z) (oI o)=tvP (dput T z o):=by
 have b:(tvP T).any (λa=>decide (a.1=sk z))=T.any (λa=>decide (a.1=z)):=by unfold tvP;rw[List.any_map];refine R9 (λp=>List.any T p) (funext λq=>a0L.mpr ⟨λh=>a1h h,λh:q.1=z=>R9 sk h⟩)
 unfold dput;rw[b];split
 .unfold tvP;rw[S4,S4];refine a0T λp _=>?_;show(if sk p.1=sk z then(sk p.1,oI o)else(sk p.1,oI p.2))=_;by_cases c:p.1=z
  .rw[if_pos (by rw[c])];show _=(sk (if p.1=z then(p.1,o)else p).1,oI (if p.1=z then(p.1,o)else p).2);rw[if_pos c]
  .rw[if_neg (λh=>c (a1h h))];show _=(sk (if p.1=z then(p.1,o)else p).1,oI (if p.1=z then(p.1,o)else p).2);rw[if_neg c]
 .unfold tvP;rw[T5];rfl
def EY:fP (tvP T) (sk z)=tvP (T.filter λp=>!decide (p.1=z)):=by unfold fP tvP;rw[List.filter_map];refine R9 (List.map _) (R9 (λp=>List.filter p T) (funext λq=>?_));show decide (sk q.1≠sk z) = !decide (q.1=z);rw[<- decide_not];exact a0L.mpr ⟨λh e=>h (by rw[e]),λh e=>h (a1h e)⟩
def tS{T:To}{z:Str}{o:OT}:(dput T z o).length<=T.length+1:=by
 unfold dput;split
 .rw[u8];omega
 .rw[P2];exact O2 _
def IB{xs:OD}{n:Nat}:Uc xs (some (n:Int)) none=xs.drop n:=by
 unfold Uc;rw[g_ (by omega),HT.Wz,a0t];by_cases h:n<=xs.length
 .rw[a17 h,a0N (by rw[a05];omega)]
 .rw[a2q (by omega),a1W,a1M (by omega),List.take_nil]
def MQ(h:a.length+b.length<=100000):zA (.l a) (.l b)=.ok (.l (a++b)):=by have:a.length+b.length<=sizeLine:=P8 h (by decide);unfold zA;simp only[this,if_true]
section
variable {ns:OC}{ws:List Wk}
abbrev nO(l:Og):List (Option Int):=l.map λn:Nat=>some (n:Int)
def Oe:(nO l).map oI=l.map nI:=by rw[S4];rfl
def some_at(b:ρ[1]?=some (some (wsP ws)))(d:ρ[3]?=some (some (nI k)))(c:k<ws.length)(a:ws[k]=w):mOp pIx (zc 1) (zc 3) ρ=.ok (wkP w):=
 zl (by unfold zc;rw[b]) (by unfold zc;rw[d]) (by rw[ixW c,a])
def mU(hk:k<ws.length)(hl:ws.length<=40)(hT:T.length<=100):∃ρ1,ZK (nI k) [some (.sc ns),some (wsP ws),some (.d (tvP T)),o3,o4]=some ρ1/\∃(o:OT)(o4':OQ),ZL ρ1=.ok (.nx [some (.sc ns),some (wsP ws),some (.d (tvP (dput T ws[k].nm o))),some (nI k),o4']):=by
 refine⟨_,rfl,?_⟩;obtain⟨w,hw⟩:∃w,ws[k]=w:=⟨_,rfl⟩;rw[hw];have ew:∀o4,mOp pIx (zc 1) (zc 3) [some (.sc ns),some (wsP ws),some (.d (tvP T)),some (nI k),o4]=.ok (wkP w):=λo4=>some_at rfl rfl hk hw;have ntl:(ntW w).length<=7:=lq;have s4:yH 4 (mOp zA (kH (zb (mC .n) zk)) (zf zO (zb (mOp pIx (zc 1) (zc 3)) zk))) [some (.sc ns),some (wsP ws),some (.d (tvP T)),some (nI k),o4]=.ok (.nx [some (.sc ns),some (wsP ws),some (.d (tvP T)),some (nI k),some (.l ((none::nO (ntW w)).map oI))]):=
  zH (zl (Yn rfl (S6 rfl)) (zr (zx (ew _) rfl) Zo) ((MQ (by rw[u8];show 1+_<=_;omega)).trans (by rw[R7,Oe];rfl)))
 obtain⟨q,_,eq⟩:=yB (ρ:=[some (.sc ns),some (wsP ws),some (.d (tvP T)),some (nI k),some (.l ((none::nO (ntW w)).map oI))]) (a:=mOp zA (mC (.i 170)) (zc 3)) (b:=mC (.i 9)) (by omega) (by omega) (by decide) rfl (zl rfl rfl rfl) rfl;have gt:zQ (mOp pGt (mOp zA (mOp pIx (mOp pIx (zc 1) (zc 3)) (mC (.i 1))) (zf Wb (zb (mOp pIx (mOp pIx (zc 1) (zc 3)) (mC (.i 3))) zk))) (mOp pIx (mOp pIx (zc 1) (zc 3)) (mC (.i 2)))) [some (.sc ns),some (wsP ws),some (.d (tvP T)),some (nI k),some (.l ((none::nO (ntW w)).map oI))]=.ok (need w):=
  zP (zl (zl (zl (ew _) rfl rfl) (zr (zx (zl (ew _) rfl rfl) rfl) UT) rfl) (zl (ew _) rfl rfl) rfl)
 have c:=QU gt (QT (n:=0) eq);obtain⟨xs,hx,hx2,e4⟩:∃xs:List (Option Int),xs≠[]/\xs.length<=20/\sIf (eV (zQ (mOp pGt (mOp zA (mOp pIx (mOp pIx (zc 1) (zc 3)) (mC (.i 1))) (zf Wb (zb (mOp pIx (mOp pIx (zc 1) (zc 3)) (mC (.i 3))) zk))) (mOp pIx (mOp pIx (zc 1) (zc 3)) (mC (.i 2))))) (zQ (mOp pGt (zf zg (zb (zc 0) (zb (mOp zA (mC (.i 170)) (zc 3)) (zb (mC (.i 9)) zk)))) (mC (.i 0))))) (yH 4 (mOp zA (mSl pSl (zc 4) (qW (mC (.i 1))) Wc) (mSl pSl (kH (zb (mC (.i 6)) zk)) Wc (qW (zf dk (zb (mOp (yQ false) (zf qZ (zb (zc 4) zk)) (mC (.i 1))) zk)))))) zG [some (.sc ns),some (wsP ws),some (.d (tvP T)),some (nI k),some (.l ((none::nO (ntW w)).map oI))]=.ok (.nx [some (.sc ns),some (wsP ws),some (.d (tvP T)),some (nI k),some (.l (xs.map oI))]):=by
  cases hc:(need w&&decide ((q:Int)>0))with
  |false=>rw[hc]at c;exact⟨none::nO (ntW w),a1C _ _,by rw[O1,u8];omega,(yp c).trans rfl⟩
  |true=>
   rw[hc]at c;have e1:mSl pSl (zc 4) (qW (mC (.i 1))) Wc [some (.sc ns),some (wsP ws),some (.d (tvP T)),some (nI k),some (.l ((none::nO (ntW w)).map oI))]=.ok (.l ((nO (ntW w)).map oI)):=by show Out.ok (PV.l (Uc ((none::nO (ntW w)).map oI) (some ((1:Nat):Int)) none))=_;rw[IB];rfl
   have e2:mSl pSl (kH (zb (mC (.i 6)) zk)) Wc (qW (zf dk (zb (mOp (yQ false) (zf qZ (zb (zc 4) zk)) (mC (.i 1))) zk))) [some (.sc ns),some (wsP ws),some (.d (tvP T)),some (nI k),some (.l ((none::nO (ntW w)).map oI))]=.ok (.l ((if(ntW w).length=0 then[some (6:Int)]else[]).map oI)):=by
    have pt:qW (zf dk (zb (mOp (yQ false) (zf qZ (zb (zc 4) zk)) (mC (.i 1))) zk)) [some (.sc ns),some (wsP ws),some (.d (tvP T)),some (nI k),some (.l ((none::nO (ntW w)).map oI))]=.ok (some (((if(ntW w).length=0 then 1 else 0:Nat)):Int)):=by
     refine D_ (zr (xs:=[.b (decide ((ntW w).length=0))]) (zx (zl (x:=.i (((ntW w).length:Int)+1)) (zr rfl (by show Out.ok (PV.i ((((none::nO (ntW w)).map oI).length:Nat):Int))=_;rw[u8,O1,u8];rfl)) rfl ?_) rfl) ?_)
     .rw[C8,a0K];exact R9 (λz=>Out.ok (PV.b z)) (a0L.mpr (by omega))
     .by_cases h:(ntW w).length=0
      .rw[O5 h,if_pos h];rfl
      .rw[O4 h,if_neg h];rfl
    have:mSl pSl (kH (zb (mC (.i 6)) zk)) Wc (qW (zf dk (zb (mOp (yQ false) (zf qZ (zb (zc 4) zk)) (mC (.i 1))) zk))) [some (.sc ns),some (wsP ws),some (.d (tvP T)),some (nI k),some (.l ((none::nO (ntW w)).map oI))]=.ok (.l (Uc [.i 6] none (some (((if(ntW w).length=0 then 1 else 0:Nat)):Int)))):=by unfold mSl;rw[Yn rfl (S6 rfl),okb];rw[pt];rfl
    rw[this,Es];by_cases h:(ntW w).length=0
    .rw[if_pos h,if_pos h];rfl
    .rw[if_neg h,if_neg h];rfl
   refine⟨nO (ntW w)++(if(ntW w).length=0 then[some (6:Int)]else[]),?_,?_,(WL c).trans (zH (zl e1 e2 ((MQ ?_).trans (by rw[T5]))))⟩
   .split
    .exact List.append_ne_nil_of_right_ne_nil _ (a1C _ _)
    .rename_i h;intro e;rw[a0h]at e;exact h (by rw[<- u8,show List.map _ _=_ from e];rfl)
   .rw[P2,u8];split
    .show _+1<=20;omega
    .show _+0<=20;omega
   .rw[u8,u8,u8];split
    .show _+1<=100000;omega
    .show _+0<=100000;omega
 have lx:=List.length_pos_iff.mpr hx;obtain⟨r,r1,er⟩:=yB (ρ:=[some (.sc ns),some (wsP ws),some (.d (tvP T)),some (nI k),some (.l (xs.map oI))]) (m:=(xs.length:Int)) (a:=mOp zA (mC (.i 160)) (zc 3)) (b:=zf qZ (zb (zc 4) zk)) (by omega) (by omega) (by omega) rfl (zl rfl rfl rfl) (zr rfl (by show Out.ok (PV.i ((xs.map oI).length:Int))=_;rw[u8]));have eo:pIx (.l (xs.map oI)) (nI r)=.ok (oI (xs[r]'(by omega))):=by rw[d9 (by omega) (by rw[u8];exact r1),a0s];rfl
 exact⟨xs[r]'(by omega),some (.l (xs.map oI)),zd ⟨_,s4,zd ⟨_,e4,(iZ rfl (zl (ew _) rfl rfl) (zl rfl er eo) (by unfold tvP;rw[u8];omega)).trans (by rw[Cb];rfl)⟩⟩⟩
end
def AN(nd:(nms ws).Nodup)(hl:ws.length<=40):∃T:To,T.map (·.1)=nms ws/\jE [.sc ns,wsP ws]=.ok (.d (tvP T)):=by
 have len:∀{T:To}{n:Nat},T.map (·.1)=(nms ws).take n->T.length<=40:=λ{T n} h=>by have:=R9 List.length h;rw[u8,a0F,u8]at this;omega
 obtain⟨ρ,⟨T,o3,o4,hT,e⟩,q⟩:=xm (λn ρ=>∃(T:To)(o3 o4:OQ),T.map (·.1)=(nms ws).take n/\ρ=[some (.sc ns),some (wsP ws),some (.d (tvP T)),o3,o4]) ws.length [some (.sc ns),some (wsP ws),some (.d (tvP [])),none,none] ⟨[],none,none,rfl,rfl⟩ λk hk ρ ⟨T,o3,o4,hT,e⟩=>by
  subst e;obtain⟨ρ1,h1,o,o4',h2⟩:=mU (T:=T) hk hl (by have:=len hT;omega);refine⟨ρ1,h1,_,⟨dput T ws[k].nm o,some (nI k),o4',?_,rfl⟩,.inl h2⟩;have hk':k<(nms ws).length:=by rw[u8];exact hk
  have hn:qB T ws[k].nm=none:=by
   have:¬ws[k].nm∈T.map (·.1):=by rw[hT,<- a0s (λw:Wk=>w.nm)];exact i_ nd hk'
   cases e:qB T ws[k].nm with
   |none=>rfl
   |some x=>exact absurd (J_.mp (by rw[e];rfl)) this
  rw[dm,if_neg (by rw[hn];exact P0),hT,List.take_add_one,O3 hk',a0s];rfl
 subst e;refine⟨T,by rw[hT,a0N (by rw[u8];exact O2 _)],zE (zd ⟨_,zH rfl,zd ⟨_,kJ (Bu (zx (zr rfl (by show Out.ok (PV.i ((ws.map wkP).length:Int))=_;rw[u8])) rfl) (by omega)) q,jZ rfl⟩⟩)⟩
def EZ(b:ρ[i]?=some (some (.d kvs)))(a:mk ρ=.ok (kP k))(h:(qB kvs k).isSome=true):fQ i mk ρ=.ok (.nx (ρ.set i (some (.d (fP kvs k))))):=by unfold fQ;rw[b];dsimp only;rw[a,okb,HK];dsimp only;rw[if_pos h]
def IC(h:ρ[i]?=some (some (.d kvs))):zQ (mOp (yQ true) (zc i) aL) ρ=.ok (!kvs.isEmpty):=by
 refine zP (zl (by unfold zc;rw[h]) rfl ?_);cases kvs with
 |nil=>rfl
 |cons q r=>rfl
def Tdc(n:Nat)(T:To):Prop:=(T.map (·.1)).Nodup/\T.length<=n
def Tdc.put(h:Tdc n T):Tdc (n+1) (dput T z o):=
 ⟨mz h.1,P8 tS (by have:=h.2;omega)⟩
def Tdc.mono(h:Tdc m T)(a:m<=n):Tdc n T:=⟨h.1,P8 h.2 a⟩
def gA(d:Tdc 500 T)(c:ρ[i]?=some (some (.d (tvP T))))(b:mk ρ=.ok (.s z))(a:mv ρ=.ok (oI o)):c5 i mk mv ρ=.ok (.nx (ρ.set i (some (.d (tvP (dput T z o)))))):=
 (iZ c b a (by unfold tvP;rw[u8];have:=d.2;omega)).trans (by rw[Cb])
section
variable {ns:OC}
abbrev tSp(ns:OC)(T:To)(y:Nat)(z:OQ):Sto:=[some (.sc ns),some (.d (tvP T)),some (nI y),z]
def WR(h:c (tSp ns T y z)=.ok x)(g:Tdc m T)(i:∃d,Tdc (m+1) d/\A (tSp ns T y z)=.ok (.nx (tSp ns d y z))):∃d,Tdc (m+1) d/\sIf c A zG (tSp ns T y z)=.ok (.nx (tSp ns d y z)):=by
 have t:=yp (a:=A) (b:=zG) h;cases x with
 |true=>obtain⟨f,p,e⟩:=i;exact⟨f,p,t.trans e⟩
 |false=>exact⟨T,g.mono (a0Y m),t⟩
def mV(w:Tdc 40 T):∃f,Tdc 45 f/\qS [.sc ns,.d (tvP T)]=.ok (.d (tvP f)):=by
 obtain⟨y,_,H⟩:=yB (ρ:=[some (.sc ns),some (.d (tvP T)),none,none]) (a:=mC (.i 180)) (b:=mC (.i 8)) (by decide) (by decide) (by decide) rfl rfl rfl;have g:∀{T:To}{z:OQ}{n:Int},zQ (mOp (yQ false) (zc 2) (mC (.i n))) (tSp ns T y z)=.ok (decide ((y:Int)=n)):=λ{T z n}=>vI rfl;obtain⟨d,l,M⟩:=WR (A:=c5 1 (mC (.s "none")) (mC .n)) (g) w ⟨_,w.put (o:=none),gA (w.mono (by decide)) rfl rfl rfl⟩;have t:vN (.i 10) (.i 20)=.ok (.i 100000000000000000000):=by rw[c_ (by decide) (by decide) (by decide)];rfl
 suffices h:∃f z,Tdc 45 f/\sIf (zQ (mOp (yQ true) (zc 1) aL)) (zZ (yH 3 (mOp pIx (zf kK (zb (zc 1) zk)) (zf zg (zb (zc 0) (zb (mC (.i 181)) (zb (zf qZ (zb (zc 1) zk)) zk)))))) (zZ (sIf (zQ (mOp (yQ false) (zc 2) (mC (.i 1)))) (fQ 1 (zc 3)) zG) (zZ (sIf (zQ (mOp (yQ false) (zc 2) (mC (.i 2)))) (c5 1 (zc 3) (mC .n)) zG) (sIf (zQ (mOp (yQ false) (zc 2) (mC (.i 3)))) (c5 1 (zc 3) (mOp pIx (kH (zb (mUn m_ (mC (.i 1))) (zb (mC (.i 0)) (zb (mC (.i 6)) (zb (mC (.i 7)) (zb (mC (.i 3)) (zb (mOp vN (mC (.i 10)) (mC (.i 20))) zk))))))) (zf zg (zb (zc 0) (zb (mC (.i 182)) (zb (mC (.i 6)) zk)))))) zG)))) zG (tSp ns d y none)=.ok (.nx (tSp ns f y z)) by obtain⟨f,z,h,e⟩:=h;exact⟨f,h,zE (zd ⟨_,zH (zr rfl rfl),zd ⟨_,zH H,zd ⟨_,M,zd ⟨_,e,jZ rfl⟩⟩⟩⟩)⟩
 have c:=IC (i:=1) (ρ:=tSp ns d y none) rfl;cases b:(tvP d).isEmpty with
 |true=>rw[b]at c;exact⟨d,none,l.mono (by decide),(yp c).trans rfl⟩
 |false=>
  rw[b]at c;have Q:0<d.length:=by
   cases d with
   |nil=>cases b
   |cons q r=>exact a2d _
  obtain⟨j,R,E⟩:=yB (ρ:=tSp ns d y none) (m:=(d.length:Int)) (a:=mC (.i 181)) (b:=zf qZ (zb (zc 1) zk)) (by decide) (by decide) (by omega) rfl rfl (zr rfl (by show Out.ok (PV.i ((tvP d).length:Int))=_;unfold tvP;rw[u8]));have B:j<(d.map (·.1)).length:=by rw[u8];omega
  obtain⟨z,hz,F⟩:∃z∈d.map (·.1),mOp pIx (zf kK (zb (zc 1) zk)) (zf zg (zb (zc 0) (zb (mC (.i 181)) (zb (zf qZ (zb (zc 1) zk)) zk)))) (tSp ns d y none)=.ok (.s z):=by refine⟨(d.map (·.1))[j],a1g B,zl (zr rfl (R9 (λz=>Out.ok (PV.l z)) (by unfold tvP;rw[S4,S4];rfl))) E (ML B)⟩
  have I:∃f,Tdc 42 f/\sIf (zQ (mOp (yQ false) (zc 2) (mC (.i 1)))) (fQ 1 (zc 3)) zG (tSp ns d y (some (.s z)))=.ok (.nx (tSp ns f y (some (.s z)))):=by refine WR g l ⟨d.filter λp=>!decide (p.1=z),⟨l.1.sublist (List.filter_sublist.map _),P8 (a0J _ _) (a1t l.2)⟩,?_⟩;refine(EZ rfl rfl (by rw[B4,a1P];exact J_.mpr hz)).trans ?_;rw[EY];rfl
  obtain⟨C,u,D⟩:=I;obtain⟨O,s,J⟩:=WR (z:=some (.s z)) (A:=c5 1 (zc 3) (mC .n)) (g) u ⟨_,u.put (o:=none),gA (u.mono (by decide)) rfl rfl rfl⟩;obtain⟨i,P,L,ei⟩:=Y6 (k:=182) (m:=6) (by decide) (by decide) (by decide);obtain⟨v,_,ev⟩:=iW (xs:=[-1,0,6,7,3,100000000000000000000]) P L;obtain⟨G,N,K⟩:=WR (z:=some (.s z)) (A:=c5 1 (zc 3) (mOp pIx (kH (zb (mUn m_ (mC (.i 1))) (zb (mC (.i 0)) (zb (mC (.i 6)) (zb (mC (.i 7)) (zb (mC (.i 3)) (zb (mOp vN (mC (.i 10)) (mC (.i 20))) zk))))))) (zf zg (zb (zc 0) (zb (mC (.i 182)) (zb (mC (.i 6)) zk)))))) (g) s ⟨_,s.put (o:=some v),gA (s.mono (by decide)) rfl rfl (zl (Yn (zx rfl (zx rfl (zx rfl (zx rfl (zx rfl (zx (zl rfl rfl t) rfl)))))) (S6 rfl)) (zr rfl ei) ev)⟩;exact⟨G,some (.s z),N.mono (by decide),(WL c).trans (zd ⟨_,zH F,zd ⟨_,D,zd ⟨_,J,K⟩⟩⟩)⟩
end
theorem lD:∀{a:OC},nv a=none->∀x∈a,¬(x<0\/1000000000<x)
 |[],_,x,h=>by cases h
 |y::a,h,x,b=>by
  unfold nv at h;by_cases c:y<0\/1000000000<y
  .rw[if_pos c]at h;cases h
  .rw[if_neg c]at h;rcases P7.mp b with e|b
   .rw[e];exact c
   .exact lD h x b
def Cc(h:dv us=none):(∀w∈us,ZT w.nm=true/\dvN w=none)/\(nms us).Nodup:=by
 unfold dv at h;by_cases c:40<us.length
 .rw[if_pos c]at h;cases h
 .rw[if_neg c]at h;obtain⟨b,d⟩:=bJ h;exact⟨λw a=>⟨(b w a).1,(b w a).2.2⟩,d⟩
def Bd(w:Wk):Prop:=ZT w.nm=false\/dvN w≠none
def ID:ZT (z++" ")=false:=by unfold ZT;rw[Bool.and_eq_false_iff];refine .inr (List.all_eq_false.mpr ⟨32,?_,by decide⟩);show 32∈(z.cps++#[32]).toList;rw[a4g];exact R4 _ (T6.mpr rfl)
section
variable {ns:OC}{ws:List Wk}
abbrev bSt(ns:OC)(us:List Wk)(y:Int)(k:Nat)(w:Wk):Sto:=[some (.sc ns),some (wsP us),some (.i y),some (nI k),some (.s w.nm),some (.i w.m),some (.i w.d),some (lsP w.ls)]
def kA(h:zc 2 ρ=.ok (.i y))(a:y≠n):sIf (zQ (mOp (yQ false) (zc 2) (mC (.i n)))) A zG ρ=.ok (.nx ρ):=by have c:=vI (n:=n) h;rw[O4 a]at c;exact(yp c).trans rfl
def bR(h:zc 2 ρ=.ok (.i n))(a:A ρ=.ok (.nx ρ')):sIf (zQ (mOp (yQ false) (zc 2) (mC (.i n)))) A zG ρ=.ok (.nx ρ'):=by have c:=vI (n:=n) h;rw[O5 rfl]at c;exact(WL c).trans a
def p9:vN (.i 10) (.i 9)=.ok (.i 1000000000):=by rw[c_ (by decide) (by decide) (by decide)];rfl
def AO(hz:w.nm.length<=12)(M:w.ls.length=7)(L:0<=y)(N:y<4):∃u:Wk,Bd u/\u.nm.length<=20/\
  ∀q:MS,zZ (sIf (zQ (mOp (yQ false) (zc 2) (mC (.i 0)))) (yH 4 (mOp pIx (kH (zb (mC (.s "")) (zb (mC (.s "B")) (zb (mOp zA (zc 4) (mC (.s " "))) zk)))) (zf zg (zb (zc 0) (zb (mC (.i 5)) (zb (mC (.i 3)) zk)))))) zG)
   (zZ (sIf (zQ (mOp (yQ false) (zc 2) (mC (.i 1)))) (yH 5 (mOp pIx (kH (zb (mUn m_ (mC (.i 1))) (zb (mOp zA (mOp vN (mC (.i 10)) (mC (.i 9))) (mC (.i 1))) zk))) (zf zg (zb (zc 0) (zb (mC (.i 5)) (zb (mC (.i 2)) zk)))))) zG)
   (zZ (sIf (zQ (mOp (yQ false) (zc 2) (mC (.i 2)))) (yH 6 (mOp pIx (kH (zb (mC (.i 0)) (zb (mOp vN (mC (.i 10)) (mC (.i 20))) zk))) (zf zg (zb (zc 0) (zb (mC (.i 5)) (zb (mC (.i 2)) zk)))))) zG)
   (zZ (sIf (zQ (mOp (yQ false) (zc 2) (mC (.i 3)))) (Uk 7 (zf zg (zb (zc 0) (zb (mC (.i 6)) (zb (mC (.i 7)) zk)))) (mOp pIx (kH (zb (mUn m_ (mC (.i 1))) (zb (mOp zA (mOp vN (mC (.i 10)) (mC (.i 9))) (mC (.i 1))) zk))) (zf zg (zb (zc 0) (zb (mC (.i 5)) (zb (mC (.i 2)) zk)))))) zG) q))) (bSt ns ws y k w)=q (bSt ns ws y k u):=by
 obtain⟨j,t,x,A⟩:=Y6 (k:=5) (m:=2) (by decide) (by decide) (by decide);obtain⟨n,E,en⟩:=iW (xs:=[-1,1000000001]) t x;have C:n<0\/1000000000<n:=by simp only[List.mem_cons,List.not_mem_nil,or_false]at E;omega
 have l:∀{o:Sto},zc 0 o=.ok (.sc ns)->mOp pIx (kH (zb (mUn m_ (mC (.i 1))) (zb (mOp zA (mOp vN (mC (.i 10)) (mC (.i 9))) (mC (.i 1))) zk))) (zf zg (zb (zc 0) (zb (mC (.i 5)) (zb (mC (.i 2)) zk)))) o=.ok (.i n):=λh=>
  zl (Yn (zx rfl (zx (zl (zl rfl rfl p9) rfl rfl) rfl)) (S6 rfl)) (zr (zx h rfl) A) en
 have g:y=0\/y=1\/y=2\/y=3:=by omega
 rcases g with rfl|rfl|rfl|rfl
 .obtain⟨i,H,G,ei⟩:=Y6 (k:=5) (m:=3) (by decide) (by decide) (by decide);obtain⟨z,f,F⟩:=nY (xs:=["","B",w.nm++" "]) H G;have s:ZT z=false/\z.length<=20:=by
   simp only[List.mem_cons,List.not_mem_nil,or_false]at f;rcases f with rfl|rfl|rfl
   .exact⟨by decide,by decide⟩
   .exact⟨by decide,by decide⟩
   .exact⟨ID,by rw[str_len];have:(" ":Str).length=1:=rfl;omega⟩
  refine⟨⟨z,w.m,w.d,w.ls⟩,.inl s.1,s.2,λq=>?_⟩;refine zd ⟨_,bR rfl (zH (zl (Yn (zx rfl (zx rfl (zx (zl rfl rfl (MB (n:=100) (by have:(" ":Str).length=1:=rfl;omega) (by decide))) rfl))) (S6 rfl)) (zr rfl ei) F)),zd ⟨_,kA rfl (by decide),zd ⟨_,kA rfl (by decide),zd ⟨_,kA rfl (by decide),rfl⟩⟩⟩⟩
 .refine⟨⟨w.nm,n,w.d,w.ls⟩,.inr ?_,by show w.nm.length<=20;omega,λq=>?_⟩
  .unfold dvN;rw[if_pos (show n<0\/1000000000<n from C)];exact nofun
  .exact zd ⟨_,kA rfl (by decide),zd ⟨_,bR rfl (zH (l rfl)),zd ⟨_,kA rfl (by decide),zd ⟨_,kA rfl (by decide),rfl⟩⟩⟩⟩
 .have p:vN (.i 10) (.i 20)=.ok (.i 100000000000000000000):=by rw[c_ (by decide) (by decide) (by decide)];rfl
  obtain⟨d,I,D⟩:=iW (xs:=[0,100000000000000000000]) t x;refine⟨⟨w.nm,w.m,d,w.ls⟩,.inr ?_,by show w.nm.length<=20;omega,λq=>?_⟩
  .unfold dvN;by_cases c:w.m<0\/1000000000<w.m
   .rw[if_pos c];exact nofun
   .rw[if_neg c,if_pos (show d<1\/d>1000000000 by
     simp only[List.mem_cons,List.not_mem_nil,or_false]at I;omega)]
    exact nofun
  .exact zd ⟨_,kA rfl (by decide),zd ⟨_,kA rfl (by decide),zd ⟨_,bR rfl (zH (zl (Yn (zx rfl (zx (zl rfl rfl p) rfl)) (S6 rfl)) (zr rfl A) D)),zd ⟨_,kA rfl (by decide),rfl⟩⟩⟩⟩
 .obtain⟨r,K,J⟩:=yB (ρ:=bSt ns ws 3 k w) (a:=mC (.i 6)) (b:=mC (.i 7)) (by decide) (by decide) (by decide) rfl rfl rfl;refine⟨⟨w.nm,w.m,w.d,w.ls.set r n⟩,.inr ?_,by show w.nm.length<=20;omega,λq=>?_⟩
  .intro h;have e:=h;unfold dvN at e;by_cases c:w.m<0\/1000000000<w.m
   .rw[if_pos c]at e;cases e
   .rw[if_neg c]at e;by_cases B:w.d<1\/w.d>1000000000
    .rw[if_pos B]at e;cases e
    .rw[if_neg B]at e;exact lD e n (a2H.mpr ⟨r,by rw[a0i];omega,a3Y _⟩) C
  .refine zd ⟨_,kA rfl (by decide),zd ⟨_,kA rfl (by decide),zd ⟨_,kA rfl (by decide),zd ⟨_,bR rfl ((bN rfl (l rfl) J (by rw[u8];omega)).trans rfl),?_⟩⟩⟩⟩;show q [_,_,_,_,_,_,_,some (.l ((w.ls.map PV.i).set r (.i n)))]=_;rw[<- a4v]
end
def lE{a:Type}{enc:a->PV}{xs:List a}(h:m ρ=.ok (.l (xs.map enc))):zQ (mOp (yQ true) m (kH zk)) ρ=.ok (!xs.isEmpty):=by refine zP (zl h (Yn rfl (a0c _)) ?_);rw[pD];cases xs<;>rfl
def Y_(h:c ρ=.ok false):sIf c A zG ρ=.ok (.nx ρ):=(yp h).trans rfl
def tT(h:us≠ws):tK us ws=false:=by
 cases e:tK us ws with
 |false=>rfl
 |true=>exact absurd (KJ.mp e) h
def Ce(h:dv ws=none)(z:Wok 12 ws)(Q:ws.length<=8):∃l,(l=ws\/dv l≠none)/\(∀w∈l,w.nm.length<=1000)/\l.length<=20/\vt [.sc ns,wsP ws]=.ok (wsP l):=by
 have i:∀w∈ws,w.nm.length<=1000:=λw g=>by have:=(z w g).1;omega
 obtain⟨y,P,t⟩:=yB (ρ:=[some (.sc ns),some (wsP ws),none,none,none,none,none,none]) (a:=mC (.i 3)) (b:=mC (.i 25)) (by decide) (by decide) (by decide) rfl rfl rfl;have s:yH 1 (zf kK (zb (zc 1) zk)) [some (.sc ns),some (wsP ws),none,none,none,none,none,none]=.ok (.nx [some (.sc ns),some (wsP ws),none,none,none,none,none,none]):=zH (zr rfl rfl);have G:=lE (m:=zc 1) (ρ:=[some (.sc ns),some (wsP ws),some (nI y),none,none,none,none,none]) rfl;have c:=QU (sL (a:=zc 2) (n:=4) rfl) G;have e:=QU (vI (a:=zc 2) (n:=4) rfl) G;have len:∀{f:Sto},zc 1 f=.ok (wsP ws)->zf qZ (zb (zc 1) zk) f=.ok (.i (ws.length:Int)):=λh=>zr (zx h rfl) (by show Out.ok (PV.i ((ws.map wkP).length:Int))=_;rw[u8]);cases A:ws.isEmpty with
 |true=>rw[A]at c e;rw[a2W,a08]at c e;exact⟨ws,.inl rfl,i,by omega,zE (zd ⟨_,s,zd ⟨_,zH t,zd ⟨_,Y_ c,zd ⟨_,Y_ e,jZ rfl⟩⟩⟩⟩)⟩
 |false=>
  rw[A]at c e;rw[Bool.not_false,a10]at c e;have R:0<ws.length:=by
   cases ws with
   |nil=>cases A
   |cons w r=>exact a2d _
  obtain⟨k,O,H⟩:=yB (ρ:=[some (.sc ns),some (wsP ws),some (nI y),none,none,none,none,none]) (a:=mC (.i 4)) (by decide) (by decide) (by omega) rfl rfl (len rfl);have p:k<ws.length:=by omega
  obtain⟨w,E⟩:∃w,ws[k]=w:=⟨_,rfl⟩;have g:=E▸a1g p;by_cases B:(y:Int)<4
  .rw[O5 B]at c;obtain⟨u,M,S,q⟩:=AO (z w g).1 (z w g).2 (a0D _) B;have D:u∈ws.set k u:=a2H.mpr ⟨k,by rw[a0i];exact p,a3Y _⟩;refine⟨ws.set k u,.inr λC=>?_,λv d=>?_,by rw[a0i];omega,?_⟩
   .obtain⟨J,I⟩:=(Cc C).1 u D;rcases M with b|b
    .rw[J]at b;cases b
    .exact b I
   .rcases List.mem_or_eq_of_mem_set d with d|rfl
    .exact i v d
    .omega
   .have N:xf (gTp 4 (zY (gNm 4) (zY (gNm 5) (zY (gNm 6) (zY (gNm 7) Wf))))) (mOp pIx (zc 1) (zc 3)) [some (.sc ns),some (wsP ws),some (nI y),some (nI k),none,none,none,none]=.ok (.nx (bSt ns ws y k w)):=tE (zl rfl rfl (by rw[ixW p,E])) rfl;have K:Uk 1 (zc 3) (mq (zb (zc 4) (zb (zc 5) (zb (zc 6) (zb (zc 7) zk))))) (bSt ns ws y k u)=.ok (.nx (bSt ns (ws.set k u) y k u)):=by refine(bN rfl (sO rfl (S6 rfl)) rfl (by rw[u8];exact p)).trans ?_;rw[<- a4v];rfl
    have F:=QU (vI (a:=zc 2) (ρ:=bSt ns (ws.set k u) y k u) (n:=4) rfl) (lE (m:=zc 1) rfl);rw[O4 (by omega),a2e]at F;exact zE (zd ⟨_,s,zd ⟨_,zH t,zd ⟨_,(WL c).trans (zd ⟨_,zH H,zd ⟨_,N,zd ⟨_,zH (zr rfl rfl),(q _).trans K⟩⟩⟩),zd ⟨_,Y_ F,jZ rfl⟩⟩⟩⟩)
  .rw[O4 B]at c;by_cases o:(y:Int)=4
   .rw[O5 o]at e;refine⟨ws++[w],.inr λC=>?_,λv d=>?_,by rw[P2];show _+1<=20;omega,?_⟩
    .have:=(Cc C).2;rw[show nms (ws++[w])=nms ws++[w.nm]from T5]at this;exact(a0Q.mp this).2.2 w.nm (O9.mpr ⟨w,g,rfl⟩) w.nm (T6.mpr rfl) rfl
    .rcases a0q.mp d with d|d
     .exact i v d
     .rw[T6.mp d];exact i w g
    .have L:nk 1 (mOp pIx (zc 1) (zf zg (zb (zc 0) (zb (mC (.i 4)) (zb (zf qZ (zb (zc 1) zk)) zk))))) [some (.sc ns),some (wsP ws),some (nI y),none,none,none,none,none]=.ok (.nx [some (.sc ns),some (wsP (ws++[w])),some (nI y),none,none,none,none,none]):=
      (la rfl (zl rfl H (by rw[ixW p,E])) (by rw[u8];omega)).trans (by rw[show ws.map wkP++[wkP w]=(ws++[w]).map wkP by rw[T5];rfl];rfl)
     exact zE (zd ⟨_,s,zd ⟨_,zH t,zd ⟨_,Y_ c,zd ⟨_,(WL e).trans L,jZ rfl⟩⟩⟩⟩)
   .rw[O4 o]at e;exact⟨ws,.inl rfl,i,by omega,zE (zd ⟨_,s,zd ⟨_,zH t,zd ⟨_,Y_ c,zd ⟨_,Y_ e,jZ rfl⟩⟩⟩⟩)⟩
def E1:yQ false (ntP l) (.l [])=.ok (.b l.isEmpty):=by rw[pD];cases l<;>rfl
def tU:∃c,qT [wkP w,.i f,.i l]=.ok (.b c):=by
 have e:=ZA (g:=YR) (c:=YS) (e:=YT) nI (λn=>decide ((n:Int)<f)||decide ((n:Int)>l)) nI (λb=>∃a,b=[a,some (.i f),some (.i l)]) (ntW w) [none,some (.i f),some (.i l)] [] ⟨_,rfl⟩ (λn _ b ⟨_,d⟩=>by
  subst d;exact⟨_,rfl,⟨_,rfl⟩,Vn (zP (zl rfl rfl rfl)) (zP (zl rfl rfl rfl)),λ_=>rfl⟩) (by have:(ntW w).length<=7:=lq;show 0+_<=_;omega)
 exact⟨_,zE (jZ (zl (Ym (yk (zr rfl Zo)) e) (Yn rfl (a0c _)) E1))⟩
def AQ(h:dv ws=none)(a:us=ws\/dv us≠none)(hz:∀w∈us,w.nm.length<=1000)(e:yd [wsP ws,.i B,.d (tvP T)]=.ok (.b b)):yd [wsP us,.i B,.d (tvP T)]=.ok (.b (b&&tK us ws)):=by
 rcases a with rfl|a
 .rw[KJ.mpr rfl,a10];exact e
 .rw[tT (λe=>a (by rw[e];exact h)),a08];exact KI hz (.inl a)
def tV{us:List Wk}{B f l:Int}{N:Oj}{b:Bool}(h:dv ws=none)(a:us=ws\/dv us≠none)(hz:∀w∈us,w.nm.length<=1000)(e:ya [wsP ws,.i B,.i f,.i l,.l (N.map .s)]=.ok (.b b)):ya [wsP us,.i B,.i f,.i l,.l (N.map .s)]=.ok (.b (b&&tK us ws)):=by
 rcases a with rfl|a
 .rw[KJ.mpr rfl,a10];exact e
 .rw[tT (λe=>a (by rw[e];exact h)),a08];exact QV hz (.inl a)
def tW(c:m ρ=.ok (.b b))(d:zc i ρ=.ok (wsP us))(a:zc j ρ=.ok (wsP ws)):V_ m (mOp (yQ false) (zc i) (zc j)) ρ=.ok (.b (b&&tK us ws)):=
 JG c (zl d a (by rw[pD,EI];exact R9 (λz=>Out.ok (PV.b z)) (a0K _)))
section
variable {ns:OC}{ws:List Wk}{b:Nat}{wd:PV}
abbrev cS(ns:OC)(ws:List Wk)(b:Nat)(wd:PV)(f l:Int)(N:Oj)(o6 o7 o9 o10 o11:OQ):Sto:=[some (.sc ns),some (wsP ws),some (nI b),some wd,some (.i f),some (.i l),o6,o7,some (.l (N.map .s)),o9,o10,o11]
def Wd(ws:List Wk)(b:Nat)(wd:PV):Prop:=(∃T:To,Cd ws b T/\T.map (·.1)=nms ws/\wd=.t [.s "care",.d (tvP T)])\/wd=.t [.s "none"]\/∃(f l:Nat)(N:Oj),Kd ws b f l N/\N.length<=40/\wd=.t [.s "crowd",nI f,nI l,.l (N.map .s)]
def Vq(h:dv ws=none)(p:0<=B)(o:B<=1000000000)(g:N.length<=1000):∃c,qo [wsP ws,.i B,.i f,.i l,.l (N.map .s)]=.ok (.b c)/\ya [wsP ws,.i B,.i f,.i l,.l (N.map .s)]=.ok (.b c)/\(c=true↔Kd ws B f l N):=by
 have a:=ZV h;obtain⟨c,m,e⟩:=tI a (show -1<=B by omega) (show B<=2000000000 by omega) g;obtain⟨d,i,n⟩:=UE (λw j=>P8 (a.z w j) (by decide)) h (show ¬oob B by unfold oob;omega) g;have:c=d:=by rw[a2E,e,n]
 subst this;exact⟨c,m,i,e⟩
def lF(h:zc i c=.ok (wsP us))(f:∀w a,g (wkP w) [a]=some [some (wkP w)])(he:∀w,e [some (wkP w)]=.ok (.s w.nm))(j:us.length<=1000):mLC (z8 (zc i)) [none] g bX e c=.ok (.l ((nms us).map .s)):=by refine Ym (yk h) ((vm wkP (λw=>.s w.nm) (λc=>∃z,c=[z]) us [none] ⟨_,rfl⟩ (λw _ c ⟨_,d⟩=>by subst d;exact⟨_,f w _,⟨_,rfl⟩,he w⟩) (by omega)).trans ?_);rw[S4];rfl
theorem tX{c d:Type}{g:c->d}:∀{a:List c}{k:Nat},(a.map g).eraseIdx k=(a.eraseIdx k).map g
 |[],_=>rfl
 |x::a,0=>rfl
 |x::a,k+1=>by rw[R7,a1c,a1c,tX];rfl
def CS(ns:OC)(ws:List Wk)(b:Nat)(wd:PV)(y:Int)(m:Nat)(s:MS)(ρ:Sto):Prop:=∃(f l:Int)(N:Oj)(c a:OQ),N.length<=m/\s ρ=.ok (.nx (cS ns ws b wd f l N c a (some (.i y)) none none))
def CS.opt{y n:Int}(j:N.length<=m)(h:c (cS ns ws b wd f l N o6 o7 (some (.i y)) none none)=.ok x)(o:x=true->CS ns ws b wd y (m+1) A (cS ns ws b wd f l N o6 o7 (some (.i y)) none none)):CS ns ws b wd y (m+1) (sIf c A zG) (cS ns ws b wd f l N o6 o7 (some (.i y)) none none):=by
 have t:=yp (a:=A) (b:=zG) h;cases x with
 |true=>obtain⟨i,p,q,d,g,a,e⟩:=o rfl;exact⟨i,p,q,d,g,a,t.trans e⟩
 |false=>exact⟨f,l,N,o6,o7,a1t j,t⟩
variable {y:Int}{m:Nat}{f l:Int}{N:Oj}{o6 o7:OQ}(hN:N.length<=m) (hm:m<=100)
def gB(h:zc 8 ρ=.ok (.l (N.map .s))):zf qZ (zb (zc 8) zk) ρ=.ok (.i (N.length:Int)):=zr (xs:=[.l (N.map .s)]) (zx h rfl) (by show Out.ok (PV.i ((N.map PV.s).length:Int))=_;rw[u8])
def Nv:zQ (mOp (yQ true) (zc 8) (kH zk)) (cS ns ws b wd f l N o6 o7 (some (.i y)) none none)=.ok (!N.isEmpty):=lE rfl
def tY(a:N.length<=m)(c:A (cS ns ws b wd f l N o6 o7 (some (.i y)) none none)=.ok (.nx (cS ns ws b wd f' l' N o6 o7 (some (.i y)) none none))):CS ns ws b wd y (m+1) (sIf (zQ (mOp (yQ false) (zc 9) (mC (.i n)))) A zG) (cS ns ws b wd f l N o6 o7 (some (.i y)) none none):=
 CS.opt (n:=0) a (vI rfl) λ_=>⟨f',l',N,o6,o7,a1t a,c⟩
include hN hm
def IE:CS ns ws b wd y (m+1) (sIf (zQ (mOp (yQ false) (zc 9) (mC (.i 0)))) (Lc 8 (zf zg (zb (zc 0) (zb (mC (.i 195)) (zb (mOp zA (mC (.i 1)) (zf qZ (zb (zc 8) zk))) zk)))) (mC (.s "none"))) zG) (cS ns ws b wd f l N o6 o7 (some (.i y)) none none):=by
 refine CS.opt (n:=0) hN (vI rfl) λ_=>?_;obtain⟨k,d,c⟩:=yB (ns:=ns) (ρ:=cS ns ws b wd f l N o6 o7 (some (.i y)) none none) (k:=195) (m:=1+(N.length:Int)) (a:=mC (.i 195)) (b:=mOp zA (mC (.i 1)) (zf qZ (zb (zc 8) zk))) (by decide) (by decide) (by omega) rfl rfl (zl rfl (gB rfl) rfl);refine⟨f,l,N.take k++("none":Str)::N.drop k,o6,o7,?_,?_⟩
 .rw[P2,O1,a0F,a05];omega
 .show((zf zg _ _).bind λk=>(mC (.s "none") _).bind λy=>DY 8 (N.map .s) _ k y)=_;rw[c,okb];show DY 8 (N.map .s) _ (nI k) (.s "none")=_;unfold DY;dsimp only;rw[if_pos ⟨a0D _,by rw[a0t,u8];omega,a1o (show(N.map PV.s).length<=1000 by rw[u8];omega) (by decide)⟩,a0t,<- a2m,<- a4b,show(N.take k).map PV.s++PV.s "none"::(N.drop k).map PV.s=(N.take k++("none":Str)::N.drop k).map PV.s by rw[T5];rfl];rfl
def IF:CS ns ws b wd y (m+1) (sIf (eV (zQ (mOp (yQ false) (zc 9) (mC (.i 1)))) (zQ (mOp (yQ true) (zc 8) (kH zk)))) (nk 8 (mOp pIx (zc 8) (zf zg (zb (zc 0) (zb (mC (.i 195)) (zb (zf qZ (zb (zc 8) zk)) zk)))))) zG) (cS ns ws b wd f l N o6 o7 (some (.i y)) none none):=by
 refine CS.opt (n:=0) hN (QU (vI rfl) (Nv)) λc=>?_;have g:0<N.length:=by
  cases N with
  |nil=>rw[show([]:List Str).isEmpty=true from rfl,a2W,a08]at c;cases c
  |cons z r=>exact a2d _
 obtain⟨k,h,e⟩:=yB (ns:=ns) (ρ:=cS ns ws b wd f l N o6 o7 (some (.i y)) none none) (k:=195) (m:=(N.length:Int)) (a:=mC (.i 195)) (b:=zf qZ (zb (zc 8) zk)) (by decide) (by decide) (by omega) rfl rfl (gB rfl);have d:k<N.length:=by omega
 refine⟨f,l,N++[N[k]],o6,o7,by rw[P2];show _+1<=_;omega,?_⟩;exact(la (xs:=N.map .s) (y:=.s N[k]) rfl (zl rfl e (ML d)) (by rw[u8];omega)).trans (by rw[show N.map PV.s++[PV.s N[k]]=(N++[N[k]]).map PV.s by rw[T5];rfl];rfl)
def IG:CS ns ws b wd y (m+1) (sIf (eV (zQ (mOp (yQ false) (zc 9) (mC (.i 2)))) (zQ (mOp (yQ true) (zc 8) (kH zk)))) (Ac 8 (zf zg (zb (zc 0) (zb (mC (.i 195)) (zb (zf qZ (zb (zc 8) zk)) zk))))) zG) (cS ns ws b wd f l N o6 o7 (some (.i y)) none none):=by
 refine CS.opt (n:=0) hN (QU (vI rfl) (Nv)) λc=>?_;have g:0<N.length:=by
  cases N with
  |nil=>rw[show([]:List Str).isEmpty=true from rfl,a2W,a08]at c;cases c
  |cons z r=>exact a2d _
 obtain⟨k,d,e⟩:=yB (ns:=ns) (ρ:=cS ns ws b wd f l N o6 o7 (some (.i y)) none none) (k:=195) (m:=(N.length:Int)) (a:=mC (.i 195)) (b:=zf qZ (zb (zc 8) zk)) (by decide) (by decide) (by omega) rfl rfl (gB rfl);refine⟨f,l,N.eraseIdx k,o6,o7,P8 (List.length_eraseIdx_le _ _) (by omega),?_⟩;show((zf zg _ _).bind (Hl 8 (N.map .s) _))=_;rw[e,okb];unfold Hl;dsimp only;rw[if_pos ⟨a0D _,by rw[u8];exact d,by omega⟩,a0t,tX];rfl
end
section
variable {ns:OC}{ws:List Wk}{b:Nat}{wd:PV}
abbrev eS(ns:OC)(ws:List Wk)(b:Nat)(wd:PV)(f l:Int)(o6:OQ):Sto:=[some (.sc ns),some (wsP ws),some (nI b),some wd,some (.i f),some (.i l),o6,none,none,none,none,none]
def E2(E:ws.length<=8):∃e g q,sIf (eV (zQ (mOp (yQ true) (zc 1) (kH zk))) (zQ (mOp (yQ false) (zf zg (zb (zc 0) (zb (mC (.i 196)) (zb (mC (.i 2)) zk)))) (mC (.i 0))))) (zZ (yH 6 (mOp zA (zf zO (zb (mOp pIx (zc 1) (zf zg (zb (zc 0) (zb (mC (.i 197)) (zb (zf qZ (zb (zc 1) zk)) zk))))) zk)) (kH (zb (mC (.i 6)) zk)))) (zZ (yH 4 (mOp pIx (zc 6) (mC (.i 0)))) (yH 5 (mOp pIx (zc 6) (zf ue (zb (mC (.i 0)) (zb (mOp m9 (zf qZ (zb (zc 6) zk)) (mC (.i 2))) zk))))))) zG (eS ns ws b wd f l none)=.ok (.nx (eS ns ws b wd e g q)):=by
 obtain⟨x,_,o⟩:=yB (ρ:=eS ns ws b wd f l none) (a:=mC (.i 196)) (b:=mC (.i 2)) (by decide) (by decide) (by decide) rfl rfl rfl;have c:=QU (lE (m:=zc 1) rfl) (vI (n:=0) o);cases d:(!ws.isEmpty&&decide ((x:Int)=0))with
 |false=>rw[d]at c;exact⟨f,l,none,Y_ c⟩
 |true=>
  rw[d]at c;have D:0<ws.length:=by
   cases ws with
   |nil=>cases d
   |cons w r=>exact a2d _
  obtain⟨k,A,y⟩:=yB (ρ:=eS ns ws b wd f l none) (m:=(ws.length:Int)) (a:=mC (.i 197)) (b:=zf qZ (zb (zc 1) zk)) (by decide) (by decide) (by omega) rfl rfl (zr rfl (by show Out.ok (PV.i ((ws.map wkP).length:Int))=_;rw[u8]));have v:k<ws.length:=by omega
  have B:(ntW ws[k]).length<=7:=lq;have i:mOp zA (zf zO (zb (mOp pIx (zc 1) (zf zg (zb (zc 0) (zb (mC (.i 197)) (zb (zf qZ (zb (zc 1) zk)) zk))))) zk)) (kH (zb (mC (.i 6)) zk)) (eS ns ws b wd f l none)=.ok (ntP (ntW ws[k]++[6])):=
   zl (zr (zx (zl rfl y (ixW v)) rfl) Zo) (Yn rfl (S6 rfl)) ((MQ (by rw[u8];show _+1<=_;omega)).trans (R9 (λz=>Out.ok (PV.l z)) (show(ntW ws[k]).map nI++[nI 6]=(ntW ws[k]++[6]).map nI by rw[T5];rfl)))
  generalize hl:ntW ws[k]++[6]=L at i;have C:0<L.length:=by rw[<- hl,P2];exact a2d _
  have at':∀{j:Int},0<=j->(h:j<L.length)->∃n:Nat,pIx (ntP L) (.i j)=.ok (nI n):=λ{j} t s=>⟨L[j.toNat]'(by omega),by rw[d9 t (by rw[u8];exact s),a0s]⟩;obtain⟨e,p⟩:=at' (j:=0) (by decide) (by omega);obtain⟨g,u⟩:=at' (j:=max 0 ((L.length:Int)-2)) (by omega) (by omega);refine⟨e,g,some (ntP L),(WL c).trans (zd ⟨_,zH i,zd ⟨_,zH (zl rfl rfl p),zH (zl rfl (zr (zx rfl (zx (zl (zr rfl (by show Out.ok (PV.i ((L.map nI).length:Int))=_;rw[u8])) rfl rfl) rfl)) rfl) u)⟩⟩)⟩
def CS.go(h:CS ns ws b wd y m s ρ)(d:∀f l N g c,N.length<=m->t (cS ns ws b wd f l N g c (some (.i y)) none none)=o):zZ s t ρ=o:=
 let⟨_,_,_,_,_,a,e⟩:=h
 zd ⟨_,e,d _ _ _ _ _ a⟩
def E3(h:dv ws=none)(v:b<=1000000000)(p:Wd ws b wd)(u:ws.length<=8)(e:N.length<=40):∃m s g,g.length<=40/\sIf (zQ (mOp (yQ false) (mOp pIx (zc 3) (mC (.i 0))) (mC (.s "crowd")))) (zZ (xf (gTp 3 (zY (gNm 4) (zY (gNm 5) (zY (gNm 8) Wf)))) (mSl He (zc 3) (qW (mC (.i 1))) Wc)) (zZ (sIf (V9 (zQ (zf zR (zb (zc 1) (zb (zc 2) (zb (zc 4) (zb (zc 5) (zb (zc 8) (zb (mC (.b true)) zk))))))))) (jM (mC (.b false))) zG) (yH 8 (zf kK (zb (zc 8) zk))))) zG (cS ns ws b wd f l N o6 o7 none none none)=.ok (.nx (cS ns ws b wd m s g o6 o7 none none none)):=by
 rcases p with⟨T,_,_,rfl⟩|rfl|⟨a,c,M,r,t,rfl⟩
 .exact⟨f,l,N,e,Y_ ((U9 (zl rfl rfl rfl)).trans (R9 Out.ok (by decide)))⟩
 .exact⟨f,l,N,e,Y_ ((U9 (zl rfl rfl rfl)).trans (R9 Out.ok (by decide)))⟩
 .obtain⟨d,_,j,i⟩:=Vq (B:=(b:Int)) (N:=M) h (a0D _) (by omega) (by omega);have o:=i.mpr r;subst o;have q:=Y9 (by omega) j;refine⟨a,c,M,t,(WL ((U9 (zl rfl rfl rfl)).trans (R9 Out.ok (by decide)))).trans ?_⟩;refine zd ⟨cS ns ws b (.t [.s "crowd",nI a,nI c,.l (M.map .s)]) a c M o6 o7 none none none,tE rfl rfl,zd ⟨_,Y_ (jv (zP (zr rfl q))),zH (zr rfl rfl)⟩⟩
def mW(h:dv ws=none)(E:Wok 12 ws)(p:ws.length<=8)(S:b<=1000000000)(T:Wd ws b wd):qV [.sc ns,wsP ws,nI b,wd]=.ok (.b true):=by
 obtain⟨q,_,L⟩:=yB (ρ:=[some (.sc ns),some (wsP ws),some (nI b),some wd,none,none,none,none,none,none,none,none]) (a:=mC (.i 190)) (b:=mC (.i 9)) (by decide) (by decide) (by decide) rfl rfl rfl;have u:vN (.i 10) (.i 20)=.ok (.i 100000000000000000000):=by rw[c_ (by decide) (by decide) (by decide)];rfl
 obtain⟨z,_,R⟩:=yB (ρ:=[some (.sc ns),some (wsP ws),some (nI b),some wd,some (.i ((q:Int)-1)),none,none,none,none,none,none,none]) (a:=mC (.i 191)) (b:=mC (.i 9)) (by decide) (by decide) (by decide) rfl rfl rfl;obtain⟨j,H,I,J⟩:=Y6 (k:=192) (m:=3) (by decide) (by decide) (by decide);obtain⟨O,_,Q⟩:=iW (xs:=[(q:Int)-1,(z:Int)-1,100000000000000000000]) H I;obtain⟨f,l,i,M⟩:=E2 p;obtain⟨t,_,_,X⟩:=Y6 (k:=193) (m:=3) (by decide) (by decide) (by decide);obtain⟨r,s⟩:=Classical.axiomOfChoice λw:Wk=>tU;have C:mLC (z8 (zc 1)) [none,some 0,some 4,some 5] vF vG vH (eS ns ws b wd f l i)=.ok (wsP (ws.filter λw=>decide (t=0)||r w)):=
  Ym (yk rfl) (ZA wkP (λw=>decide (t=0)||r w) wkP (λo=>∃a,o=[a,some (.sc ns),some (.i f),some (.i l)]) ws _ [] ⟨none,rfl⟩ (λw _ o ⟨_,K⟩=>by
   subst K;exact⟨_,rfl,⟨_,rfl⟩,Vn (vI (zr rfl X)) (zP (zr rfl (s w))),λ_=>rfl⟩) (by show 0+_<=_;omega))
 generalize hus:(ws.filter λw=>decide (t=0)||r w)=us at C;have F:us.length<=8:=by rw[<- hus];exact P8 (a0J _ _) p
 have D:mLC (z8 (zc 7)) [none] Y1 Y2 Y3 ((eS ns ws b wd f l i).set 7 (some (wsP us)))=.ok (.l ((nms us).map .s)):=lF rfl (λ_ _=>rfl) (λ_=>rfl) (by omega);obtain⟨f,l,N,d,W⟩:=E3 h S T p (N:=nms us) (by rw[u8];omega);obtain⟨y,_,P⟩:=yB (ρ:=cS ns ws b wd f l N i (some (wsP us)) none none none) (a:=mC (.i 194)) (b:=mC (.i 9)) (by decide) (by decide) (by decide) rfl rfl rfl;refine zE (zd ⟨_,zH (zl L rfl rfl),zd ⟨_,zH (zl (Yn (zx rfl (zx (zl R rfl rfl) (zx (zl rfl rfl u) rfl))) (S6 rfl)) (zr rfl J) Q),zd ⟨_,M,zd ⟨_,zH C,zd ⟨_,zH D,zd ⟨_,W,zd ⟨_,zH P,?_⟩⟩⟩⟩⟩⟩⟩);refine CS.go (IE d (by decide)) λf l N i n d=>CS.go (IF d (by decide)) λf l N i n d=>CS.go (IG d (by decide)) λf l N i n d=>CS.go (tY d (zH (zl rfl rfl rfl))) λf l N i n d=>CS.go (tY d (zH (zl rfl rfl rfl))) λf l N i n d=>CS.go (tY d (zH (zl rfl rfl rfl))) λf l N i n d=>?_;obtain⟨c,ec,v,_⟩:=Vq (B:=(b:Int)) (N:=N) h (a0D _) (by omega) (by omega);obtain⟨A,G,hz,Y,U⟩:=Ce h E p;exact zd ⟨_,zH (zr rfl ec),zd ⟨_,Y_ (jv (zP (zr rfl (Y9 (by omega) v)))),zd ⟨_,zH (zr rfl U),jZ (zr (zx rfl (zx rfl (zx rfl (zx rfl (zx rfl (zx (tW rfl rfl rfl) rfl)))))) (Y9 (by omega) (tV h G hz v)))⟩⟩⟩
end
section
variable {ns:OC}{ws:List Wk}
def X6(h:dv ws=none)(m:0<=B)(l:B<=1000000000)(a:Tdc 60 T):∃c,ql [wsP ws,.i B,.d (tvP T)]=.ok (.b c)/\yd [wsP ws,.i B,.d (tvP T)]=.ok (.b c)/\(c=true↔Cd ws B T):=by
 have b:=ZV h;obtain⟨c,i,e⟩:=tG b a.1 (by have:=a.2;omega);obtain⟨d,f,j⟩:=bM (λw g=>P8 (b.z w g) (by decide)) h (show ¬oob B by unfold oob;omega) a.1 (by have:=a.2;omega);have:c=d:=by rw[a2E,e,j]
 subst this;exact⟨c,i,f,e⟩
def Fe(h:c ρ G=.ok false G):hIf c (Ue (hP [] (mC (.b false)))) Yw ρ G=.nx ρ G:=(Ah h).trans rfl
abbrev LS(ns:OC)(ws:List Wk)(b:Nat)(wd:PV)(T:To)(d w:Option HV):ZY:=[some (.v (.sc ns)),some (.v (wsP ws)),some (.v (nI b)),some (.v wd),some (.v (.l ((nms ws).map .s))),some (.v (.d (tvP T))),d,w]
end
def AR(ns:OC)(_:ns.length<=k):∃G,BL [.v (.sc ns)] [.y true]=.ok (.v (.b true)) G:=by
 obtain⟨ws,h,hw,hl,e1⟩:=EU (ρ:=[some (.sc ns),none,none,none,none,none,none,none]) rfl rfl;have fn:=ZV h;obtain⟨b,b3,e2⟩:=yB (ρ:=[some (.sc ns),none,none,none,none,none,none,none]) (a:=mC (.i 14)) (b:=mC (.i 4)) (by decide) (by decide) (by decide) rfl rfl rfl;obtain⟨wd,G,hd,e3⟩:∃wd G,Wd ws b wd/\yZ [.v (wsP ws),.v (nI b)] [.y true]=.ok (.v wd) G:=by
  obtain⟨G,q⟩:=EX (b:=b) h (by omega) (show Rdy [.y true]from .inl rfl);rcases q with⟨T,c,kk,e⟩|e|⟨f,l,N,c,hN,e⟩
  .exact⟨_,G,.inl ⟨T,c,kk,rfl⟩,e⟩
  .exact⟨_,G,.inr (.inl rfl),e⟩
  .exact⟨_,G,.inr (.inr ⟨f,l,N,c,hN,rfl⟩),e⟩
 have e4:mLC (z8 (zc 1)) [none] iS iT iU [none,some (wsP ws),none,none,none,none,none,none]=.ok (.l ((nms ws).map .s)):=lF rfl (λ_ _=>rfl) (λ_=>zl rfl rfl rfl) (by omega);obtain⟨c0,ec0,eh0,_⟩:=Vq (B:=0) (N:=nms ws) h (by decide) (by decide) (by rw[u8];omega);have k0:=Y9 (by omega) eh0;obtain⟨T0,hT0,e5⟩:=AN fn.nd (by omega);have tok:∀{T:To},T.map (·.1)=nms ws->Tdc 40 T:=λ{T} hT=>⟨by rw[hT];exact fn.nd,by have:=R9 List.length hT;rw[u8,u8]at this;omega⟩;have cr:=mW (ns:=ns) h hw hl (show b<=1000000000 by omega) hd;obtain⟨T1,hT1,e6⟩:∃T1,Tdc 40 T1/\hIf (hPT [false,false,false,true] (zQ (mOp (yQ false) (mOp pIx (zc 3) (mC (.i 0))) (mC (.s "care"))))) (Yo (hIf (hPT [false,true,true,true] (V9 (zQ (zf zK (zb (zc 1) (zb (zc 2) (zb (mOp pIx (zc 3) (mC (.i 1))) (zb (mC (.b true)) zk)))))))) (Ue (hP [] (mC (.b false)))) Yw) (hIf (hPT [true] (zQ (mOp (yQ false) (zf zg (zb (zc 0) (zb (mC (.i 184)) (zb (mC (.i 2)) zk)))) (mC (.i 1))))) (Vz 5 (hP [false,false,false,true] (mOp pIx (zc 3) (mC (.i 1))))) Yw)) Yw (LS ns ws b wd T0 none none) G=.nx (LS ns ws b wd T1 none none) G:=by
  rcases hd with⟨T,c,kk,rfl⟩|rfl|⟨f,l,N,c,hN,rfl⟩
  .obtain⟨d,_,eh,i⟩:=X6 (B:=(b:Int)) h (a0D _) (by omega) ((tok kk).mono (by decide));have hd:=i.mpr c;subst hd;have s:=Hw (p:=Yo (hIf (hPT [false,true,true,true] (V9 (zQ (zf zK (zb (zc 1) (zb (zc 2) (zb (mOp pIx (zc 3) (mC (.i 1))) (zb (mC (.b true)) zk)))))))) (Ue (hP [] (mC (.b false)))) Yw) (hIf (hPT [true] (zQ (mOp (yQ false) (zf zg (zb (zc 0) (zb (mC (.i 184)) (zb (mC (.i 2)) zk)))) (mC (.i 1))))) (Vz 5 (hP [false,false,false,true] (mOp pIx (zc 3) (mC (.i 1))))) Yw)) (q:=Yw) (G:=G) (Y5 (bs:=[false,false,false,true]) (ρ:=LS ns ws b (.t [.s "care",.d (tvP T)]) T0 none none) (m:=zQ (mOp (yQ false) (mOp pIx (zc 3) (mC (.i 0))) (mC (.s "care")))) rfl ((U9 (zl rfl rfl rfl)).trans (R9 Out.ok (show _=true by decide))));have s1:hIf (hPT [false,true,true,true] (V9 (zQ (zf zK (zb (zc 1) (zb (zc 2) (zb (mOp pIx (zc 3) (mC (.i 1))) (zb (mC (.b true)) zk)))))))) (Ue (hP [] (mC (.b false)))) Yw (LS ns ws b (.t [.s "care",.d (tvP T)]) T0 none none) G=_:=Fe (Y5 rfl (jv (zP (zr (zx rfl (zx rfl (zx (zl rfl rfl rfl) rfl))) (KO (by omega) (tok kk).1 eh)))));obtain⟨y,_,ey⟩:=yB (ρ:=[some (.sc ns),none,none,none,none,none,none,none]) (a:=mC (.i 184)) (b:=mC (.i 2)) (by decide) (by decide) (by decide) rfl rfl rfl;have cy:=vI (n:=1) ey;by_cases hy:(y:Int)=1
   .rw[O5 hy]at cy;exact⟨T,tok kk,s.trans (yq s1 ((Hw (Y5 rfl cy)).trans (ky (iV rfl (zl rfl rfl rfl)))))⟩
   .rw[O4 hy]at cy;exact⟨T0,tok hT0,s.trans (yq s1 ((Ah (Y5 rfl cy)).trans rfl))⟩
  .exact⟨T0,tok hT0,(Ah (Y5 rfl ((U9 (zl rfl rfl rfl)).trans (R9 Out.ok (show _=false by decide))))).trans rfl⟩
  .exact⟨T0,tok hT0,(Ah (Y5 rfl ((U9 (zl rfl rfl rfl)).trans (R9 Out.ok (show _=false by decide))))).trans rfl⟩
 obtain⟨c1,ec1,eh1,_⟩:=X6 (B:=(b:Int)) h (a0D _) (by omega) (hT1.mono (by decide));obtain⟨T2,hT2,e7⟩:=mV hT1;obtain⟨c2,ec2,eh2,_⟩:=X6 (B:=(b:Int)) h (a0D _) (by omega) (hT2.mono (by decide));obtain⟨vs,hu,hz,hv,eb⟩:=Ce h hw hl;have wz:∀w∈ws,w.nm.length<=1000:=λw hm=>P8 (fn.z w hm) (by decide);have f1:=KO (B:=1000000001) (by omega) hT2.1 (KI wz (.inr (by unfold oob;omega)));have f2:=Y9 (f:=0) (l:=6) (N:=[]) (B:=-1) (by omega) (QV wz (.inr (by unfold oob;omega)));have run:sI [some (.v (.sc ns)),none,none,none,none,none,none,none] [.y true]=.rt (.v (.b true)) G:=by refine yq (ky (iV rfl e1)) (yq (ky (iV rfl e2)) (yq (ky (i8 rfl e3)) (yq (ky (iV rfl e4)) ?_)));refine yq (Fe (Y5 rfl (jv (zP (zr (zx rfl (zx rfl (zx rfl (zx rfl (zx rfl (zx (zr rfl ec0) rfl)))))) k0))))) ?_;refine yq (Fe (Y5 rfl (jv (zP (zr rfl cr))))) ?_;refine yq (ky (iV rfl (zr rfl e5))) ?_;refine yq e6 ?_;refine yq (Fe (Y5 rfl (jv (zP (zr (zx rfl (zx rfl (zx rfl (zx (zr rfl ec1) rfl)))) (KO (by omega) hT1.1 eh1)))))) ?_;refine yq (ky (iV rfl (zr rfl e7))) ?_;refine yq (ky (iV rfl (zr rfl ec2))) ?_;refine yq (Fe (Y5 rfl (jv (zP (zr rfl (KO (by omega) hT2.1 eh2)))))) ?_;refine yq (ky (iV rfl (zr rfl eb))) ?_;refine yq (Fe (Y5 rfl (jv (zP (zr (zx rfl (zx rfl (zx rfl (zx (tW rfl rfl rfl) rfl)))) (KO (by omega) hT2.1 (AQ h hu hz eh2))))))) ?_;exact gm (iV rfl (JG (zr (zx rfl (zx (zl (zl rfl rfl p9) rfl rfl) rfl)) f1) (zr (zx rfl (zx rfl (zx rfl (zx rfl (zx (Yn rfl (a0c _)) rfl))))) f2)))
 exact⟨G,X5 run⟩
end NCS
structure IsE{α:Type}(a b:α):Prop where
 e:a=b
def tZ(K:OW)(c:Addr):Sp:=λe H Q _=>∃(a:Addr)(b:OC),e=[.ref a]/\H c=some (.tbl #[])/\SqL K H a (b.map V.int)/\b.length<=63/\∀d,Q (.bl true) d
def all_mk{l:W.OpenLaw}{w:OE}{K:OW}{h:Heap}{mg:Oi}{fa o u r q t m g VZ C R J Yh A kT L wA Qn Q1 kU ai vM D Ye Qg F Z_ U lK V4 Jk KZ Jl K2 X_ V0 V5 kN kO Jj Ql wu P Jb Jh Qi Qk Q9 Zs M x N:Addr}{AW:OI}{lL:OJ}{Z Z8 Je Z9 Yd Jd kQ wy wx Qf Q7 kR aj vL Yi Yb Qe Yg Ya y lJ V2 Q_ K0 Q3 K1 Ua V1 VY kM kL Y Qj wo KW Q4 Jf O Qh Jg S z:OH}{AV:OP}{eR Q8 Yf Ji lI:Tok}{AU:Value}(X:K.In h)(G:h.Ns mainGlobals mg)(B:mg "law"=some (.ref fa))
  (gf:W.nsIn K mainGlobals "LIMIT"=some (some (.int 1000000000 eR)))
  (YM:W.nsIn K mainGlobals "NAME_SIGNS"=some (some (.str "abcdefghijklmnopqrstuvwxyz0123456789" Q8)))
  (wU:W.nsIn K mainGlobals "LONGEST_NAME"=some (some (.int 12 Yf)))
  (YN:W.nsIn K mainGlobals "MOST_WEEKS"=some (some (.int 40 Ji)))
  (VD:W.nsIn K mainGlobals "DAYS"=some (some (.int 7 lI)))
  (YO:NsR K "FleetError" o)
  (Kj:NsR K "BadName" u)
  (JD:NsR K "BadNumber" r)
  (Xx:NsR K "TooMany" q)
  (gh:NsR K "Twice" t)
  (Kk:NsR K "NoNight" m)
  (Kl:NsR K "Crowded" g)
  (mH:NsN K "all")
  (iO:NsN K "bool")
  (U4:NsN K "dict")
  (D6:NsN K "int")
  (vQ:NsN K "isinstance")
  (kh:NsN K "len")
  (QJ:NsN K "list")
  (mI:NsN K "max")
  (ki:NsN K "range")
  (Af:NsN K "set")
  (Km:NsN K "sorted")
  (Vl:NsN K "sum")
  (zp:DfN K "_law_draw" Vf VZ Z)
  (mX:XMk K q C)
  (Jc:Fun K "__init__" "TooMany.__init__" wK C Z8)
  (vR:DfN K "check_most" YA R Je)
  (mZ:XMk K u J)
  (Q2:Fun K "__init__" "BadName.__init__" wL J Z9)
  (jO:DfN K "checked_name" wM Yh Yd)
  (AS:XMk K t A)
  (V6:Fun K "__init__" "Twice.__init__" YB A Jd)
  (qe:DfN K "checked_new_name" je kT kQ)
  (eQ:XMk K r L)
  (Yc:Fun K "__init__" "BadNumber.__init__" j_ L wy)
  (zV:DfN K "checked_number" ke wA wx)
  (yX:DfN K "check_weeks" ZE Qn Qf)
  (qR:DfN K "needs_care" YC Q1 Q7)
  (qf:DfN K "can_be_cared_for" jf kU kR)
  (qG:DfN K "nights" bh ai aj)
  (yF:DfN K "nights_of_needy" jB vM vL)
  (m5:XMk K m D)
  (Q5:Fun K "__init__" "NoNight.__init__" wN D Yi)
  (jP:DfN K "check_served" wO Ye Yb)
  (qv:DfN K "cars_within" ZF Qg Qe)
  (mY:XMk K g F)
  (Ja:Fun K "__init__" "Crowded.__init__" wQ F Yg)
  (jQ:DfN K "check_crowds" wR Z_ Ya)
  (vS:DfN K "served" bj U y)
  (U5:DfN K "care" sr lK lJ)
  (vh:DfN K "_law_told" Vg V4 V2)
  (zJ:DfN K "_law_nights" YD Jk Q_)
  (jD:DfN K "_law_drawn" Jv KZ K0)
  (vT:DfN K "_law_spoilt" YE Jl Q3)
  (vo:DfN K "_law_cared" Jw K2 K1)
  (YQ:DfN K "_law_bad" Xr X_ Ua)
  (Qw:DfN K "_law_name" Vh V0 V1)
  (Qx:DfN K "_law_week" Vi V5 VY)
  (yM:DfN K "weeks_are_let_by" jg kN kM)
  (qg:DfN K "must_come_within" jh kO kL)
  (vU:DfN K "none_twice" YF Jj Y)
  (kZ:DfN K "crowd_holds" ZG Ql Qj)
  (yc:DfN K "_law_crowd_true" kf wu wo)
  (vp:DfN K "_law_crowd" Jx P KW)
  (vV:DfN K "_law_within" YG Jb Q4)
  (vW:DfN K "_law_crowds" YH Jh Jf)
  (k8:DfN K "same_things" ZH Qi O)
  (k9:DfN K "night_holds" ZI Qk Qh)
  (vX:DfN K "care_holds" YI Q9 Jg)
  (yo:DfN K "_law_care_true" vn Zs S)
  (sA:DfN K "law" D5 M z)
  (gE:JP K u)
  (gM:Catch K u o true)
  (Wr:W.takerIn K u "name"=some none)
  (bT:JP K r)
  (bV:Catch K r o true)
  (JJ:W.takerIn K r "value"=some none)
  (gD:JP K q)
  (gH:Catch K q o true)
  (Ws:W.takerIn K q "most"=some none)
  (t9:JP K t)
  (t8:Catch K t o true)
  (UH:W.takerIn K t "name"=some none)
  (gJ:JP K m)
  (gL:Catch K m o true)
  (b:Catch K m m true)
  (Wu:W.takerIn K m "name"=some none)
  (gK:JP K g)
  (gF:Catch K g o true)
  (a:Catch K g g true)
  (d:Catch K g m false)
  (Vt:W.takerIn K g "first"=some none)
  (Vs:W.findIn K (.ref g) "first"=some none)
  (Wv:W.takerIn K g "last"=some none)
  (Wo:W.findIn K (.ref g) "last"=some none)
  (Wq:W.takerIn K g "cars"=some none)
  (Wt:W.findIn K (.ref g) "cars"=some none)
  (vY:W.kitOne K (.type "bool") (.type "bool")=some true)
  (ZJ:W.kitOne K (.type "int") (.type "bool")=some false)
  (iP:IsE y.code (.ref x))
  (n:IsE (K.lookup x) (some ⟨AU,AV,.fields lL,AW⟩))
  (j:IsE (lL[11]?) (some (.ref N)))
  (i:W.noTabs K=true)
  : ∃(fd:OH)(c I:Addr),W.tabIn K "served"=some (c,I)/\W.noTabs K=true/\(∀(s:Om)(v:Value),BindsTo s fd ⟨[v],[]⟩ [("_law_script",v)])/\∀f:Heap,K.In f->f.Ns mainGlobals mg->uk f mg c I->qz l.prog w K mg f (CXe l.prog w) 10 fa fd ["_law_script"] (tZ K I):=by
 have e:M=fa:=by have e:=B.symm.trans (a1y X G sA.1);injection e with e;injection e with e;exact e.symm
 subst e;have T:Txt K mg ⟨o,u,r,q,t,m,g,VZ,C,R,J,Yh,A,kT,L,wA,Qn,Q1,kU,ai,vM,D,Ye,Qg,F,Z_,U,lK,V4,Jk,KZ,Jl,K2,X_,V0,V5,kN,kO,Jj,Ql,wu,P,Jb,Jh,Qi,Qk,Q9,Zs,M,x,N,Z,Z8,Je,Z9,Yd,Jd,kQ,wy,wx,Qf,Q7,kR,aj,vL,Yi,Yb,Qe,Yg,Ya,y,lJ,V2,Q_,K0,Q3,K1,Ua,V1,VY,kM,kL,Y,Qj,wo,KW,Q4,Jf,O,Qh,Jg,S,z,eR,Q8,Yf,Ji,lI⟩:=⟨⟨a1y X G gf,a1y X G YM,a1y X G wU,a1y X G YN,a1y X G VD,a1y X G YO,a1y X G Kj,a1y X G JD⟩,⟨a1y X G Xx,a1y X G gh,a1y X G Kk,a1y X G Kl,a0U X G mH,a0U X G iO,a0U X G U4,a0U X G D6⟩,⟨a0U X G vQ,a0U X G kh,a0U X G QJ,a0U X G mI,a0U X G ki,a0U X G Af,a0U X G Km,a0U X G Vl⟩,⟨yj X G zp bn3,Jc,Jc.binds bn2,yj X G vR bn2,Q2,Q2.binds bn2,yj X G jO bn1,V6⟩,⟨V6.binds bn2,yj X G qe bn2,Yc,Yc.binds bn2,yj X G zV bn2,yj X G yX bn1,yj X G qR bn3,yj X G qf bn4⟩,⟨yj X G qG bn3,yj X G yF bn1,Q5,Q5.binds bn2,yj X G jP bn1,yj X G qv bn3,Ja,Ja.binds bn4⟩,⟨yj X G jQ bn2,yj X G vS bn2,yj X G U5 bn2,yj X G vh bn2,yj X G zJ bn1,yj X G jD bn2,yj X G vT bn2,yj X G vo bn3⟩,⟨yj X G YQ bn2,yj X G Qw bn3,yj X G Qx bn2,yj X G yM bn2,yj X G qg bn5,yj X G vU bn1,yj X G kZ bn5,yj X G yc bn6⟩,⟨yj X G vp bn5,yj X G vV bn3,yj X G vW bn4,yj X G k8 bn2,yj X G k9 bn4,yj X G vX bn3,yj X G yo bn4,yj X G sA bn1⟩,⟨gE,mZ,gM,Wr,bT,eQ,bV,JJ⟩,⟨gD,mX,gH,Ws,t9,AS,t8,UH⟩,⟨gJ,m5,gL,b,Wu,gK,mY,gF⟩,⟨a,d,Vt,Vs,Wv,Wo,Wq,Wt⟩,⟨vY,ZJ,iP.e⟩⟩;have eb:∀(s:Om)(v:Value),BindsTo s z ⟨[v],[]⟩ [("_law_script",v)]:=by obtain⟨_,_,_,_,_,_,_,_,_,rfl,_,_⟩:=sA.2.ex;exact λs v=>.of_eq rfl
 have tb:W.tabIn K "served"=some (x,N):=by obtain⟨_,_,_,_,_,_,_,_,_,rfl,lk,_⟩:=vS.2.ex;exact G7 vS.1 lk iP.e n.e j.e
 refine⟨_,_,_,tb,i,eb,λf _ _ TB=>(Hu T TB).imp λvs H Q E ⟨p,ns,e,hT,hS,hl,k⟩=>?_⟩;subst e;exact xT (W:=WW K _) hT hS (AR ns hl) k
def walk{l:W.OpenLaw}{q:Ox}{g:Oj}{XP:(Str->Option Value)->Heap->Prop}{o:World->Heap->Prop}{d d':DefRec}{K:Params->W.Frag}(y:l.most=some 63)(j:d.params.defaults=[])
  (v:∀(w:OE)(h:Heap),o w h->(K w.params).In h) (B:(PyProof.Rows.recsOf q).find? (λe=>e.name==("served":Str))=some d')
  (F:∀(w:OE)(i:Oi)(fa:Addr)(h:Heap),(K w.params).In h->h.Ns mainGlobals i->i d.name=some (.ref fa)->
   ∃(p:OH)(c m:Addr),W.tabIn (K w.params) "served"=some (c,m)/\W.noTabs (K w.params)=true/\(∀(s:Om)(u:Value),BindsTo s p ⟨[u],[]⟩ [("_law_script",u)])/\∀b:Heap,(K w.params).In b->b.Ns mainGlobals i->uk b i c m->qz l.prog w (K w.params) i b (CXe l.prog w) 10 fa p ["_law_script"] (tZ (K w.params) m)):
  W.WalkO q g XP o l.row.toRowW d [] (λf D=>PySem.call f D):=
 L2.xG (sp:=λw=>tZ (K w.params)) y (by decide) j ⟨rfl,by decide,by decide⟩ v B F (λ_ _ H a t A r C=>⟨a,t,rfl,r.1,C,A,λ_=>rfl⟩) λ_ _ _ _ _ z=>di z
end K85
open PySem PySem.W PyProof.Rows
namespace PySem.W.Fast
def tw2904079166949012973:=()
def tw2052565483442491487:=()
def tw1885099138406097171:=()
def tw2743686239337551119:=()
def tw8117523031874404847:=()
def tw9566263594177013993:=()
def tw17407044696657371749:=()
def tw16531056105081930661:=()
def tw3609150896453869699:=()
def tw9343849109243565152:=()
def tw566188930687043774:=()
def tw8885394337092532319:=()
def tw15955633788259572768:=()
def tw10562293889815671641:=()
def tw1315266429102724998:=()
def tw3319915326061057911:=()
def tw10233163226568298033:=()
def tw41550626593440088:=()
def tw14320654522760400133:=()
def tw10591843931648519204:=()
def tw3486465186026400397:=()
def tw4151532304704121093:=()
def tw6092534703849021767:=()
def tw16917309664769928536:=()
def tw18295947356526528027:=()
def tw2424741234155279342:=()
def tw1057544786571456025:=()
def tw12612432784008279050:=()
def tw17515857604692705406:=()
def tw8906806752853193497:=()
def tw5715471030165070249:=()
def tw5440791812875189093:=()
def tw5002460147325141040:=()
def tw14909510628151440579:=()
def tw6290822768470537842:=()
def tw13552912451235172373:=()
def tw5857355176424802628:=()
def tw7279060468875661695:=()
def tw7023911028807591432:=()
def tw2544352813303636402:=()
def tw17678804563752138596:=()
def tw14142652560643179308:=()
def tw16267392953669304734:=()
def tw13762538884347841287:=()
def tw11916789358229694916:=()
def tw768098359499052670:=()
def tw2704729833041489521:=()
def tw4085257523725852892:=()
def tw6143931673806172904:=()
def tw14293439473553169158:=()
def tw8723221777135921572:=()
def tw4029953186074939744:=()
def tw11160810255702753520:=()
def tw12291926079193158214:=()
def tw14598052349419973921:=()
def tw16195010482928383703:=()
def tw6129914182366907136:=()
def tw3613483856309849690:=()
def tw422391819515058805:=()
def tw2547132737991719344:=()
def tw18093732049410926793:=()
def tw14170743278624175195:=()
def tw10950793699182576676:=()
def tw13065067155418333778:=()
def tw13597434726678533513:=()
def tw136331123822122433:=()
def tw6937173394584375145:=()
def tw12103671056769321278:=()
def tw3859111060095036626:=()
def tw6943060998739188752:=()
def tw12695770984327871806:=()
def tw3167235974538366000:=()
def tw1936594281213816084:=()
def tw4823905129852079526:=()
def tw10029777571311570887:=()
def tw6808403059009004837:=()
def tw11578497545680530206:=()
def tw3593057318074771513:=()
def tw15941439829950492243:=()
def tw12218573743760815129:=()
def tw8024524815582627548:=()
def tw11343609103194365310:=()
def tw8056489049148115914:=()
def tw173261843002185660:=()
def tw2968819159298924892:=()
def tw15610982550747323647:=()
def tw10419326864526915592:=()
def tw18005109179891445033:=()
def tw9143245124403191398:=()
def tw6673730835380477560:=()
def tw9048475789115712160:=()
def tw2116783037238499216:=()
def tw16661010303553613343:=()
def tw4341048194454329547:=()
def tw18062798262067586836:=()
def tw2059060574501739645:=()
def tw6794646146863075844:=()
end PySem.W.Fast
set_option maxRecDepth 100000 in
set_option maxHeartbeats 0 in
theorem PySem.Challenge.cw_fleetpath_k85_care_held_holds : PySem.Challenge.rw_fleetpath_k85_care_held.Holds := by
 w_on;o_law;k_head;(case hw=>w_witness2)
 k_fill
 refine K85.walk (l:=PySem.Challenge.rw_fleetpath_k85_care_held) rfl rfl (λw h Y=>PySem.W.km_in_of Y) rfl ?F
 case F=>
  intro w mg fa h KX G hmg;refine' K85.all_mk KX G hmg ?_ ?_ ?_ ?_ ?_ ?_ ?_ ?_ ?_ ?_ ?_ ?_ ?_ ?_ ?_ ?_ ?_ ?_ ?_ ?_ ?_ ?_ ?_ ?_ ?_ ?_ ?_ ?_ ?_ ?_ ?_ ?_ ?_ ?_ ?_ ?_ ?_ ?_ ?_ ?_ ?_ ?_ ?_ ?_ ?_ ?_ ?_ ?_ ?_ ?_ ?_ ?_ ?_ ?_ ?_ ?_ ?_ ?_ ?_ ?_ ?_ ?_ ?_ ?_ ?_ ?_ ?_ ?_ ?_ ?_ ?_ ?_ ?_ ?_ ?_ ?_ ?_ ?_ ?_ ?_ ?_ ?_ ?_ ?_ ?_ ?_ ?_ ?_ ?_ ?_ ?_ ?_ ?_ ?_ ?_ ?_ ?_ ?_ ?_ ?_ ?_ ?_ ?_ ?_
  all_goals try(first|((first|refine'⟨?_,L2.A8 ?_ ?_ ?_⟩|refine' L2.A8 ?_ ?_ ?_|refine' K85.Ho ?_ ?_ ?_ ?_ ?_)<;>try first|k_is|kernel_rfl)|(show _=_;first|k_is|kernel_rfl)|(first|refine⟨?_,?_,?_,?_,?_⟩|refine⟨?_,?_,?_,?_⟩|refine⟨?_,?_,?_⟩)<;>first|k_is|kernel_rfl)
  all_goals try(refine K85.IsE.mk ?_;first|k_is|rfl)
#print axioms PySem.Challenge.cw_fleetpath_k85_care_held_holds
