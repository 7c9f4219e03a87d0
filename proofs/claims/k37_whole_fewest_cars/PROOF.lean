import PyProof.Rows.All
import Wide.All
import OpenK.AllK
import Wide.FinOn
import Lean
import PyProof.EqAt
import PyProof.EqKinds
import PyProof.TupleCall
import PyProof.NeKinds
import PyProof.Rows.CountFlat
import PyProof.Rows.SumAny
import PyProof.Rows.Range3
import KE.KEqDict
import KE.KRevIter
import PyProof.DictIter
import PyProof.DictWalks
import PyProof.IsiH_list
import KE.KDictOf
import PyProof.Rows.SetFrom
import PyProof.Conv_int_bool
import PyProof.Rows.StrNews
import PyProof.CallStr
import PyProof.Rows.StrMeet
import PyProof.FitsReplace
import PyProof.MeetsStr3
import PyProof.Rows.StrSplitAre
import PyProof.StrLawsIn
import PyProof.ReprLen
import PyProof.StrLawsChain
import KE.IntTextLaws
import PyProof.Rows.StrClose5
import KE.KSortTup
import PyProof.Rows.SortKey
import PyProof.DictUpdate
import KE.KDictSum
import PyProof.WalksEnum
import PyProof.EnumMake
import PyProof.ZipIter
import PyProof.Rows.EnumRows
import PyProof.Rows.ZipForRows
import PyProof.Rows.FactsT2
import PyProof.Rows.SortStr
import PyProof.TupleIter
import KE.KLam
import PySem.Challenge.RW_fleetpath_k37_whole_fewest_cars
set_option compiler.extract_closed false
set_option bootstrap.genMatcherCode false
set_option genInjectivity false
set_option genSizeOf false
set_option genSizeOfSpec false
set_option Elab.async false
set_option linter.all false
set_option maxRecDepth 100000
noncomputable section
def f8:=@List.length_map
def t0:=@PySem.wpAny_bind
def u8:=@List.mem_cons_self
def v0:=@Option.map_eq_some_iff
def v4:=@List.length_cons
def S0:=@List.mem_cons_of_mem
def S4:=@List.length_append
def S5:=@Nat.le_refl
def S6:=@PySem.Heap.get?_push_of_some
def S7:=@List.getElem?_eq_some_iff
def S8:=@PySem.wpAny_pure
def S9:=@PySem.Heap.lt_size
def T1:=@List.mem_cons
def T2:=@List.mem_singleton
def T4:=@List.mem_append_right
def T5:=@decide_eq_false
def T6:=@List.map_cons
def T7:=@List.getElem?_eq_getElem
def T8:=@List.mem_append_left
def T9:=@Nat.le_trans
def W1:=@List.append_assoc
def a0a:=@List.map_map
def a0b:=@Bool.false_ne_true
def a0c:=@Nat.lt_of_lt_of_le
def a0d:=@decide_eq_true
def a0e:=@List.getElem?_map
def a0f:=@List.size_toArray
def a0g:=@Nat.ne_of_lt
def a0h:=@List.getElem?_append_right
def a0i:=@List.mem_map
def a0j:=@List.mem_append
def a0k:=@PySem.Heap.get?_push_size
def a0l:=@Option.bind_eq_some_iff
def a0m:=@List.append_nil
def a0n:=@List.map_append
def a0o:=@List.getElem?_append_left
def a0p:=@List.getElem?_cons_succ
def a0q:=@Nat.lt_of_le_of_lt
def a0r:=@List.nodup_append
def a0s:=@List.getElem?_set_ne
def a0t:=@List.nodup_cons
def a0u:=@beq_iff_eq
def a0v:=@List.getElem?_set_self
def a0w:=@PySem.Heap.get?_update_other
def a0x:=@List.length_range
def a0y:=@Nat.zero_le
def a0z:=@List.lookup_cons
def a0A:=@Classical.choose_spec
def a0B:=@List.mem_filter
def a0C:=@Nat.le_of_ble_eq_true
def a0D:=@congrArg
def a0E:=@of_decide_eq_true
def a0F:=@PySem.Str.length_append
def a0G:=@Option.isSome_iff_exists
def a0H:=@Option.some.inj
def a0I:=@List.filterMap_cons
def a0J:=@Nat.le_add_right
def a0K:=@PySem.W.mg_of
def a0L:=@List.length_set
def a0M:=@Nat.sub_self
def a0N:=@beq_eq_false_iff_ne
def a0O:=@PySem.wpAny_mono
def a0P:=@PySem.sizeLine_eq
def a0Q:=@List.mem_of_getElem?
def a0R:=@List.mem_map_of_mem
def a0S:=@List.flatten_cons
def a0T:=@Nat.lt_succ_self
def a0U:=@List.not_mem_nil
def a0V:=@Nat.lt_irrefl
def a0W:=@Sum.inr.inj
def a0X:=@List.nodup_nil
def a0Y:=@List.drop_eq_getElem_cons
def a0Z:=@List.length_singleton
def a00:=@PySem.Heap.get?_update_self
def a01:=@PySem.wpAny_Call_Name_kw
def a02:=@List.filter_cons
def a03:=@PySem.Paired.length
def a04:=@List.any_cons
def a05:=@PySem.wpAny_holding
def a06:=@List.mem_range
def a07:=@Int.toNat_natCast
def a08:=@List.foldl_cons
def a09:=@Nat.not_lt_zero
def a1a:=@List.replicate_succ
def a1b:=@Array.length_toList
def a1c:=@List.map_congr_left
def a1d:=@List.getD_eq_getElem?_getD
def a1e:=@List.mem_filterMap
def a1f:=@Int.emod_lt_of_pos
def a1g:=@Nat.ne_of_gt
def a1h:=@List.nil_append
def a1i:=@Int.emod_nonneg
def a1j:=@PySem.W.mg_none_of
def a1k:=@PyProof.Rows.callWith_type1
def a1l:=@List.getElem_range
def a1m:=@PySem.wpAny_passesOwn
def a1n:=@List.length_replicate
def a1o:=@PySem.builtinLookup_eq_fast
def a1p:=@List.set_append_right
def a1q:=@Option.isSome_map
def a1r:=@List.getElem?_eq_none_iff
def a1s:=@Nat.le_succ
def a1t:=@PySem.Heap.size_push
def a1u:=@Bool.false_xor
def a1v:=@List.all_eq_true
def a1w:=@beq_self_eq_true
def a1x:=@List.getElem_mem
def a1y:=@PySem.mem_of_lookup
def a1z:=@List.getElem?_replicate
def a1A:=@PySem.F.plainAttrs_list
def a1B:=@Nat.add_sub_cancel_left
def a1C:=@List.length_nil
def a1D:=@PySem.tupleKind_room_in1
def a1E:=@Nat.lt_succ_of_lt
def a1F:=@PySem.codeAny_mono
def a1G:=@List.map_nil
def a1H:=@PySem.wpAny_typeOf
def a1I:=@PySem.wpAny_call
def a1J:=@PySem.wpAny_isInstance
def a1K:=@Nat.succ_le_succ
def a1L:=@List.mem_flatten
def a1M:=@Array.getElem?_eq_some_iff
def a1N:=@List.filter_sublist
def a1O:=@PySem.typeLookup_type
def a1P:=@Classical.byContradiction
def a1Q:=@PySem.W.callWith_K
def a1R:=@of_decide_eq_false
def a1S:=@PySem.wpAny_loadPart
def a1T:=@PySem.wpAny_newObj_type
def a1U:=@Nat.le_succ_of_le
def a1V:=@PySem.Calls.callWith_builtin
def a1W:=@PySem.wpAny_standAt
def a1X:=@PySem.wpAny_attempt
def a1Y:=@Bool.true_xor
def a1Z:=@List.length_take
def a10:=@List.drop_length
def a11:=@List.getElem_map
def a12:=@Array.getElem?_toList
def a13:=@PySem.F.slot_dict_get
def a14:=@List.getElem?_reverse
def a15:=@List.countP_le_length
def a16:=@List.eq_nil_or_concat
def a17:=@List.concat_eq_append
def a18:=@PySem.plainObj_wpAny_Assign_Attribute
def a19:=@Nat.le_of_lt
def a2a:=@PySem.wpAny_execs_nil
def a2b:=@Nat.le_of_eq
def a2c:=@Nat.lt_trans
def a2d:=@PySem.codeAny_call_builtin
def a2e:=@List.find?_cons
def a2f:=@PySem.wpAny_specialOf
def a2g:=@List.getElem?_append
def a2h:=@PySem.wpAny_updateSeq
def a2i:=@List.eq_nil_of_length_eq_zero
def a2j:=@PySem.W.plainGet_of
def a2k:=@PySem.Heap.get?_update_ne
def a2l:=@Int.toNat_of_nonneg
def a2m:=@List.flatten_append
def a2n:=@Bool.and_false
def a2o:=@List.dropLast_cons_of_ne_nil
def a2p:=@List.Perm.refl
def a2q:=@PySem.wpAny_field
def a2r:=@PySem.Calls.spliced_cons
def a2s:=@PySem.Calls.Name_function_global
def a2t:=@List.all_cons
def a2u:=@PySem.plainId_quiet
def a2v:=@Array.perm_iff_toList_perm
def a2w:=@PyProof.Rows.listUpdate_at
def a2x:=@List.sum_cons
def a2y:=@List.nodup_iff_pairwise_ne
def a2z:=@PySem.wpAny_truthy_bool
def a2A:=@PySem.Within.cons
def a2B:=@PySem.Calls.spliced_nil
def a2C:=@Nat.le_of_succ_le
def a2D:=@Nat.le_of_lt_succ
def a2E:=@List.Pairwise.map
def a2F:=@PySem.call_meets
def a2G:=@Array.getElem?_eq_getElem
def a2H:=@PySem.F.plain_extend_loop
def a2I:=@List.pairwise_iff_getElem
def a2J:=@PySem.wpAny_eqBool_int
def a2K:=@PySem.wpAny_lookBehind
def a2L:=@PySem.pastItsLine_dict
def a2M:=@PySem.wpAny_getItem_list_slice
def a2N:=@Bool.and_eq_true
def a2O:=@PySem.W.looks_findIn
def a2P:=@PySem.wpAny_comprehension_free
def a2Q:=@PySem.F.slot_list_append
def a2R:=@PySem.F.type_list_append
def a2S:=@List.cons_append
def a2T:=@PySem.F.args_list_init_2
def a2U:=@Nat.zero_lt_succ
def a2V:=@Nat.succ_lt_succ
def a2W:=@PyProof.Rows.KeyOrd.kle_trans
def a2X:=@PyProof.Rows.KeyOrd.klt_asymm
def a2Y:=@List.length_erase_of_mem
def a2Z:=@List.eq_of_mem_replicate
def a20:=@List.length_filterMap_le
def a21:=@PySem.F.args_dict_get_2
def a22:=@PySem.F.typeCall_list_1
def a23:=@PySem.F.entry_list_init
def a24:=@List.getElem?_cons_zero
def a25:=@List.of_mem_zip
def a26:=@PySem.pushCells_keeps
def a27:=@Nat.le_antisymm
def a28:=@PySem.W.cellsFrom_some
def a29:=@PyProof.Rows.subscriptTail_builtinR
def a3a:=@PySem.F.entry_dict_get
def a3b:=@PySem.W.looks_mroIn
def a3c:=@Array.getElem?_eq_none
def a3d:=@PyProof.Rows.boot_list
def a3e:=@PySem.wpAny_of_eq
def a3f:=@List.length_pos_of_mem
def a3g:=@PySem.wpAny_setField
def a3h:=@PySem.W.methodCall_KW
def a3i:=@PySem.isSubtype_type
def a3j:=@PySem.callType_codes
def a3k:=@Iff.rfl
def a3l:=@List.countP_mono_left
def a3m:=@List.length_filter_le
def a3n:=@List.take_append_drop
def a3o:=@List.dropLast_sublist
def a3p:=@PySem.wpAny_loadName_local
def a3q:=@PySem.wpAny_load
def a3r:=@Array.mem_toList_iff
def a3s:=@PySem.Calls.evalArgs_plain
def a3t:=@List.length_dropLast
def a3u:=@Bool.and_eq_true_iff
def a3v:=@PySem.codeAny_extend_loopS
def a3w:=@PySem.wpAny_rule
def a3x:=@PySem.Around.under_plainId
def a3y:=@List.mem_erase_of_ne
def a3z:=@List.dropLast_concat
def a3A:=@Bool.true_and
def a3B:=@PySem.Moved.eq_with
def a3C:=@PySem.wpAny_loadName_cell
def a3D:=@PySem.F.called_list
def a3E:=@List.length_reverse
def a3F:=@PySem.SeqAt.EqAt.int_str
def a3G:=@PySem.SeqAt.EqAt.str_int
def a3H:=@Array.find?_toList
def a3I:=@PySem.wpAny_nsSet1
def a3J:=@PySem.Heap.IsSliceOf.new
def a3K:=@PySem.Code.quiet_builtin
def a3L:=@PySem.wpAny_mkText
def a3M:=@Nat.zero_add
def a3N:=@Array.forIn_toList
def a3O:=@List.set_cons_zero
def a3P:=@PySem.W.looks_clsIn
def a3Q:=@Int.le_refl
def a3R:=@PySem.wpAny_letGo
def a3S:=@PySem.wpAny_throw
section
open PySem PySem.Spec PyProof.Rows PySem.W
abbrev Sw:=(List (Addr×Obj))
abbrev Sx:=(Str->Option Value)
abbrev Sy:=List Nat
abbrev Sz:=(Value->Shared->Prop)
abbrev SA:=List Str
abbrev SD:=(Addr->Prop)
abbrev SE:=Shared
abbrev SG:=List Expr
abbrev SI:=List Bool
abbrev SJ:=(Nat->Addr)
abbrev SK:=PySem.W.Frag
abbrev SN:=Expr
abbrev SO:=List Value
abbrev SV:=Program
abbrev SW:=List (Option Nat)
abbrev S_:=World
abbrev Td:=FuncData
abbrev Tf:=Around
abbrev Th:=List Int
abbrev Ti:=(List (Str×Addr))
abbrev Tj:=Frag
abbrev To:=List Addr
abbrev Tq:=(List (Str×NameKind))
abbrev Tr:=W.Frag
abbrev Ts:=List Stmt
abbrev Tt:=Array (Option Value)
abbrev Tu:=Array Value
abbrev Tx:=Option Addr
abbrev Tz:=Option Int
abbrev TB:=Stmt
abbrev TC:=(List (Str×Value))
abbrev TH:=Array Nat
abbrev TN:=(Str->Option NameKind)
abbrev TQ:=Option Expr
abbrev TR:=(Nat->Nat->Bool)
abbrev TU:=(Nat->Prop)
abbrev TX:=(Value->Option Bool)
abbrev TY:=(Int->Int->Int)
abbrev TZ:=(Nat->Value)
end
abbrev a31:List Nat:=[0,0,0,0,0,0,0,0]
namespace L2
open PySem PySem.Spec PyProof.Rows
abbrev Key:=Sum Int Str
abbrev SQ:=List Key
abbrev SS:=(List (Key×Key))
abbrev Tv:=List (List Key)
abbrev Tw:=Key
abbrev TF:=(List (Key×Value))
def mE:Key->Value->Bool
 |.inl k,v=>Value.isInt k v
 |.inr x,v=>Value.isStrOf x v
def RG(w:S_):Key->Int
 |.inl k=>hashInt k
 |.inr x=>hashStr w x
def yJ:∀{k:Tw}{v:Value},mE k v=true->(∃i t,k=Sum.inl i/\v=Value.int i t)\/(∃x t,k=Sum.inr x/\v=Value.str x t)
 |.inl i,v,h=>by obtain⟨t,e⟩:=Value.isInt_shape h;exact .inl ⟨i,t,rfl,e⟩
 |.inr x,v,h=>by obtain⟨t,e⟩:=Value.isStrOf_shape h;exact .inr ⟨x,t,rfl,e⟩
def t9(i:Int)(t:Tok):mE (.inl i) (.int i t)=true:=by simp[mE,Value.isInt]
def t_(x:Str)(t:Tok):mE (.inr x) (.str x t)=true:=by simp[mE,Value.isStrOf]
def Iy(a b:Int):decide ((Sum.inl a:Key)=Sum.inl b)=(a==b):=by grind
def Iz(a b:Str):decide ((Sum.inr a:Key)=Sum.inr b)=decide (a=b):=by simp
def IA(a:Int)(b:Str):decide ((Sum.inl a:Key)=Sum.inr b)=false:=T5 (λq=>nomatch q)
def IB(a:Str)(b:Int):decide ((Sum.inr a:Key)=Sum.inl b)=false:=T5 (λq=>nomatch q)
def yB(prog:SV)(w:S_):PySem.KeyKind prog w Key where
 is:=mE
 hash:=RG w
 inj:=λv a b ha hb=>by
  rcases yJ ha with⟨i,t,rfl,rfl⟩|⟨x,t,rfl,rfl⟩
  .rcases yJ hb with⟨j,u,rfl,e⟩|⟨y,u,rfl,e⟩
   .injection e with e1 _;rw[e1]
   .exact nomatch e
  .rcases yJ hb with⟨j,u,rfl,e⟩|⟨y,u,rfl,e⟩
   .exact nomatch e
   .injection e with e1 _;rw[e1]
 byValue:=λk v h=>by rcases yJ h with⟨i,t,rfl,rfl⟩|⟨x,t,rfl,rfl⟩<;>rfl
 pyHash:=λhv h=>by
  rcases yJ hv with⟨i,t,rfl,rfl⟩|⟨x,t,rfl,rfl⟩
  .exact wpAny_pyHash_int h
  .exact wpAny_pyHash_str h
 eqBool:=λhu hv h=>by
  rcases yJ hu with⟨i,t,rfl,rfl⟩|⟨x,t,rfl,rfl⟩
  .rcases yJ hv with⟨j,u,rfl,rfl⟩|⟨y,u,rfl,rfl⟩
   .rw[Iy]at h;exact a2J h
   .rw[IA]at h;exact a3F i t y u _ _ _ _ h
  .rcases yJ hv with⟨j,u,rfl,rfl⟩|⟨y,u,rfl,rfl⟩
   .rw[IB]at h;exact a3G x t j u _ _ _ _ h
   .rw[Iz]at h;exact wpAny_eqBool_str h
 «strs»:=λk x t v h=>by
  rcases yJ h with⟨i,u,rfl,e⟩|⟨y,u,rfl,e⟩
  .exact nomatch e
  .injection e with e1 _
   subst e1;cases v<;>rfl
def rQ(prog:SV)(w:S_)(k:Tw)(v:Value):(yB prog w).is k v=mE k v:=rfl
def mF(prog:SV)(w:S_)(i:Int)(t:Tok):(yB prog w).is (.inl i) (.int i t)=true:=t9 i t
def mG(prog:SV)(w:S_)(x:Str)(t:Tok):(yB prog w).is (.inr x) (.str x t)=true:=t_ x t
inductive V where
 |non|bl (b:Bool)|int (i:Int)|str (x:Str)|byt (b:Array UInt8)|flt (b:UInt64)|ref (a:Addr)|ty (n:String)
 deriving DecidableEq
abbrev SH:=(List (Key×V))
abbrev SR:=List V
abbrev Tg:=(List (Str×V))
abbrev TV:=(List (List Key×V))
def RelV:V->Value->Prop
 |.non,u=>u=Value.none
 |.bl b,u=>u=Value.bool b
 |.int i,u=>∃t,u=Value.int i t
 |.str x,u=>∃t,u=Value.str x t
 |.byt b,u=>∃t,u=Value.bytes b t
 |.flt b,u=>∃t,u=Value.float b t
 |.ref a,u=>u=Value.ref a
 |.ty n,u=>u=Value.type n
abbrev Vals:List V->List Value->Prop:=Paired RelV
def Vals.length(r:Vals xs us):xs.length=us.length:=a03 r
theorem Vals.get:∀{b:SR}{a:SO}{i:Nat}{x:V},Vals b a->b[i]?=some x->∃u,a[i]?=some u/\RelV x u
 |_,_,_,_,.nil,e=>by simp at e
 |_,_,0,_,.cons r _,e=>by simp at e;subst e;exact⟨_,rfl,r⟩
 |_,_,i+1,x,.cons _ t,e=>by obtain⟨u,d,c⟩:=Vals.get (i:=i) (x:=x) t (by grind);exact⟨u,by simpa using d,c⟩
theorem Vals.append:∀{b c:SR}{a ws:SO},Vals b a->Vals c ws->Vals (b++c) (a++ws)
 |_,_,_,_,.nil,s=>s
 |_,_,_,_,.cons r t,s=>.cons r (Vals.append t s)
theorem Vals.take:∀{b:SR}{a:SO}(n:Nat),Vals b a->Vals (b.take n) (a.take n)
 |_,_,0,_=>.nil
 |_,_,_+1,.nil=>.nil
 |_,_,n+1,.cons r t=>.cons r (Vals.take n t)
theorem Vals.drop:∀{b:SR}{a:SO}(n:Nat),Vals b a->Vals (b.drop n) (a.drop n)
 |_,_,0,r=>r
 |_,_,_+1,.nil=>.nil
 |_,_,n+1,.cons _ t=>Vals.drop n t
def U9:Option V->Option Value->Prop
 |some v,some u=>RelV v u
 |none,none=>True
 |_,_=>False
def KV{a:Type}:List (a×V)->List (a×Value)->Prop:=Paired λ(p:a×V) (q:a×Value)=>p.1=q.1/\RelV p.2 q.2
def kV:Key->V
 |.inl i=>.int i
 |.inr x=>.str x
inductive HO where
 |lst (xs:SR)
 |tup (xs:SR)
 |dK (kvs:SH)|dT (kvs:TV)
 |set (S:Int->Bool) (n:Nat)
 |ins (C dx:Addr) (fs:Tg)
 |own (x:Addr)
 |xd (fs:Tg)
 |met (f x:Addr)
 |rng (lo hi:Int)
 |frz (o:Obj) (u:HO)
 |tbl (ps:Tu)
 |ext (φ:Heap->Prop)
abbrev Hp:=Addr->Option HO
def upd(H:Hp)(a:Addr)(o:HO):Hp:=λb=>if b=a then some o else H b
def ze:upd H a o a=some o:=by unfold upd;rw[if_pos rfl]
def zh(h:b≠a):upd H a o b=H b:=by unfold upd;rw[if_neg h]
def Xh:upd (upd H a o) a u=upd H a u:=by
 funext b;unfold upd;split<;>rfl
def Om{H:Hp}{a b:Addr}{o u:HO}(h:H a=some o)(h':H b=some u)(d:o≠u):a≠b:=by grind
def yq{H:Hp}{a b:Addr}{o:HO}(h:H a=some o)(h':H b=none):a≠b:=by grind
section
variable (P:SV) (w:S_)
def qr(H:Hp)(h:Heap)(a:Addr):HO->Prop
 |.lst d=>d.length<=sizeLine/\∃(c:SO)(n:Nat),Vals d c/\h.get? a=some { cls:=.type "list",data:=.seq c.toArray n }
 |.tup d=>d.length<=sizeLine/\∃c:List Value,Vals d c/\IsTup h a c.toArray
 |.dK b=>b.length<=sizeLine/\(a==sysModules)=false/\∃j,KV b j/\h.DictOf (yB P w) a j
 |.dT b=>b.length<=sizeLine/\(a==sysModules)=false/\∃d:List (List Key×Addr×Value),
   Paired (λ(p:List Key×V) (q:List Key×Addr×Value)=>p.1=q.1/\H q.2.1=some (.tup (p.1.map kV))/\RelV p.2 q.2.2) b d/\
   ∃o m y,h.get? a=some o/\o.ExactDict/\o.data=.dict m y/\m.toList=d.map (entryOfKey (tupleKind (yB P w)))/\(d.map (·.1)).Nodup
 |.set S n=>h.SetOf (intKind P w) a S n
 |.ins C g fs=>H g=some (.own a)/\fs.length<=1000/\g≠a/\h.get? a=some (PySem.W.instObj C g)/\
   ∃e,h.Ns1 g e/\(∀f,U9 (fs.lookup f) (e f))/\PySem.Within e (fs.map (·.1))
 |.own _=>∃o,h.get? a=some o
 |.xd fs=>∃e,h.Ns1 a e/\∀f,U9 (fs.lookup f) (e f)
 |.rng A s=>∃t u v,h.get? a=some { cls:=.type "range",data:=.fields #[.int A t,.int s u,.int 1 v] }
 |.frz o u=>h.get? a=some o/\qr H h a u
 |.tbl z=>h.get? a=some { cls:=.none,data:=.fields z }
 |.met f x=>h.get? a=some (PySem.W.methodObj (.ref f) (.ref x))
 |.ext i=>i h/\(∃o,h.get? a=some o)/\∀r l:Heap,i r->(∀o,r.get? a=some o->l.get? a=some o)->i l
def HOk(H:Hp)(h:Heap):Prop:=∀a o,H a=some o->qr P w H h a o
end
section
variable {P:SV}{w:S_}{H H':Hp}{h h':Heap}{a:Addr}{o:HO}
def qr.lt(x:qr P w H h a o):a<h.objs.size:=by
 cases o with
 |lst c=>obtain⟨_,_,_,_,e⟩:=x;exact S9 e
 |tup c=>obtain⟨_,_,_,p⟩:=x;exact p.lt
 |dK b=>obtain⟨_,_,_,_,o,_,_,e,_⟩:=x;exact S9 e
 |dT b=>obtain⟨_,_,_,_,o,_,_,e,_⟩:=x;exact S9 e
 |set S n=>obtain⟨o,_,_,_,e,_⟩:=x;exact S9 e
 |ins C g fs=>obtain⟨_,_,_,e,_⟩:=x;exact S9 e
 |own y=>obtain⟨_,e⟩:=x;exact S9 e
 |xd fs=>obtain⟨_,⟨_,_,_,e,_⟩,_⟩:=x;exact S9 e
 |rng l d=>obtain⟨_,_,_,e⟩:=x;exact S9 e
 |frz ob u=>obtain⟨e,_⟩:=x;exact S9 e
 |tbl j=>exact S9 x
 |met f y=>exact S9 x
 |ext i=>obtain⟨_,⟨_,e⟩,_⟩:=x;exact S9 e
theorem Paired.Oo{g e:Type}{F G:g->e->Prop}:∀{c:List g}{d:List e},Paired F c d->(∀a b,F a b->G a b)->Paired G c d
 |_,_,.nil,_=>.nil
 |_,_,.cons r t,f=>.cons (f _ _ r) (Paired.Oo t f)
def qr.BV(x:qr P w H h a o)(k:∀b u,(b=a\/H b=some (.own a))->h.get? b=some u->h'.get? b=some u)
  (I:∀b,H b=some (.own a)->H' b=some (.own a)) (K:∀b l,H b=some (.tup l)->H' b=some (.tup l)):qr P w H' h' a o:=by
 induction o with
 |lst l=>obtain⟨z,j,n,r,e⟩:=x;exact⟨z,j,n,r,k _ _ (.inl rfl) e⟩
 |tup l=>obtain⟨z,j,r,ob,e,c⟩:=x;exact⟨z,j,r,ob,k _ _ (.inl rfl) e,c⟩
 |dK m=>obtain⟨z,y,F,r,ob,i,g,e,c⟩:=x;exact⟨z,y,F,r,ob,i,g,k _ _ (.inl rfl) e,c⟩
 |dT m=>obtain⟨z,y,l,r,ob,i,g,e,c⟩:=x;exact⟨z,y,l,Paired.Oo r λp q z=>⟨z.1,K _ _ z.2.1,z.2.2⟩,ob,i,g,k _ _ (.inl rfl) e,c⟩
 |set S n=>obtain⟨ob,i,g,t,e,c⟩:=x;exact⟨ob,i,g,t,k _ _ (.inl rfl) e,c⟩
 |ins C L fs=>obtain⟨d,z,J,e,s,⟨A,i,g,E,c⟩,r⟩:=x;exact⟨I _ d,z,J,k _ _ (.inl rfl) e,s,⟨A,i,g,k _ _ (.inr d) E,c⟩,r⟩
 |own y=>obtain⟨ob,e⟩:=x;exact⟨ob,k _ _ (.inl rfl) e⟩
 |xd fs=>obtain⟨s,⟨A,i,g,e,c⟩,r⟩:=x;exact⟨s,⟨A,i,g,k _ _ (.inl rfl) e,c⟩,r⟩
 |rng O N=>obtain⟨t,u,v,e⟩:=x;exact⟨t,u,v,k _ _ (.inl rfl) e⟩
 |frz ob u G=>obtain⟨e,q⟩:=x;exact⟨k _ _ (.inl rfl) e,G q⟩
 |tbl D=>have e:=x;exact k a _ (.inl rfl) e
 |met f y=>have e:=x;exact k a _ (.inl rfl) e
 |ext M=>obtain⟨p,⟨o,e⟩,B⟩:=x;exact⟨B _ _ p λo q=>k _ _ (.inl rfl) q,⟨o,k _ _ (.inl rfl) e⟩,B⟩
def HOk.lt(x:HOk P w H h)(e:H a=some o):a<h.objs.size:=(x a o e).lt
def HOk.fresh(x:HOk P w H h)(e:h.objs.size<=a):H a=none:=by
 cases q:H a with
 |none=>rfl
 |some u=>exact absurd (a0c (x.lt q) e) (a0V _)
def HOk.kept(x:HOk P w H h)(k:∀b u,h.get? b=some u->h'.get? b=some u):HOk P w H h':=λa o e=>
 (x a o e).BV (λb u _ q=>k b u q) (λ_ q=>q) λ_ _ q=>q
def HOk.laid(x:HOk P w H h)(k:∀b u,h.get? b=some u->h'.get? b=some u)(hp:h.objs.size<=a)(new:qr P w (upd H a o) h' a o):HOk P w (upd H a o) h':=λb u e=>by
 have f:=x.fresh hp;by_cases d:b=a
 .subst d;rw[ze]at e;cases e;exact new
 .rw[zh d]at e;exact(x b u e).BV (λc v _ q=>k c v q) (λc q=>by rw[zh (yq q f)];exact q) λc g q=>by rw[zh (yq q f)];exact q
end
def Rd(H:Hp)(a:Addr)(u:HO):Prop:=H a=some u\/∃o,H a=some (.frz o u)
def Rd.ok(r:Rd H a u)(x:HOk P w H h):qr P w H h a u:=by
 rcases r with r|⟨o,r⟩
 .exact x a u r
 .obtain⟨_,q⟩:=x a _ r;exact q
def Mut:Option HO->Prop
 |some (.lst _)=>True
 |some (.dK _)=>True
 |some (.dT _)=>True
 |some (.set _ _)=>True
 |some (.ins _ _ _)=>True
 |some (.ext _)=>True
 |_=>False
def HOk.write(ok:HOk P w H h)(mu:Mut (H x))(he:e=x\/H e=some (.own x))(k:∀b u,b≠e->h.get? b=some u->h'.get? b=some u)(l:∃u,h'.get? e=some u)
  (new:qr P w (upd H x o') h' x o'):HOk P w (upd H x o') h':=λb u q=>by
 have d:∀c y,H c=some (.own y)->c≠x:=λc y r z=>by subst z;rw[r]at mu;exact mu
 have f:∀c g,H c=some (.tup g)->c≠x:=λc g r z=>by subst z;rw[r]at mu;exact mu
 by_cases i:b=x
 .subst i;rw[ze]at q;cases q;exact new
 .rw[zh i]at q;by_cases a:b=e
  .have m:H b=some (.own x):=by
    rcases he with z|z
    .exact absurd (a.trans z) i
    .rw[a];exact z
   rw[q]at m;cases m;obtain⟨v,n⟩:=l;exact⟨v,by rw[a];exact n⟩
  .refine(ok b u q).BV (λc v j r=>k c v ?_ r) (λc r=>by rw[zh (d c b r)];exact r) λc g r=>by rw[zh (f c g r)];exact r
   rcases j with rfl|j
   .exact a
   .rintro rfl
    rcases he with z|z
    .exact d c b j z
    .rw[j]at z;cases z;exact i rfl
structure Un(fs ex:To)(H H':Hp)(h h':Heap):Prop where
 keep:∀b o,h.get? b=some o->H b=none->b∉fs->b∉ex->h'.get? b=some o
 slot:∀b o,h.get? b=some o->H b=none->b∈fs->b∉ex->∃sl,h'.get? b=some { o with slots:=sl }
 free:∀b o,h.get? b=some o->H b=none->b∉ex->H' b=none
 there:∀b o,h.get? b=some o->b∉ex->∃o',h'.get? b=some o'
 t6:∀b xs,H b=some (.tup xs)->H' b=some (.tup xs)
 Bu:∀b o u,H b=some (.frz o u)->H' b=some (.frz o u)
 D2:∀b ps,H b=some (.tbl ps)->∃more,H' b=some (.tbl (ps++more))
section
variable {fs ex:To}{H H1:Hp}{h h1 h':Heap}{a x e:Addr}{o:HO}
def Un.any(u:Un fs ex H H1 h h1)(q:h.get? b=some ob)(n:H b=none)(c:b∉ex):∃f,h1.get? b=some { ob with slots:=f }:=by
 by_cases d:b∈fs
 .exact u.slot b ob q n d c
 .exact⟨ob.slots,u.keep b ob q n d c⟩
def Un.kept(k:∀b u,h.get? b=some u->h'.get? b=some u):Un fs ex H H h h':=
 ⟨λb ob q _ _ _=>k b ob q,λb ob q _ _ _=>⟨ob.slots,k b ob q⟩,λ_ _ _ n _=>n,λb ob q _=>⟨ob,k b ob q⟩,λ_ _ q=>q,λ_ _ _ q=>q,λ_ c q=>⟨#[],by rw[q];simp⟩⟩
def Un.refl:Un fs ex H H h h:=Un.kept λ_ _ q=>q
def Un.laid(k:∀b u,h.get? b=some u->h'.get? b=some u)(hp:h.objs.size<=a)(c:H a=none):Un fs ex H (upd H a o) h h' where
 keep:=λb u q _ _ _=>k b u q
 slot:=λb u q _ _ _=>⟨u.slots,k b u q⟩
 free:=λb u q n _=>by rw[zh (a0g (a0c (S9 q) hp))];exact n
 there:=λb u q _=>⟨u,k b u q⟩
 t6:=λb d q=>by rw[zh (yq q c)];exact q
 Bu:=λb u d q=>by rw[zh (yq q c)];exact q
 D2:=λb f q=>⟨#[],by rw[zh (yq q c),q];simp⟩
def Un.write(mu:Mut (H x))(he:e=x\/H e=some (.own x))(k:∀b u,b≠e->h.get? b=some u->h'.get? b=some u)(f:∃u,h'.get? e=some u):Un fs ex H (upd H x o) h h':=by
 have i:∀b,H b=none->b≠x:=λb n z=>by subst z;rw[n]at mu;exact mu
 have g:∀b,H b=none->b≠e:=λb n z=>by
  subst z;rcases he with r|r
  .exact i b n r
  .rw[n]at r;cases r
 have d:∀b u,H b=some u->¬Mut (some u)->b≠x:=λb u q l z=>by subst z;rw[q]at mu;exact l mu
 refine⟨λb u q n _ _=>k b u (g b n) q,λb u q n _ _=>⟨u.slots,k b u (g b n) q⟩,λb u q n _=>by rw[zh (i b n)];exact n,λb u q _=>?_,
  λb j q=>by rw[zh (d b _ q λz=>z)];exact q,λb u j q=>by rw[zh (d b _ q λz=>z)];exact q,λb m q=>⟨#[],by rw[zh (d b _ q λz=>z),q];simp⟩⟩
 by_cases c:b=e
 .subst c;exact f
 .exact⟨u,k b u c q⟩
end
def trk(h:Heap)(H:Hp):List Addr:=(List.range h.objs.size).filter λa=>(H a).isSome
def BW(h:Heap)(H:Hp):Heap:=PySem.W.hideAll h (trk h H)
def ua(h:Heap)(H:Hp):(BW h H).objs.size=h.objs.size:=PySem.W.hideAll_size _ _
def BX(e:h.get? b=some o)(n:H b=none):(BW h H).get? b=some o:=
 PySem.W.hideAll_get _ e λa=>by have q:=(a0B.mp a).2;rw[n]at q;simp at q
def FE(e:(BW h H).get? b=some o):h.get? b=some o/\H b=none:=by
 have a:=PySem.W.of_hideAll (trk h H) e;refine⟨a,?_⟩;cases q:H b with
 |none=>rfl
 |some x=>have c:b∈trk h H:=a0B.mpr ⟨a06.mpr (S9 a),by simp[q]⟩;have z:(BW h H).get? b=none:=PySem.W.hideAll_none (trk h H) c;rw[z]at e;cases e
structure Mod(K:SK)(mg:Sx)(base:Heap):Prop where
 kin:K.In base
 glob:base.Ns mainGlobals mg
 blt:∃mb,base.Ns builtinsNs mb/\∀x:Str,x≠"__name__"->mb x=bootBuiltins x
 nolimit:base.NoLimit
structure Cx where
 prog:Program
 w:World
 K:PySem.W.Frag
 mg:Str->Option Value
 base:Heap
 A:Around
 N:List Str
 s₀:Shared
 H₀:Hp
 env:Env
 outer:List Env
 stack:List Env
 ex:List Addr
 fn:Str->Bool
 calm:Bool
 pn:List (Addr×Obj)
 xe:Value->Shared->Prop
abbrev a32(X:Cx):=model X.prog X.w
def frs(l:List Env):List Addr:=l.filterMap (·.frame)
abbrev Cx.fs(X:Cx):List Addr:=frs X.outer
def Vis(a:Scope)(x:Str):Prop:=a.names.lookup x=some .local\/a.names.lookup x=some .cell\/a.names.lookup x=some .free
def Loc(a:Scope)(x:Str):Prop:=a.names.lookup x=some .local\/a.names.lookup x=some .cell
def Look(env:Env)(h:Heap)(m:Sx)(x:Str)(u:Value):Prop:=
 (env.kindOf x=some .local/\m x=some u)\/((env.kindOf x=some .cell\/env.kindOf x=some .free)/\∃c,env.cells.lookup x=some c/\h.IsCell c (some u))
structure Cx.Ok(X:Cx):Prop where
 mod:Mod X.K X.mg X.base
 kind:X.env.scope.kind=.function
 glob:X.env.globals=mainGlobals
 blt:X.env.builtins=builtinsNs
 above:X.s₀.heap.objs.size<=X.env.locals
 inj:∀x y c,X.env.cells.lookup x=some c->X.env.cells.lookup y=some c->x=y
 has:∀x,(X.env.kindOf x=some .cell\/X.env.kindOf x=some .free)->∃c,X.env.cells.lookup x=some c
 cab:∀x c,X.fn x=true->X.env.cells.lookup x=some c->X.s₀.heap.objs.size<=c
 hd:X.calm=true->X.A.handled=none
 frames:X.A.frames=some X.stack
 stk:X.stack=X.outer\/(X.stack=X.env::X.outer/\X.env.frame=some X.env.locals)
 exf:∀b∈X.ex,b≠X.env.locals/\∀x c,X.env.cells.lookup x=some c->c≠b
 bs:∀b o,X.base.get? b=some o->X.s₀.heap.get? b=some o/\X.H₀ b=none
 bsz:X.base.objs.size<=X.s₀.heap.objs.size
 NL:∀b o,X.base.get? b=some o->b∉X.ex
 NM:∀b∈X.ex,b∉X.fs
 oA:X.s₀.heap.FunFrames X.base X.outer
 frf:∀b∈X.fs,X.H₀ b=none
structure Inv(X:Cx)(pins:Sw)(σ:List (Option V))(H:Hp)(s:SE):Prop where
 ok:X.Ok
 os:s.os=X.s₀.os
 bare:AllBare s.gens
 base:Un X.fs X.ex X.H₀ H X.s₀.heap s.heap
 loc:∃m,s.heap.Ns X.env.locals m/\∀(i:Nat)(x:Str)(v:V),X.N[i]?=some x->σ[i]?=some (some v)->Vis X.env.scope x->∃u,RelV v u/\Look X.env s.heap m x u
 cell:∀x c,X.env.cells.lookup x=some c->∃v,s.heap.IsCell c v
 free:H X.env.locals=none
 U1:∀x c,X.env.cells.lookup x=some c->H c=none
 pin:∀p∈X.pn++pins,s.heap.get? p.1=some p.2/\H p.1=none/\p.1≠X.env.locals/\p.1∉X.fs/\∀v,p.2.data≠.cell v
 hok:HOk X.prog X.w H s.heap
 len:σ.length=X.N.length
section
variable {X:Cx}{pins:Sw}{σ:List (Option V)}{H H':Hp}{s:SE}{h':Heap}
def Cx.Ok.RH(ok:X.Ok)(e:X.base.get? b=some o):b∉X.fs:=λa=>by have:=(ok.oA.mem a).1;rw[e]at this;cases this
def Inv.bs(I:Inv X pins σ H s):∀b o,X.base.get? b=some o->s.heap.get? b=some o/\H b=none:=λb o e=>
 ⟨I.base.keep b o (I.ok.bs b o e).1 (I.ok.bs b o e).2 (I.ok.RH e) (I.ok.NL b o e),I.base.free b o (I.ok.bs b o e).1 (I.ok.bs b o e).2 (I.ok.NL b o e)⟩
def Inv.bk(I:Inv X pins σ H s):∀b o,X.base.get? b=some o->s.heap.get? b=some o:=λb o e=>(I.bs b o e).1
def Inv.mod(I:Inv X pins σ H s):Mod X.K X.mg X.base:=I.ok.mod
def Inv.kIn(I:Inv X pins σ H s):X.K.In s.heap:=I.ok.mod.kin.keeps I.bk
def Inv.lt(I:Inv X pins σ H s):X.env.locals<s.heap.objs.size:=let⟨_,hn,_⟩:=I.loc;hn.lt
def Inv.sz(I:Inv X pins σ H s):X.s₀.heap.objs.size<=s.heap.objs.size:=T9 I.ok.above (a19 I.lt)
def Inv.RI(I:Inv X pins σ H s)(h:s.heap.objs.size<=a):a∉X.fs:=λc=>by obtain⟨_,o,b,_⟩:=I.ok.oA.mem c;exact absurd (a0c (S9 b) (T9 I.sz h)) (a0V _)
def Inv.cne(I:Inv X pins σ H s):∀x c,X.env.cells.lookup x=some c->c≠X.env.locals:=λx c e z=>by obtain⟨v,o,d,f⟩:=I.cell x c e;obtain⟨m,⟨h,i,g,a,b,_⟩,_⟩:=I.loc;rw[z,a]at d;cases d;rw[b]at f;cases f
def Inv.oA(I:Inv X pins σ H s):s.heap.FunFrames X.base X.outer:=by
 have all:∀(l:List Env),(∀b∈frs l,b∈X.fs)->X.s₀.heap.FunFrames X.base l->s.heap.FunFrames X.base l:=by
  intro l
  induction l with
  |nil=>intro _ _;trivial
  |cons g r h=>intro d n;obtain⟨f,⟨L,o,hf,p,j,m⟩,i⟩:=n;have a:=d L (by unfold frs;rw[a0I,hf];exact u8);obtain⟨q,e⟩:=I.base.slot L o j (I.ok.frf L a) a λz=>I.ok.NM L z a;exact⟨f,⟨L,_,hf,p,e,m⟩,h (λb c=>d b (by unfold frs;rw[a0I,hf];exact S0 _ c)) i⟩
 exact all X.outer (λ_ c=>c) I.ok.oA
def Inv.stack(I:Inv X pins σ H s):s.heap.FunFrames X.base X.stack:=by
 rcases I.ok.stk with e|⟨e,hf⟩
 .rw[e];exact I.oA
 .rw[e];obtain⟨m,a,_⟩:=I.loc;exact .cons (by rw[I.ok.kind];decide) hf a (Heap.get?_none_of_le (T9 I.ok.bsz I.ok.above)) I.oA
def Inv.dr(I:Inv X pins σ H s):∀b∈frs X.stack,b∈X.env.locals::X.fs:=λb a=>by
 rcases I.ok.stk with e|⟨e,hf⟩
 .rw[e]at a;exact S0 _ a
 .rw[e]at a;unfold frs at a;rw[a0I,hf]at a;exact a
def Inv.eG(I:Inv X pins σ H s):∀b∈frs X.stack,H b=none:=λb a=>by
 rcases T1.mp (I.dr b a)with e|a
 .rw[e];exact I.free
 .obtain⟨_,o,c,_⟩:=I.ok.oA.mem a;exact I.base.free b o c (I.ok.frf b a) λz=>I.ok.NM b z a
def Inv.step{g':Array GenState}{t':Nat}{d':Drawn}{ch:To}(I:Inv X pins σ H s)
  (j:∀b∈ch,(b∈X.ex\/X.s₀.heap.objs.size<=b)/\b≠X.env.locals/\(∀x c,X.env.cells.lookup x=some c->c≠b)/\∀p∈X.pn++pins,p.1≠b)
  (keep:∀b o,b≠X.env.locals->b∉X.fs->b∉ch->s.heap.get? b=some o->H b=none->h'.get? b=some o)
  (A:∀b o,b≠X.env.locals->b∈X.fs->b∉ch->s.heap.get? b=some o->H b=none->∃L,h'.get? b=some { o with slots:=L }) (f:∀b o,b∉ch->s.heap.get? b=some o->H b=none->H' b=none)
  (C:∀b o,b∉ch->s.heap.get? b=some o->∃E,h'.get? b=some E)
  (t6:∀b y,H b=some (.tup y)->H' b=some (.tup y)) (W:∀b o u,H b=some (.frz o u)->H' b=some (.frz o u)) (Z:∀b K,H b=some (.tbl K)->∃G,H' b=some (.tbl (K++G)))
  (ns:∀m,s.heap.Ns X.env.locals m->h'.Ns X.env.locals m) (N:HOk X.prog X.w H' h') (T:AllBare g'):
  Inv X pins σ H' { s with heap:=h',gens:=g',drawn:=d',toks:=t' }:=by
 have J:∀b o,X.s₀.heap.get? b=some o->b≠X.env.locals:=λb o e=>a0g (a0c (S9 e) I.ok.above);have t:∀b o,X.s₀.heap.get? b=some o->b∉X.ex->b∉ch:=λb o e a B=>by
  rcases(j b B).1 with z|z
  .exact a z
  .exact absurd (a0c (S9 e) z) (a0V _)
 have h:∀x c,X.env.cells.lookup x=some c->∀v,s.heap.IsCell c v->h'.IsCell c v:=λx c e v ⟨o,D,M⟩=>by
  have g:=λz=>(j c z).2.2.1 x c e rfl;by_cases Q:c∈X.fs
  .obtain⟨L,q⟩:=A c o (I.cne x c e) Q g D (I.U1 x c e);exact⟨_,q,M⟩
  .exact⟨o,keep c o (I.cne x c e) Q g D (I.U1 x c e),M⟩
 refine⟨I.ok,I.os,T,⟨λb o e n B a=>?_,λb o e n B a=>?_,λb o e n a=>?_,λb o e a=>?_,λb y e=>t6 b y (I.base.t6 b y e),λb o y e=>W b o y (I.base.Bu b o y e),λb K e=>?_⟩,?_,λx c e=>?_,?_,λx c e=>?_,λp hp=>?_,N,I.len⟩
 .exact keep b o (J b o e) B (t b o e a) (I.base.keep b o e n B a) (I.base.free b o e n a)
 .obtain⟨L,w⟩:=I.base.slot b o e n B a;obtain⟨O,F⟩:=A b _ (J b o e) B (t b o e a) w (I.base.free b o e n a);exact⟨O,F⟩
 .obtain⟨E,w⟩:=I.base.there b o e a;exact f b E (t b o e a) w (I.base.free b o e n a)
 .obtain⟨E,w⟩:=I.base.there b o e a;exact C b E (t b o e a) w
 .obtain⟨Y,w⟩:=I.base.D2 b K e;obtain⟨S,F⟩:=Z b _ w;exact⟨Y++S,by rw[F,Array.append_assoc]⟩
 .obtain⟨m,hn,hl⟩:=I.loc;refine⟨m,ns m hn,λi x v w F U=>?_⟩;obtain⟨u,r,l⟩:=hl i x v w F U;refine⟨u,r,?_⟩;rcases l with l|⟨k,c,e,z⟩
  .exact .inl l
  .exact .inr ⟨k,c,e,h x c e _ z⟩
 .obtain⟨v,z⟩:=I.cell x c e;exact⟨v,h x c e v z⟩
 .obtain⟨m,⟨o,_,_,D,_⟩,_⟩:=I.loc;exact f _ o (λz=>(j _ z).2.1 rfl) D I.free
 .obtain⟨v,o,D,M⟩:=I.cell x c e;exact f c o (λz=>(j c z).2.2.1 x c e rfl) D (I.U1 x c e)
 .obtain⟨e,n,R,P,d⟩:=I.pin p hp;have g:=λz=>(j p.1 z).2.2.2 p hp rfl;exact⟨keep p.1 p.2 R P g e n,f p.1 p.2 g e n,R,P,d⟩
def Inv.un(I:Inv X pins σ H s)(u:Un X.fs [] H H' s.heap h')(g:HOk X.prog X.w H' h'):Inv X pins σ H' { s with heap:=h',toks:=t' }:=by
 obtain⟨m,⟨o,v,q,h,r⟩,_⟩:=id I.loc;obtain⟨t,i⟩:=u.any h I.free (by simp);exact I.step (ch:=[]) (λ_ z=>nomatch z) (λb o _ f _ e n=>u.keep b o e n f (by simp)) (λb o _ f _ e n=>u.slot b o e n f (by simp)) (λb o _ e n=>u.free b o e n (by simp)) (λb o _ e=>u.there b o e (by simp)) u.t6 u.Bu u.D2 (λw j=>by
  obtain⟨p,c,d,a,l⟩:=j;rw[h]at a;cases a;exact⟨_,c,d,i,l⟩) g I.bare
def Inv.call(I:Inv X pins σ H s)(u:Un (frs X.stack) ch H H' s.heap h')(j:HOk X.prog X.w H' h')(t:AllBare g')
  (f:∀b∈ch,(b∈X.ex\/X.s₀.heap.objs.size<=b)/\b≠X.env.locals/\(∀x c,X.env.cells.lookup x=some c->c≠b)/\∀p∈X.pn++pins,p.1≠b):
  Inv X pins σ H' { s with heap:=h',gens:=g',drawn:=d',toks:=t' }:=by
 obtain⟨m,⟨o,C,A,l,r⟩,_⟩:=id I.loc;obtain⟨B,g⟩:=u.any l I.free λz=>(f _ z).2.1 rfl;exact I.step f (λb o g w a e n=>u.keep b o e n (λz=>(T1.mp (I.dr b z)).elim g w) a) (λb o _ _ a e n=>u.any e n a) (λb o a e n=>u.free b o e n a) (λb o a e=>u.there b o e a) u.t6 u.Bu u.D2 (λD q=>by
  obtain⟨y,h,i,d,v⟩:=q;rw[l]at d;cases d;exact⟨_,h,i,g,v⟩) j t
def Inv.turned(I:Inv X pins σ H s)(k:∀b o,b≠it->s.heap.get? b=some o->h'.get? b=some o)(A:H it=none)(f:it≠X.env.locals)
  (w:it∈X.ex\/X.s₀.heap.objs.size<=it) (i:∀x c,X.env.cells.lookup x=some c->c≠it) (y:∀p∈X.pn++pins,p.1≠it):Inv X pins σ H { s with heap:=h',toks:=t' }:=by
 have d:∀b u,H b=some u->b≠it:=λb u e z=>by rw[z,A]at e;cases e
 refine I.step (ch:=[it]) (λb t=>?_) (λb o _ _ a e _=>k b o (λz=>a (by simp[z])) e) (λb o _ _ a e _=>⟨o.slots,k b o (λz=>a (by simp[z])) e⟩) (λ_ _ _ _ n=>n)
  (λb o a e=>⟨o,k b o (λz=>a (by simp[z])) e⟩) (λ_ _ e=>e) (λ_ _ _ e=>e) (λb B e=>⟨#[],by rw[e];simp⟩) (λm g=>?_) (λb u e=>?_) I.bare
 .have e:=by simpa using t
  subst e;exact⟨w,f,i,y⟩
 .obtain⟨o,j,h,l,r⟩:=g;exact⟨o,j,h,k _ o (Ne.symm f) l,r⟩
 .refine(I.hok b u e).BV (λc v a q=>k c v ?_ q) (λ_ q=>q) λ_ _ q=>q;rcases a with z|z
  .rw[z];exact d b u e
  .exact d c _ z
def Inv.tok(I:Inv X pins σ H s)(t:Nat):Inv X pins σ H { s with toks:=t }:=I.un Un.refl I.hok
def Inv.kept(I:Inv X pins σ H s)(k:∀b u,s.heap.get? b=some u->h'.get? b=some u):Inv X pins σ H { s with heap:=h',toks:=t' }:=I.un (Un.kept k) (I.hok.kept k)
def Inv.laid(I:Inv X pins σ H s)(k:∀b u,s.heap.get? b=some u->h'.get? b=some u)(hp:s.heap.objs.size<=a)(new:qr X.prog X.w (upd H a o) h' a o):
  Inv X pins σ (upd H a o) { s with heap:=h',toks:=t' }:=I.un (Un.laid k hp (I.hok.fresh hp)) (I.hok.laid k hp new)
def Inv.write(I:Inv X pins σ H s)(mu:Mut (H x))(he:e=x\/H e=some (.own x))(k:∀b u,b≠e->s.heap.get? b=some u->h'.get? b=some u)(a:∃u,h'.get? e=some u)
  (new:qr X.prog X.w (upd H x o) h' x o):Inv X pins σ (upd H x o) { s with heap:=h',toks:=t' }:=I.un (Un.write mu he k a) (I.hok.write mu he k a new)
def Inv.eI(I:Inv X pins σ H s)(h:∀p∈pins',s.heap.get? p.1=some p.2/\H p.1=none/\p.1≠X.env.locals/\p.1∉X.fs/\∀v,p.2.data≠.cell v):Inv X pins' σ H s:=
 ⟨I.ok,I.os,I.bare,I.base,I.loc,I.cell,I.free,I.U1,λp hp=>(a0j.mp hp).elim (λz=>I.pin p (T8 _ z)) (h p),I.hok,I.len⟩
def oB{N:SA}(e:N.Nodup){i j:Nat}{x:Str}(a:N[i]?=some x)(b:N[j]?=some x):i=j:=by obtain⟨g,d⟩:=S7.mp a;obtain⟨f,c⟩:=S7.mp b;exact(List.getElem_inj e).mp (d.trans c.symm)
def gG(I:Inv X pins σ H s)(hN:X.N.Nodup)(hi:X.N[i]?=some x)(w:Loc X.env.scope x)(r:RelV v u)
  (h:∀Z,Inv X pins (σ.set i (some v)) H Z->(∃a,Heap.SameBut a s.heap Z.heap/\(a=X.env.locals\/X.env.cells.lookup x=some a))->Q () Z) (hf:X.fn x=true\/X.env.scope.names.lookup x=some .local:=by first|exact .inl rfl|exact .inr rfl|assumption):wpAny M A (storeName X.env x u) Q E s:=by
 obtain⟨m,hn,hl⟩:=id I.loc;have N:(X.env.scope.kind == .class||(X.env.scope.kind == .module&&X.env.locals != X.env.globals))=false:=by rw[I.ok.kind];rfl
 have F:i<σ.length:=by rw[I.len];exact(S7.mp hi).1
 have cne:=I.cne;have g:∀{a:Addr}{h':Heap},(∃o,s.heap.get? a=some o/\H a=none)->Heap.SameBut a s.heap h'->HOk X.prog X.w H h':=λ{a h'} ha f b ob e=>by
  obtain⟨_,_,B⟩:=ha;refine(I.hok b ob e).BV (λc T t q=>(f.2 c ?_).trans q) (λ_ q=>q) λ_ _ q=>q
  rintro rfl
  rcases t with rfl|t
  .rw[B]at e;cases e
  .rw[B]at t;cases t
 rcases w with D|D
 .refine wpAny_storeName_local D hn (λh' hn' f=>?_) N;obtain⟨oL,_,_,hoL,_⟩:=id hn;refine h _ ⟨I.ok,I.os,I.bare,⟨λb o e n J w=>?_,λb o e n J w=>?_,I.base.free,λb o e w=>?_,I.base.t6,I.base.Bu,I.base.D2⟩,⟨_,hn',λj y v' l C e3=>?_⟩,λy c e=>?_,I.free,I.U1,λp hp=>?_,g ⟨oL,hoL,I.free⟩ f,by simpa using I.len⟩ ⟨_,f,.inl rfl⟩
  .exact(f.2 b (a0g (a0c (S9 e) I.ok.above))).trans (I.base.keep b o e n J w)
  .obtain⟨sl,l⟩:=I.base.slot b o e n J w;exact⟨sl,(f.2 b (a0g (a0c (S9 e) I.ok.above))).trans l⟩
  .obtain⟨Y,l⟩:=I.base.there b o e w;exact⟨Y,(f.2 b (a0g (a0c (S9 e) I.ok.above))).trans l⟩
  .by_cases G:j=i
   .subst G;rw[hi]at l;cases l;rw[a0v F]at C;cases C;exact⟨u,r,.inl ⟨D,by simp⟩⟩
   .rw[a0s (Ne.symm G)]at C;obtain⟨u',r',q⟩:=hl j y v' l C e3;refine⟨u',r',?_⟩;rcases q with⟨k,e⟩|⟨k,c,e,z⟩
    .refine .inl ⟨k,?_⟩;have:y≠x:=λe=>G (oB hN l (e▸hi));simp[this,e]
    .exact .inr ⟨k,c,e,z.sameBut f (cne y c e)⟩
  .obtain⟨T,z⟩:=I.cell y c e;exact⟨T,z.sameBut f (cne y c e)⟩
  .obtain⟨e,n,U,W,d⟩:=I.pin p hp;exact⟨(f.2 p.1 U).trans e,n,U,W,d⟩
 .have K:X.fn x=true:=by
   rcases hf with z|z
   .exact z
   .rw[z]at D;cases D
  obtain⟨c,t⟩:=I.ok.has x (.inl D);obtain⟨T,z⟩:=I.cell x c t;refine wpAny_storeName_cell I.ok.kind D t z (λh' R f=>?_);obtain⟨oc,O,L⟩:=id z;refine h { s with heap:=h' } ⟨I.ok,I.os,I.bare,⟨λb o e n J w=>?_,λb o e n J w=>?_,I.base.free,λb o e w=>?_,I.base.t6,I.base.Bu,I.base.D2⟩,⟨m,hn.sameBut f (Ne.symm (cne x c t)),λj y v' l C e3=>?_⟩,λy S e=>?_,I.free,I.U1,λp hp=>?_,g ⟨oc,O,I.U1 x c t⟩ f,by simpa using I.len⟩ ⟨c,f,.inr t⟩
  .exact(f.2 b (a0g (a0c (S9 e) (I.ok.cab x c K t)))).trans (I.base.keep b o e n J w)
  .obtain⟨sl,l⟩:=I.base.slot b o e n J w;exact⟨sl,(f.2 b (a0g (a0c (S9 e) (I.ok.cab x c K t)))).trans l⟩
  .obtain⟨Y,l⟩:=I.base.there b o e w;exact⟨Y,(f.2 b (a0g (a0c (S9 e) (I.ok.cab x c K t)))).trans l⟩
  .by_cases G:j=i
   .subst G;rw[hi]at l;cases l;rw[a0v F]at C;cases C;exact⟨u,r,.inr ⟨.inl D,c,t,R⟩⟩
   .rw[a0s (Ne.symm G)]at C;obtain⟨u',r',q⟩:=hl j y v' l C e3;refine⟨u',r',?_⟩;rcases q with q|⟨k,S,e,z'⟩
    .exact .inl q
    .refine .inr ⟨k,S,e,z'.sameBut f ?_⟩
     rintro rfl
     exact G (oB hN l (I.ok.inj _ _ _ e t▸hi))
  .by_cases P:S=c
   .subst P;exact⟨_,R⟩
   .obtain⟨w2,z2⟩:=I.cell y S e;exact⟨w2,z2.sameBut f P⟩
  .obtain⟨e,n,U,W,d⟩:=I.pin p hp;refine⟨(f.2 p.1 ?_).trans e,n,U,W,d⟩;intro q;rw[q,O]at e;have q':=a0H e;exact d T (by grind)
def eJ(I:Inv X pins σ H s)(d:X.N.Nodup)(hi:X.N[i]?=some x)(c:Loc X.env.scope x)(r:RelV v u)
  (h:∀a,Inv X pins (σ.set i (some v)) H a->Q () a) (hf:X.fn x=true\/X.env.scope.names.lookup x=some .local:=by first|exact .inl rfl|exact .inr rfl|assumption):wpAny M A (storeName X.env x u) Q E s:=
 gG I d hi c r (λa b _=>h a b) hf
def Inv.IC(I:Inv X pins σ H s)(i:s'.os=s.os)(u:Un (frs X.stack) ch H H' s.heap s'.heap)(d:HOk X.prog X.w H' s'.heap)(j:AllBare s'.gens)
  (a:∀b∈ch,(b∈X.ex\/X.s₀.heap.objs.size<=b)/\b≠X.env.locals/\(∀x c,X.env.cells.lookup x=some c->c≠b)/\∀p∈X.pn++pins,p.1≠b):Inv X pins σ H' s':=by
 obtain⟨h',f,g,h,l⟩:=s';have e:=i;subst e;exact I.call u d j a
end
abbrev XK:=Value->Option Addr->Hp->Prop
abbrev St:=List (Option V)
abbrev VK:=V->Hp->Prop
abbrev TE:=St->Hp->VK->Prop
abbrev TT:=St->Hp->(Bool->Hp->Prop)->Prop
abbrev TA:=St->Hp->(List V->Hp->Prop)->Prop
structure Ends where
 nx:St->Hp->Prop
 rt:VK
 bk:St->Hp->Prop:=λ_ _=>False
 ct:St->Hp->Prop:=λ_ _=>False
abbrev TS:=Ends->St->Hp->Prop
def EP(X:Cx)(pins:Sw)(σ:St)(Q:VK)(u:Value)(b:SE):Prop:=∃v a,Inv X pins σ a b/\RelV v u/\Q v a
def TP(X:Cx)(pins:Sw)(σ:St)(Q:Bool->Hp->Prop)(b:Bool)(c:SE):Prop:=∃a,Inv X pins σ a c/\Q b a
def AP(X:Cx)(pins:Sw)(σ:St)(Q:List V->Hp->Prop)(us:SO)(c:SE):Prop:=∃a b,Inv X pins σ b c/\Vals a us/\Q a b
def SP(X:Cx)(pins:Sw)(D:Ends)(f:Flow)(c:SE):Prop:=
 match f with
 |.next=>∃a b,Inv X pins a b c/\D.nx a b
 |.brk=>∃a b,Inv X pins a b c/\D.bk a b
 |.cont=>∃a b,Inv X pins a b c/\D.ct a b
 |.ret u=>∃v a b,Inv X pins a b c/\RelV v u/\D.rt v b
def PE(X:Cx)(e:SN)(t:TE):Prop:=
 ∀(a:Sw)(s:SE)(b:St)(H:Hp)(Q:VK),Inv X a b H s->t b H Q->wpAny (a32 X) X.A (eval e X.env) (EP X a b Q) X.xe s
def PT(X:Cx)(e:SN)(t:TT):Prop:=
 ∀(a:Sw)(s:SE)(b:St)(H:Hp)(Q:Bool->Hp->Prop),Inv X a b H s->t b H Q->wpAny (a32 X) X.A (isTrue e X.env (eval e X.env)) (TP X a b Q) X.xe s
def PW(X:Cx)(e:SN)(t:TT):Prop:=
 ∀(b:Sem Value)(a:Sw)(s:SE)(c:St)(H:Hp)(Q:Bool->Hp->Prop),Inv X a c H s->t c H Q->wpAny (a32 X) X.A (isTrue e X.env b) (TP X a c Q) X.xe s
def PW.pt(h:PW X e t):PT X e t:=h _
def PA(X:Cx)(es:SG)(t:TA):Prop:=
 ∀(b:Pos)(a:Sw)(s:SE)(c:St)(H:Hp)(Q:List V->Hp->Prop),Inv X a c H s->t c H Q->wpAny (a32 X) X.A (spliced (backTo b (starEach es X.env))) (AP X a c Q) X.xe s
def PS(X:Cx)(st:TB)(t:TS):Prop:=
 ∀(a:Sw)(s:SE)(b:St)(H:Hp)(D:Ends),Inv X a b H s->t D b H->wpAny (a32 X) X.A (exec st X.env) (SP X a D) X.xe s
def PSs(X:Cx)(st:Ts)(t:TS):Prop:=
 ∀(a:Sw)(s:SE)(b:St)(H:Hp)(D:Ends),Inv X a b H s->t D b H->wpAny (a32 X) X.A (execs st X.env) (SP X a D) X.xe s
def thn{c:Type}{t:Sem c}{Q b:c->Shared->Prop}(h:wpAny M A t Q E s)(d:∀a s,Q a s->b a s):wpAny M A t b E s:=a0O h d λ_ _ x=>x
section
variable {X:Cx}
def cE(i:Nat):TE:=λa H Q=>∃v,a[i]?=some (some v)/\Q v H
def tC(v:V):TE:=λ_ H Q=>Q v H
def ID(o:X.N[i]?=some x)(t:Vis X.env.scope x)(j:(x==("__debug__":Str))=false:=by decide)(g:(x==("__classdict__":Str))=false:=by decide):PE X (.Name x pos) (cE i):=by
 intro f s p H Q I h;obtain⟨v,e,h⟩:=h;obtain⟨m,y,w⟩:=I.loc;obtain⟨u,r,l⟩:=w i x v o e t;have b:EP X f p Q u s:=⟨v,H,I,r,h⟩;rcases l with⟨d,q⟩|⟨d,c,n,a⟩
 .exact wpAny_Name (a3p I.ok.kind d y q b) j
 .rcases d with d|d
  .exact wpAny_Name (a3C I.ok.kind d n a b) j
  .exact wpAny_Name (wpAny_loadName_free I.ok.kind d n a b g) j
def IE{i j pos}:PE X (.Constant (.int i) j pos) (tC (.int i)):=λ_ _ _ H _ I h=>wpAny_Constant_int ⟨.int i,H,I.tok _,⟨_,rfl⟩,h⟩
def kN{b j pos}:PE X (.Constant (.bool b) j pos) (tC (.bl b)):=λ_ _ _ H _ I h=>Constant_bool ⟨.bl b,H,I,rfl,h⟩
def oC{j pos}:PE X (.Constant .none j pos) (tC .non):=λ_ _ _ H _ I h=>Constant_none ⟨.non,H,I,rfl,h⟩
def D9{x j pos}:PE X (.Constant (.str x) j pos) (tC (.str x)):=λ_ _ _ H _ I h=>Calls.Constant_str ⟨.str x,H,I.tok _,⟨_,rfl⟩,h⟩
def Gl(X:Cx)(x:Str):Prop:=X.env.kindOf x=some .globalImplicit
def eK(I:Inv X pins σ H s)(c:Gl X x)(a:X.mg x=some u)(h:Q u s)
  (b:(x==("__debug__":Str))=false:=by decide):wpAny (a32 X) X.A (eval (.Name x pos) X.env) Q E s:=
 a2s I.ok.kind c (Calls.loadGlobal_global (by rw[I.ok.glob];exact I.mod.glob.keeps I.bk) a h) b
def aF(I:Inv X pins σ H s)(b:Gl X x)(a:X.mg x=none)(g:bootBuiltins x=some u)(h:Q u s)
  (e:x≠"__name__":=by decide) (c:(x==("__debug__":Str))=false:=by decide):wpAny (a32 X) X.A (eval (.Name x pos) X.env) Q E s:=by
 obtain⟨i,f,d⟩:=I.mod.blt;exact a2s I.ok.kind b (Calls.loadGlobal_builtin (by rw[I.ok.glob];exact I.mod.glob.keeps I.bk) a (by rw[I.ok.blt];exact f.keeps I.bk) ((d x e).trans g) h) c
def zN(b:Gl X x)(a:X.mg x=some u)(r:RelV v u)(c:(x==("__debug__":Str))=false:=by decide):PE X (.Name x pos) (tC v):=
 λ_ _ _ H _ I h=>eK I b a ⟨v,H,I,r,h⟩ c
def aG(b:Gl X x)(a:X.mg x=none)(e:bootBuiltins x=some u)(r:RelV v u)(d:x≠"__name__":=by decide)(c:(x==("__debug__":Str))=false:=by decide):PE X (.Name x pos) (tC v):=
 λ_ _ _ H _ I h=>aF I b a e ⟨v,H,I,r,h⟩ d c
variable {a b:SN}{ta tb:TE}{pos:Pos}
def eL(b:SN)(h:op≠.In)(d:op≠.NotIn):behindInMarks op b=false:=by
 have e:(op==CmpOp.In)=false:=by cases op<;>first|rfl|exact absurd rfl h
 have c:(op==CmpOp.NotIn)=false:=by cases op<;>first|rfl|exact absurd rfl d
 cases b<;>simp[behindInMarks,e,c]
def tB(t:TE):TT:=λe H Q=>t e H λx d=>∃c,x=.bl c/\Q c d
def D_(h:PE X e t)(he:∀c,isTrue e X.env c=(do let v<-c;standAt e.pos;holding [v] (truthy v)):=by intro _;rfl):PT X e (tB t):=by intro f s n H Q I g;refine isTrue_plain (thn (h f s n H _ I g) λv o ⟨x,l,m,j,i⟩=>?_) (he _);obtain⟨d,rfl,q⟩:=i;cases j;exact a2z ⟨l,m,q⟩
variable {tA tB':TT}{rest:SG}
def RJ(t u:TT):TT:=λe H Q=>t e H λc d=>if c=true then u e d Q else Q false d
def tOr(t u:TT):TT:=λe H Q=>t e H λc d=>if c=true then Q true d else u e d Q
def RK(t:TT):TT:=λe H Q=>t e H λc d=>Q (!c) d
def pw_and1(f:PT X a tA):PW X (.BoolOp .And [a] pos) tA:=by
 intro j d s g H Q I h;refine isTrue_and (thn (f d s g H Q I h) λc i e=>?_);cases c with
 |true=>exact isTrue_and_nil e
 |false=>exact e
def pw_or1(f:PT X a tA):PW X (.BoolOp .Or [a] pos) tA:=by
 intro j d s g H Q I h;refine isTrue_or (thn (f d s g H Q I h) λc i e=>?_);cases c with
 |false=>exact isTrue_or_nil e
 |true=>exact e
def pw_and(m:PT X a tA)(l:PW X (.BoolOp .And (b::rest) pos) tB'):PW X (.BoolOp .And (a::b::rest) pos) (RJ tA tB'):=by
 intro n d s i H Q I h;refine isTrue_and (thn (m d s i H _ I h) λc j ⟨f,g,e⟩=>?_);cases c with
 |true=>exact l n d j i f Q g e
 |false=>exact⟨f,g,e⟩
def pw_or(m:PT X a tA)(l:PW X (.BoolOp .Or (b::rest) pos) tB'):PW X (.BoolOp .Or (a::b::rest) pos) (tOr tA tB'):=by
 intro n d s i H Q I h;refine isTrue_or (thn (m d s i H _ I h) λc j ⟨f,g,e⟩=>?_);cases c with
 |true=>exact⟨f,g,e⟩
 |false=>exact l n d j i f Q g e
def IF(e:PT X a tA):PT X (.UnaryOp .Not a pos) (RK tA):=by intro d s g H Q I h;exact isTrue_not (e d s g H (λc f=>Q (!c) f) I h)
def Oq(ta tb:TE):TE:=λe H Q=>ta e H λx d=>∃c,x=.bl c/\if c=true then tb e d Q else Q (.bl false) d
def IG{op}(h:PE X a t):PE X (.BoolOp op [a] pos) t:=λc s e H Q I d=>BoolOp_one (h c s e H Q I d)
def IH(m:PE X a ta)(l:PE X (.BoolOp .And (b::rest) pos) tb):PE X (.BoolOp .And (a::b::rest) pos) (Oq ta tb):=by
 intro d s i H Q I h;refine BoolOp_and (thn (m d s i H _ I h) λv j ⟨x,f,g,n,e⟩=>?_);obtain⟨c,rfl,e⟩:=e;cases n;refine a2z ?_;cases c with
 |true=>exact l d j i f Q g e
 |false=>exact⟨.bl false,f,g,rfl,e⟩
end
def SqL(K:SK)(H:Hp)(a:Addr)(xs:SR):Prop:=
 Rd H a (.lst xs)\/
  ∃(o:Obj)(b:Tu)(n:Nat),K.lookup a=some o/\o.cls=.type "list"/\o.dict=none/\o.data=.seq b n/\b.size<=sizeLine/\Vals xs b.toList
def SqT(K:SK)(H:Hp)(a:Addr)(xs:SR):Prop:=
 Rd H a (.tup xs)\/
  ∃(o:Obj)(b:Tu)(n:Nat),K.lookup a=some o/\o.cls=.type "tuple"/\o.data=.seq b n/\b.size<=sizeLine/\Vals xs b.toList
def RL:Value->Option V
 |.none=>some .non
 |.bool b=>some (.bl b)
 |.int i _=>some (.int i)
 |.str x _=>some (.str x)
 |.bytes b _=>some (.byt b)
 |.float b _=>some (.flt b)
 |.ref a=>some (.ref a)
 |.type n=>some (.ty n)
 |_=>none
def RelV.abs(r:RelV x u):RL u=some x:=by
 cases x with
 |non=>cases r;rfl
 |bl _=>cases r;rfl
 |int _=>obtain⟨t,rfl⟩:=r;rfl
 |str _=>obtain⟨t,rfl⟩:=r;rfl
 |byt _=>obtain⟨t,rfl⟩:=r;rfl
 |flt _=>obtain⟨t,rfl⟩:=r;rfl
 |ref _=>cases r;rfl
 |ty _=>cases r;rfl
def RelV.inj(r:RelV x u)(q:RelV y u):x=y:=a0H (r.abs.symm.trans q.abs)
theorem Vals.inj:∀{b c:SR}{a:SO},Vals b a->Vals c a->b=c
 |_,_,_,.nil,.nil=>rfl
 |_,_,_,.cons r t,.cons d e=>by rw[r.inj d,Vals.inj t e]
def SqL.of{K:SK}(h:H a=some (.lst xs)):SqL K H a xs:=.inl (.inl h)
def SqT.of{K:SK}(h:H a=some (.tup xs)):SqT K H a xs:=.inl (.inl h)
def Inv.list(I:Inv X pins σ H s)(h:SqL X.K H a xs):∃b:List Value,Vals xs b/\PlainL s.heap a b.toArray/\xs.length<=sizeLine:=by
 rcases h with h|⟨o,b,n,g,f,d,c,hz,r⟩
 .obtain⟨z,b,n,r,e⟩:=h.ok I.hok;exact⟨b,r,⟨_,n,e,rfl,rfl,rfl⟩,z⟩
 .refine⟨b.toList,r,⟨o,n,I.kIn a o g,f,d,by simpa using c⟩,?_⟩;have e:=r.length;simp only[Array.length_toList]at e;omega
def Inv.tuple(I:Inv X pins σ H s)(h:SqT X.K H a xs):∃b:List Value,Vals xs b/\IsTup s.heap a b.toArray/\xs.length<=sizeLine:=by
 rcases h with h|⟨o,b,n,f,d,c,hz,r⟩
 .obtain⟨z,b,r,p⟩:=h.ok I.hok;exact⟨b,r,p,z⟩
 .refine⟨b.toList,r,⟨o,I.kIn a o f,d,n,by simpa using c⟩,?_⟩;have e:=r.length;simp only[Array.length_toList]at e;omega
def Inv.BY(I:Inv X pins σ H s)(h:SqL X.K H a xs)(h':SqL X.K H a ys):xs=ys:=by
 obtain⟨c,r,⟨o,n,e,_,_,d⟩,_⟩:=I.list h;obtain⟨b,i,⟨l,j,g,_,_,f⟩,_⟩:=I.list h';rw[e]at g;cases g;rw[d]at f;injection f with d1 _
 have:c=b:=by simpa using a0D Array.toList d1
 subst this;exact r.inj i
def Inv.gH(I:Inv X pins σ H s)(h:SqT X.K H a xs)(h':SqT X.K H a ys):xs=ys:=by
 obtain⟨c,r,⟨o,e,_,n,d⟩,_⟩:=I.tuple h;obtain⟨b,i,⟨l,g,_,j,f⟩,_⟩:=I.tuple h';rw[e]at g;cases g;rw[d]at f;injection f with d1 _
 have:c=b:=by simpa using a0D Array.toList d1
 subst this;exact r.inj i
abbrev Cx.cF(X:Cx)(E:Sz):Cx:={ X with xe:=E }
abbrev Cx.nox(X:Cx):Cx:=X.cF λ_ _=>False
def Cx.Ok.cF{X:Cx}(ok:X.Ok)(E:Sz):(X.cF E).Ok:=
 ⟨ok.mod,ok.kind,ok.glob,ok.blt,ok.above,ok.inj,ok.has,ok.cab,ok.hd,ok.frames,ok.stk,ok.exf,ok.bs,ok.bsz,ok.NL,ok.NM,ok.oA,ok.frf⟩
def Cx.Ok.vM{X:Cx}{E:Sz}(ok:(X.cF E).Ok):X.Ok:=
 ⟨ok.mod,ok.kind,ok.glob,ok.blt,ok.above,ok.inj,ok.has,ok.cab,ok.hd,ok.frames,ok.stk,ok.exf,ok.bs,ok.bsz,ok.NL,ok.NM,ok.oA,ok.frf⟩
def Inv.cF(I:Inv X pins σ H s)(E:Sz):Inv (X.cF E) pins σ H s:=⟨I.ok.cF E,I.os,I.bare,I.base,I.loc,I.cell,I.free,I.U1,I.pin,I.hok,I.len⟩
def Inv.vM(I:Inv (X.cF E) pins σ H s):Inv X pins σ H s:=⟨I.ok.vM,I.os,I.bare,I.base,I.loc,I.cell,I.free,I.U1,I.pin,I.hok,I.len⟩
def SP.vM(h:SP (X.cF E) pins D f s'):SP X pins D f s':=by
 cases f with
 |next=>obtain⟨a,b,I,q⟩:=h;exact⟨a,b,I.vM,q⟩
 |brk=>obtain⟨a,b,I,q⟩:=h;exact⟨a,b,I.vM,q⟩
 |cont=>obtain⟨a,b,I,q⟩:=h;exact⟨a,b,I.vM,q⟩
 |ret u=>obtain⟨v,a,b,I,r,q⟩:=h;exact⟨v,a,b,I.vM,r,q⟩
section
variable {X:Cx}{st:TB}{rest:Ts}{t u:TS}{e:SN}{te:TE}{pos:Pos}
def Ot:TS:=λD a H=>D.nx a H
def Ou(t u:TS):TS:=λD a H=>t { D with nx:=u D } a H
def ub:PSs X [] Ot:=λ_ _ a H _ I h=>a2a ⟨a,H,I,h⟩
def VH(j:PS X st t)(i:PSs X rest u):PSs X (st::rest) (Ou t u):=by
 intro a s l H D I h;refine wpAny_execs_cons (thn (j a s l H { D with nx:=u D } I h) λf d q=>?_);cases f with
 |next=>obtain⟨b,c,g,q⟩:=q;exact i a d b c D g q
 |ret v=>exact q
 |brk=>exact q
 |cont=>exact q
def j7(b:PS X st t):PSs X [st] t:=by
 intro a s c H D I h;refine wpAny_execs_cons (thn (b a s c H D I h) λf d q=>?_);cases f with
 |next=>exact a2a q
 |ret v=>exact q
 |brk=>exact q
 |cont=>exact q
def Inv.quiet(I:Inv X pins σ H s):interactive X.env=false:=by simp[interactive,I.ok.kind]
def Ov(te:TE):TS:=λD a H=>te a H λ_ b=>D.nx a b
def aH(he:PE X e te)(c:swapsWith e none pos.line X.env=pure false:=by rfl):PS X (.Expr e pos) (Ov te):=by intro a s b H D I h;exact wpAny_Expr_any (thn (he a s b H _ I h) λv i ⟨x,f,g,j,d⟩=>⟨b,f,g,d⟩) I.quiet c
def RM(te:TE):TS:=λD a H=>te a H D.rt
def oE(he:PE X e te):PS X (.Return (some e) pos) (RM te):=by intro a s b H D I h;exact wpAny_Return_some (thn (he a s b H _ I h) λv i ⟨x,d,g,f,c⟩=>⟨x,b,d,g,f,c⟩)
def RN(c:TT)(t u:TS):TS:=λD a H=>c a H λb d=>if b=true then t D a d else u D a d
def II(o:PT X c tc)(p:PSs X a t)(n:PSs X b u):PS X (.If c a b pos) (RN tc t u):=by
 intro f s g H D I h;refine wpAny_If (thn (o f s g H _ I h) λd i ⟨l,m,j⟩=>?_);cases d with
 |true=>exact p f i g l D m j
 |false=>exact n f i g l D m j
end
abbrev TG:=V->St->Hp->(St->Hp->Prop)->Prop
abbrev TGs:=List V->St->Hp->(St->Hp->Prop)->Prop
def PG(X:Cx)(a:SN)(t:TG):Prop:=
 ∀(b:Sw)(s:SE)(e:St)(H:Hp)(v:V)(u:Value)(Q:St->Hp->Prop),Inv X b e H s->RelV v u->t v e H Q->
  wpAny (a32 X) X.A (assign a X.env u) (λ_ f=>∃c d,Inv X b c d f/\Q c d) X.xe s
def PGs(X:Cx)(g:SG)(t:TGs):Prop:=
 ∀(a:Sw)(s:SE)(f:St)(H:Hp)(e:SR)(d:SO)(Q:St->Hp->Prop),Inv X a f H s->Vals e d->t e f H Q->
  wpAny (a32 X) X.A (assignInOrder ((assignEach g X.env).map (·.2)) d) (λ_ h=>∃b c,Inv X a b c h/\Q b c) X.xe s
abbrev TIp:=V->V->Hp->VK->Prop
def PIp(X:Cx)(c:Operator)(t:TIp):Prop:=
 ∀(a:Sw)(s:SE)(b:St)(H:Hp)(x y:V)(v u:Value)(Q:VK),Inv X a b H s->RelV x v->RelV y u->t x y H Q->
  wpAny (a32 X) X.A (inplaceOp c v u) (EP X a b Q) X.xe s
section
variable {X:Cx}{pos:Pos}
def eM(i:Nat):TG:=λv a H Q=>Q (a.set i (some v)) H
def uc(d:X.N.Nodup)(hi:X.N[i]?=some x)(c:Loc X.env.scope x)(hf:X.fn x=true\/X.env.scope.names.lookup x=some .local:=by first|exact .inl rfl|exact .inr rfl|assumption):PG X (.Name x pos) (eM i):=by intro a s f H v u Q I r h;exact wpAny_assign_Name (eJ I d hi c r (λe b=>⟨_,H,b,h⟩) hf)
def RO:TGs:=λa b H Q=>a=[]/\Q b H
def Ow(t:TG)(u:TGs):TGs:=λc d H Q=>∃v r,c=v::r/\t v d H λa b=>u r a b Q
def FF:PGs X [] RO:=by intro a s b H d c Q I r h;obtain⟨e,h⟩:=h;subst e;cases r;exact assignInOrder_nil ⟨b,H,I,h⟩
def BZ(j:PG X e t)(f:PGs X es u)
  (l:(assignEach (e::es) X.env).map (·.2)=assign e X.env::(assignEach es X.env).map (·.2):=by rfl):PGs X (e::es) (Ow t u):=by
 intro a s d H q p Q I r h;obtain⟨v,w,o,h⟩:=h;subst o;cases r with
 |cons r c=>rw[l];exact assignInOrder_cons (thn (j a s d H _ _ _ I r h) λ_ g ⟨b,m,n,i⟩=>(f a g b m _ _ Q n c i))
def RP(K:SK)(n:Nat)(t:TGs):TG:=λv c H Q=>∃a b,v=.ref a/\SqT K H a b/\b.length=n/\t b c H Q
def IJ(m:X.calm=true)(h:PGs X es t)
  (z:(assignEach es X.env).length=n:=by rfl) (f:(assignEach es X.env).findIdx? (·.1)=none:=by rfl):PG X (.Tuple es k pos) (RP X.K n t):=by
 intro c s g H v u Q I r d;obtain⟨a,l,B,p,y,d⟩:=d;subst B;cases r;obtain⟨q,i,x,hz⟩:=I.tuple p;refine assign_Tuple_tuple (I.ok.hd m) x (by simp[z,<- y,i.length]) f λw j=>?_;have A:=I.kept (t':=s.toks) λb o e=>j b o (a0g (S9 e)) e;exact h c _ g H l _ Q A (by simpa using i) d
def FG(b:TE)(g:TG):TS:=λD a H=>b a H λx c=>g x a c D.nx
def oF(f:X.N.Nodup)(hi:X.N[i]?=some x)(c:Loc X.env.scope x)(he:PE X e te)(m:swapsWith e (some (.Name x pos')) pos.line X.env=pure false:=by rfl)(hf:X.fn x=true\/X.env.scope.names.lookup x=some .local:=by first|exact .inl rfl|exact .inr rfl|assumption):
  PS X (.Assign [.Name x pos'] e pos) (FG te (eM i)):=by
 intro a s g H D I h;exact wpAny_Assign_Name (thn (he a s g H _ I h) λv o ⟨y,n,b,d,j⟩=>(eJ b f hi c d (λp l=>⟨_,n,l,j⟩) hf)) m
def RQ(i:Nat)(b:TE)(d:TIp):TS:=λD a H=>∃x,a[i]?=some (some x)/\b a H λy e=>d x y e λz c=>D.nx (a.set i (some z)) c
def IK(A:X.N.Nodup)(hi:X.N[i]?=some x)(j:Loc X.env.scope x)(he:PE X e te)(G:PIp X op ti)(hf:X.fn x=true\/X.env.scope.names.lookup x=some .local:=by first|exact .inl rfl|exact .inr rfl|assumption):
  PS X (.AugAssign (.Name x pos') op e pos) (RQ i te ti):=by
 intro a s o H D I h;obtain⟨v,R,h⟩:=h;obtain⟨m,O,P⟩:=I.loc;have n:Vis X.env.scope x:=by rcases j with k|k;exact .inl k;exact .inr (.inl k)
 obtain⟨u,r,l⟩:=P i x v hi R n;refine wpAny_AugAssign_Name ?_;have p:wpAny (a32 X) X.A (eval e X.env) (λw g=>wpAny (a32 X) X.A (inplaceOp op u w) (λr f=>wpAny (a32 X) X.A (storeName X.env x r) (λ_=>SP X a D .next) X.xe f) X.xe g) X.xe s:=by refine thn (he a s o H _ I h) λw J ⟨y,N,Q,t,K⟩=>?_;exact thn (G a J o N v y u w _ Q r t K) λz T ⟨U,C,M,L,q⟩=>(eJ M A hi j L (λS F=>⟨_,C,F,q⟩) hf)
 rcases l with⟨b,B⟩|⟨b,c,E,d⟩
 .exact a3p I.ok.kind b O B p
 .rcases b with b|b
  .exact a3C I.ok.kind b E d p
  .rcases j with k|k
   .have:X.env.scope.names.lookup x=some .free:=b;rw[k]at this;cases this
   .have:X.env.scope.names.lookup x=some .free:=b;rw[k]at this;cases this
def ipI(f:TY):TIp:=λx y H Q=>∃i j,x=.int i/\y=.int j/\Q (.int (f i j)) H
def IL:PIp X .Add (ipI λi j=>i+j):=by intro a s f H x y v u Q I b d h;obtain⟨i,j,e,c,q⟩:=h;subst e;subst c;obtain⟨t,rfl⟩:=b;obtain⟨g,rfl⟩:=d;exact iadd_int ⟨.int _,H,I.tok _,⟨_,rfl⟩,q⟩
def Ea(c:TT)(h:TS):TS:=λD a H=>∃W:Nat->St->Hp->Prop,(∃m,W m a H)/\∀m a H,W m a H->
 c a H λb g=>if b=true then ∃N:St->Hp->Prop,(∀d f,N d f->∃e,e<m/\W e d f)/\h { D with nx:=N,ct:=N,bk:=D.nx } a g else D.nx a g
def oG(hp:PassesOwn (a32 X) X.A X.env X.xe)(C:PT X c tc)(J:PSs X body tb):PS X (.While c body [] pos) (Ea tc tb):=by
 intro d s B H D I h;obtain⟨W,⟨F,L⟩,j⟩:=h;refine wpAny_While (codeAny_whileLoop (λn A=>∃g w,Inv X d g w A/\W n g w) ?_ F ⟨B,H,I,L⟩)
 rintro n G ⟨e,z,M,E⟩
 refine a1m hp (thn (C d G e z _ M (j n e z E)) λb K ⟨x,y,m⟩=>?_);cases b with
 |true=>
  obtain⟨N,u,m⟩:=m;refine a1m hp (thn (J d K e x _ y m) λf O l=>?_);cases f with
  |next=>obtain⟨a,i,q,p⟩:=l;obtain⟨r,o,t⟩:=u a i p;exact⟨r,o,a,i,q,t⟩
  |cont=>obtain⟨a,i,q,p⟩:=l;obtain⟨r,o,t⟩:=u a i p;exact⟨r,o,a,i,q,t⟩
  |brk=>exact l
  |ret v=>exact l
 |false=>exact a2a ⟨e,x,y,m⟩
end
structure It where
 go:Nat->Hp->Prop
 yld:Nat->Hp->V->Hp->Prop
 stop:Nat->Hp->Prop
def BL(X:Cx)(pins:Sw)(H:Hp)(b:Addr):Prop:=
 H b=none/\b≠X.env.locals/\b∉X.fs/\(b∈X.ex\/X.s₀.heap.objs.size<=b)/\(∀x c,X.env.cells.lookup x=some c->c≠b)/\∀p∈X.pn++pins,p.1≠b
def Inv.Ij(I:Inv X pins σ H s)(a:s.heap.objs.size<=b)(d:H' b=none):BL X pins H' b:=by
 refine⟨d,a1g (a0c I.lt a),I.RI a,.inr (T9 I.sz a),λx c e z=>?_,λp hp z=>?_⟩
 .obtain⟨v,q⟩:=I.cell x c e;exact absurd (a0c q.lt (by grind)) (a0V _)
 .exact absurd (a0c (S9 (I.pin p hp).1) (by grind)) (a0V _)
structure Turn(P:SV)(w:S_)(K:SK)(tg:SN)(J:It)(fp:To)(it:Addr)(tn:Nat->Heap->Prop):Prop where
 mem:it∈fp
 obj:∀i h,tn i h->∀b∈fp,∃o,h.get? b=some o/\∀v,o.data≠.cell v
 keep:∀i h h',tn i h->(∀b∈fp,∀o,h.get? b=some o->h'.get? b=some o)->tn i h'
 item:∀(X:Cx),X.prog=P->X.w=w->X.K=K->X.calm=true->∀(i:Nat)(pins:Sw)(s:SE)(σ:St)(H:Hp)(E:Sz),Inv X pins σ H s->(∀b∈fp,BL X pins H b)->tn i s.heap->J.go i H->
  wpAny (model P w) X.A (pyNext (.ref it)) (λr s1=>∃u,r=some u/\
   wpAny (model P w) X.A (letOwnedTupleGo tg (.ref it) u) (λ_ s2=>∃x H',Inv X pins σ H' s2/\RelV x u/\J.yld i H x H'/\tn (i+1) s2.heap/\∀b∈fp,H' b=none) E s1) E s
 done:∀(X:Cx),X.prog=P->X.w=w->X.K=K->X.calm=true->∀(i:Nat)(pins:Sw)(s:SE)(σ:St)(H:Hp)(E:Sz),Inv X pins σ H s->(∀b∈fp,BL X pins H b)->tn i s.heap->J.stop i H->
  wpAny (model P w) X.A (pyNext (.ref it)) (λr s1=>r=none/\Inv X pins σ H s1) E s
 self:∀(A:Tf)(i:Nat)(s:SE)(Q:Sz)(E:Sz),tn i s.heap->Q (.ref it) s->wpAny (model P w) A (pyIter (.ref it)) Q E s
abbrev TI:=St->Hp->(It->Hp->Prop)->Prop
def PIE(X:Cx)(pins:Sw)(σ:St)(h:SN)(R:It->Hp->Prop)(c:Value)(g:SE):Prop:=
 ∃(e:Addr)(f:To)(d:Nat->Heap->Prop)(J:It)(a:Hp),c=.ref e/\Inv X pins σ a g/\Turn X.prog X.w X.K h J f e d/\d 0 g.heap/\(∀b∈f,BL X pins a b)/\R J a
def PI(X:Cx)(d e:SN)(f:TI):Prop:=
 ∀(a:Sw)(s:SE)(b:St)(H:Hp)(R:It->Hp->Prop),Inv X a b H s->f b H R->
  wpAny (a32 X) X.A (eval e X.env) (λv c=>wpAny (a32 X) X.A (pyIter v) (PIE X a b d R) X.xe c) X.xe s
def B0(b:s.heap.get? it=some o)(d:o.cls=.type n)(c:o.data=.fields vs)
    (e:["enumerate","zip","dict_itemiterator","dict_reverseitemiterator","odict_iterator","itertools.zip_longest","itertools.pairwise"].contains n=false) (a:Q () s):wpAny M A (letOwnedTupleGo tg (.ref it) u) Q E s:=by
  cases tg<;>first
    |exact S8 a
    | (cases u<;>first
        |exact S8 a
        | (refine t0 (a3q b ?_)
           rw[d,c];show wpAny M A (if(["enumerate","zip","dict_itemiterator","dict_reverseitemiterator","odict_iterator","itertools.zip_longest","itertools.pairwise"].contains n&&vs[0]?==some (rawInt _))=true then _ else _) Q E s;rw[if_neg (by grind)];exact S8 a))
def Itl(K:SK)(a:Addr):It:=
 ⟨λi H=>∃b x,SqL K H a b/\b[i]?=some x,λi H x c=>c=H/\∀b,SqL K H a b->b[i]?=some x,λi H=>∃b,SqL K H a b/\b.length<=i⟩
def Itt(K:SK)(a:Addr):It:=
 ⟨λi H=>∃b x,SqT K H a b/\b[i]?=some x,λi H x c=>c=H/\∀b,SqT K H a b->b[i]?=some x,λi H=>∃b,SqT K H a b/\b.length<=i⟩
def Itr(lo:Int)(n:Nat):It:=⟨λi _=>i<n,λi H x a=>a=H/\x=.int (lo+i),λi _=>n<=i⟩
def ud{P:SV}{w:S_}{K:SK}{O:SN}(a j:Addr):Turn P w K O (Itl K a) [j] j (λi h=>h.IsListIter j a i)where
 mem:=by simp
 obj:=λi h f b l=>by
  have e:b=j:=by simpa using l
  subst e;obtain⟨o,e,c,d⟩:=f;exact⟨o,e,λv z=>by rw[d]at z;cases z⟩
 keep:=λi h q f k=>f.at λo e=>k j (by simp) o e
 item:=by intro X hP y r N i g s M H E I hf f C;subst hP y r;obtain⟨Q,x,n,A⟩:=C;obtain⟨D,J,p,hz⟩:=I.list n;obtain⟨u,S,T⟩:=J.get A;obtain⟨F,L,U,t,G,B⟩:=hf j (by simp);refine wpAny_pyNext_list_item f p.isList (x:=u) (by simpa using S) λq m W=>?_;have Z:=I.turned (t':=s.toks) (λb o l e=>(W.2 b l).trans e) F L t G B;obtain⟨o,e,c,d⟩:=id m;exact⟨u,rfl,B0 e c d (by decide) ⟨x,H,Z,T,⟨rfl,λys R=>by rw[I.BY R n];exact A⟩,m,λb l=>(hf b l).1⟩⟩
 done:=by intro X hP y r N i g s M H E I hf f C;subst hP y r;obtain⟨Q,n,A⟩:=C;obtain⟨D,J,p,hz⟩:=I.list n;obtain⟨F,L,U,t,G,B⟩:=hf j (by simp);have hl:=J.length;exact wpAny_pyNext_list_end (I.ok.hd N) f p.isList (by simp;omega) λq Y=>⟨rfl,I.turned (t':=s.toks) (λb o l e=>Y b o l e) F L t G B⟩
 self:=λ_ _ _ _ _ f h=>wpAny_pyIter_listiter f h
def rR{P:SV}{w:S_}{K:SK}{O:SN}(a l:Addr):Turn P w K O (Itt K a) [l] l (λi h=>h.IsTupleIter l a i)where
 mem:=by simp
 obj:=λi h f b m=>by
  have e:b=l:=by simpa using m
  subst e;obtain⟨o,e,c,d⟩:=f;exact⟨o,e,λv z=>by rw[d]at z;cases z⟩
 keep:=λi h r f k=>f.at λo e=>k l (by simp) o e
 item:=by intro X hP A t N i g s M H E I hf f D;subst hP A t;obtain⟨Q,x,q,B⟩:=D;obtain⟨j,J,p,hz⟩:=I.tuple q;obtain⟨u,S,T⟩:=J.get B;obtain⟨F,L,U,y,G,C⟩:=hf l (by simp);refine wpAny_pyNext_tuple_item f p (x:=u) (by simpa using S) λr n W=>?_;have Z:=I.turned (t':=s.toks) (λb o m e=>(W.2 b m).trans e) F L y G C;obtain⟨o,e,c,d⟩:=id n;exact⟨u,rfl,B0 e c d (by decide) ⟨x,H,Z,T,⟨rfl,λys R=>by rw[I.gH R q];exact B⟩,n,λb m=>(hf b m).1⟩⟩
 done:=by intro X hP A t N i g s M H E I hf f D;subst hP A t;obtain⟨Q,q,B⟩:=D;obtain⟨j,J,p,hz⟩:=I.tuple q;obtain⟨F,L,U,y,G,C⟩:=hf l (by simp);have hl:=J.length;exact wpAny_pyNext_tuple_end (I.ok.hd N) f p (by simp;omega) λr Y=>⟨rfl,I.turned (t':=s.toks) (λb o m e=>Y b o m e) F L y G C⟩
 self:=λ_ _ _ _ _ f h=>wpAny_pyIter_tupleiter f h
def rS{P:SV}{w:S_}{K:SK}{D:SN}(c:Addr)(lo:Int)(n:Nat):Turn P w K D (Itr lo n) [c] c (λi h=>IsRangeIter h c (lo+(i:Nat)*1) ((n:Int)-(i:Nat)) 1)where
 mem:=by simp
 obj:=λi h a b f=>by
  have e:b=c:=by simpa using f
  subst e;exact⟨_,a,λv z=>by
   have F:=z;cases F⟩
 keep:=λi h j a k=>k c (by simp) _ a
 item:=by intro X hP p l u i d s C H E I hf a r;subst hP p l;obtain⟨x,A,G,m,y,q⟩:=hf c (by simp);have W:=Walks.range (prog:=X.prog) (w:=X.w) (I.ok.hd u) c lo 1 n;refine W.item i s _ _ r a λv j B J g kk=>?_;obtain⟨t,rfl⟩:=J;have M:Inv X d C H { s with heap:=j,toks:=B }:=I.turned (λb o f e=>kk b o (by grind) e) x A m y q;refine⟨_,rfl,B0 g rfl rfl (by decide) ⟨.int (lo+i),H,M,⟨t,?_⟩,⟨rfl,rfl⟩,g,λb f=>(hf b f).1⟩⟩;rw[Int.mul_one]
 done:=by intro X hP p l u i d s C H E I hf a r;obtain⟨x,A,G,m,y,q⟩:=hf c (by simp);exact wpAny_pyNext_range_end (I.ok.hd u) a (by have:n<=i:=r;omega) λj L=>⟨rfl,I.turned (λb o f e=>L b o f e) x A m y q⟩
 self:=λ_ _ _ _ _ a h=>wpAny_pyIter_rangeiter a h
section
variable {X:Cx}{tg:SN}
def B3{pins:Sw}{σ:St}{H:Hp}{s:SE}{R:It->Hp->Prop}{E:Sz}{lo hi:Int}{t u v:Tok}{tk:Nat}(I:Inv X pins σ H s)(j:-(2 ^ 62)<=lo)(g:lo<2 ^ 62)(h:-(2 ^ 62)<=hi)(d:hi<2 ^ 62)
  (q:R (Itr lo (hi-lo).toNat) H):wpAny (a32 X) X.A (pyIter (.ref s.heap.objs.size)) (PIE X pins σ tg R) E { s with heap:=s.heap.push { cls:=.type "range",data:=.fields #[.int lo t,.int hi u,.int 1 v] },toks:=tk }:=by
 refine wpAny_pyIter_range (IsRange.new ..) (small_one j g h d) ?_;have a:Inv X pins σ H { s with heap:=s.heap.push { cls:=.type "range",data:=.fields #[.int lo t,.int hi u,.int 1 v] },toks:=tk }:=I.kept λb o e=>S6 _ e;refine⟨(s.heap.push { cls:=.type "range",data:=.fields #[.int lo t,.int hi u,.int 1 v] }).objs.size,[(s.heap.push { cls:=.type "range",data:=.fields #[.int lo t,.int hi u,.int 1 v] }).objs.size],_,_,H,rfl,
  a.kept λb o e=>S6 _ e,rS _ lo (hi-lo).toNat,?_,λb f=>?_,q⟩
 .have i:lo+((0:Nat):Int)*1=lo:=by simp
  have c:(((hi-lo).toNat:Nat):Int)-((0:Nat):Int)=Builtin.Range.rangeSize lo hi 1:=by rw[rangeSize_one];split<;>omega
  rw[i,c];exact a0k _ rfl
 .have e:b=(s.heap.push { cls:=.type "range",data:=.fields #[.int lo t,.int hi u,.int 1 v] }).objs.size:=by simpa using f
  subst e;exact a.Ij (S5 _) (a.hok.fresh (S5 _))
def Ox(a:TA):TI:=λd H R=>a d H λb c=>∃j:Int,b=[.int j]/\-(2 ^ 62)<=j/\j<2 ^ 62/\R (Itr 0 j.toNat) c
def ue(m:Gl X "range")(l:X.mg "range"=none)(o:PA X [a] ta)(n:starEach [a] X.env=[(false,eval a X.env)]:=by rfl):PI X tg (.Call (.Name "range" p) [a] [] pos) (Ox ta):=by
 intro b s i H R I h;refine Call_ (aF I m l boot_range (a1k (thn (o pos b s i H _ I h) λv x ⟨w,y,u,g,c⟩=>?_) n rfl));obtain⟨j,e,c,d,q⟩:=c;subst e;cases g with
 |cons r f=>cases f;obtain⟨t,rfl⟩:=r;exact call_range_1 (B3 u (by omega) (by omega) c d (by grind))
def Ik(h:TI)(g:TG)(j:TS):TS:=λD a H=>h a H λJ l=>∃W:Nat->Nat->St->Hp->Prop,(∃m,W 0 m a l)/\∀i m a H,W i m a H->
 (J.stop i H/\D.nx a H)\/(J.go i H/\∃N:St->Hp->Prop,(∀c b,N c b->∃e,e<m/\W (i+1) e c b)/\∀x b,J.yld i H x b->g x a b λd f=>j { D with nx:=N,ct:=N,bk:=D.nx } d f)
def gI(a:To)(h:Heap):List (Addr×Obj):=a.filterMap λb=>(h.get? b).map λo=>(b,o)
def JG(a:b∈fp)(e:h.get? b=some o):(b,o)∈gI fp h:=a1e.mpr ⟨b,a,by rw[e];rfl⟩
def uf(hp:p∈gI fp h):p.1∈fp/\h.get? p.1=some p.2:=by
 obtain⟨b,a,e⟩:=a1e.mp hp;cases q:h.get? b with
 |none=>rw[q]at e;cases e
 |some o=>rw[q]at e;have c:=a0H e;subst c;exact⟨a,q⟩
def Inv.pinned(I:Inv X pins σ H s)(hf:∀b∈fp,BL X pins H b)(f:∀b∈fp,∃o,s.heap.get? b=some o/\∀v,o.data≠.cell v):Inv X (pins++gI fp s.heap) σ H s:=
 I.eI λp hp=>(a0j.mp hp).elim (λz=>I.pin p (T4 _ z)) λz=>by obtain⟨a,e⟩:=uf z;obtain⟨g,h,i,_⟩:=hf p.1 a;obtain⟨o,c,d⟩:=f p.1 a;rw[e]at c;cases c;exact⟨e,g,h,i,d⟩
def Inv.wM(I:Inv X (pins++pl) σ H s):Inv X pins σ H s:=I.eI λp hp=>I.pin p (T4 _ (T8 _ hp))
def oH(hp:PassesOwn (a32 X) X.A X.env X.xe)(hc:X.calm=true)(hi:PI X tg jc wi)(hg:PG X tg g)(y:PSs X body tb)
  (hs:∀x,foldedSetIterable jc X.env x=pure x:=by intro _;rfl):PS X (.For tg jc body [] pos) (Ik wi g tb):=by
 intro a s σ H D I h;refine wpAny_For (thn (hi a s σ H _ I h) λv s1 h1=>thn h1 λitv s2 h2=>?_) hs;obtain⟨it,E,Y,J,H2,e,I2,T,Q,f2,W,⟨m0,w0⟩,G⟩:=h2;subst e
 -- what stays true of the iterator's objects through the loop
 have j:∀{z:Hp},(∀b∈E,z b=none)->∀b∈E,BL X a z b:=λhn b y=>⟨hn b y,(f2 b y).2⟩;refine codeAny_forLoop_any (λn s'=>∃i q z,Inv X a q z s'/\Y i s'.heap/\(∀b∈E,z b=none)/\W i n q z) ?_ m0 ⟨0,σ,H2,I2,Q,λb y=>(f2 b y).1,w0⟩
 rintro n Z ⟨i,w,M,I3,C,L,w3⟩
 rcases G i n w M w3 with⟨K,qn⟩|⟨go,N,hN,step⟩
 .refine a1m hp (thn (T.done X rfl rfl rfl hc i a Z w M X.xe I3 (j L) C K) λr s4 ⟨S,I4⟩=>?_);subst S;exact a2a ⟨w,M,I4,qn⟩
 .refine a1m hp (thn (T.item X rfl rfl rfl hc i a Z w M X.xe I3 (j L) C go) λr s4 ⟨u,S,h4⟩=>?_);subst S;refine a1m hp (thn h4 λ_ s5 ⟨x,H5,I5,r5,y5,B,P⟩=>?_);have U:=I5.pinned (j P) (T.obj _ _ B);refine a1m hp (thn (hg _ s5 w H5 x u _ U r5 (step x H5 y5)) λ_ s6 ⟨R,H6,I6,q6⟩=>?_);refine a1m hp (thn (y _ s6 R H6 _ I6 q6) λf O A=>?_);have t:∀{c:St}{p:Hp},Inv X (a++gI E s5.heap) c p O->N c p->∃m,m<n/\∃i q z,Inv X a q z O/\Y i O.heap/\(∀b∈E,z b=none)/\W i m q z:=λ{c p} l F=>by obtain⟨m',hm,w7⟩:=hN c p F;refine⟨m',hm,i+1,c,p,l.wM,T.keep _ _ _ B λb y o e=>(l.pin (b,o) (T4 _ (T4 _ (JG y e)))).1,λb y=>?_,w7⟩;obtain⟨o,e,d⟩:=T.obj _ _ B b y;exact(l.pin (b,o) (T4 _ (T4 _ (JG y e)))).2.1
  cases f with
  |next=>obtain⟨c,p,l,F⟩:=A;exact t l F
  |cont=>obtain⟨c,p,l,F⟩:=A;exact t l F
  |brk=>obtain⟨c,p,l,A⟩:=A;exact⟨c,p,l.wM,A⟩
  |ret v=>obtain⟨x7,c,p,l,r7,A⟩:=A;exact⟨x7,c,p,l.wM,r7,A⟩
end
abbrev R2:=V->V->Hp->VK->Prop
def OpR(X:Cx)(f:Value->Value->Sem Value)(r:R2):Prop:=
 ∀(a:Sw)(s:SE)(b:St)(H:Hp)(x y:V)(v u:Value)(Q:VK),Inv X a b H s->RelV x v->RelV y u->r x y H Q->
  wpAny (a32 X) X.A (f v u) (EP X a b Q) X.xe s
def UnR(X:Cx)(f:Value->Sem Value)(r:V->Hp->VK->Prop):Prop:=
 ∀(a:Sw)(s:SE)(b:St)(H:Hp)(x:V)(v:Value)(Q:VK),Inv X a b H s->RelV x v->r x H Q->
  wpAny (a32 X) X.A (f v) (EP X a b Q) X.xe s
def Qb(X:Cx)(f:Value)(r:List V->Hp->VK->Prop):Prop:=
 ∀(a:Sw)(s:SE)(d:St)(H:Hp)(c:SR)(b:SO)(Q:VK),Inv X a d H s->Vals c b->r c H Q->
  wpAny (a32 X) X.A (call f b) (EP X a d Q) X.xe s
def tOp(r:R2)(b d:TE):TE:=λa H Q=>b a H λx e=>d a e λy c=>r x y c Q
def tUn(r:V->Hp->VK->Prop)(a:TE):TE:=λc H Q=>a c H λx b=>r x b Q
def rI(C:Int->Int->Prop)(g:Int->Int->V):R2:=λx y H Q=>∃i j,x=.int i/\y=.int j/\C i j/\Q (g i j) H
def rI0(g:Int->Int->V):R2:=λx y H Q=>∃i j,x=.int i/\y=.int j/\Q (g i j) H
def rU(g:Int->V):V->Hp->VK->Prop:=λx H Q=>∃i,x=.int i/\Q (g i) H
section
variable {X:Cx}{a b:SN}{ta tb:TE}{pos:Pos}
def Oy(t:PE X a ta)(o:PE X b tb){pins:Sw}{s:SE}{σ:St}{H:Hp}{R:V->V->Hp->Prop}(I:Inv X pins σ H s)
  (h:ta σ H λx j=>tb σ j λy d=>R x y d) {Q:Sz}{f:Value->Value->Sem Value}
  (hf:∀v u i x y d,Inv X pins σ d i->RelV x v->RelV y u->R x y d->wpAny (a32 X) X.A (f v u) Q X.xe i):
  wpAny (a32 X) X.A (eval a X.env) (λv g=>wpAny (a32 X) X.A (eval b X.env) (λu e=>wpAny (a32 X) X.A (f v u) Q X.xe e) X.xe g) X.xe s:=by
 refine thn (t pins s σ H _ I h) λv n ⟨x,j,w,m,p⟩=>?_;exact thn (o pins n σ j _ w p) λu i ⟨y,d,r,q,l⟩=>(hf v u i x y d r m q l)
def Oz(g:OpR X (binaryOp op) r)(n:PE X a ta)(i:PE X b tb):PE X (.BinOp a op b pos) (tOp r ta tb):=by intro d s e H Q I h;exact wpAny_BinOp (Oy n i I h λv u o x y f j m l q=>g d o e f x y v u Q j m l q)
def OA(f:UnR X (unaryOp op) r)(j:PE X a ta):PE X (.UnaryOp op a pos) (tUn r ta):=by intro d s e H Q I h;exact UnaryOp_ (thn (j d s e H _ I h) λv g ⟨x,l,n,m,i⟩=>f d g e l x v Q n m i)
def opI{f:Value->Value->Sem Value}{C:Int->Int->Prop}{g:TY}
  (d:∀(i j:Int)(t u:Tok)(s:SE)(Q:Sz)(E:Sz),C i j->Q (.int (g i j) s.toks) { s with toks:=s.toks+1 }->wpAny (a32 X) X.A (f (.int i t) (.int j u)) Q E s):
  OpR X f (rI C λi j=>.int (g i j)):=by
 intro e s p H x y v u Q I n m h;obtain⟨i,j,rfl,rfl,l,q⟩:=h;obtain⟨t,rfl⟩:=n;obtain⟨o,rfl⟩:=m;exact d i j t o s _ _ l ⟨.int (g i j),H,I.tok _,⟨_,rfl⟩,q⟩
def P7{f:Value->Value->Sem Value}{g:TY}
  (d:∀(i j:Int)(t u:Tok)(s:SE)(Q:Sz)(E:Sz),Q (.int (g i j) s.toks) { s with toks:=s.toks+1 }->wpAny (a32 X) X.A (f (.int i t) (.int j u)) Q E s):
  OpR X f (rI0 λi j=>.int (g i j)):=by
 intro e s o H x y v u Q I m l h;obtain⟨i,j,rfl,rfl,q⟩:=h;obtain⟨t,rfl⟩:=m;obtain⟨n,rfl⟩:=l;exact d i j t n s _ _ ⟨.int (g i j),H,I.tok _,⟨_,rfl⟩,q⟩
def NT{f:Value->Value->Sem Value}{g:Int->Int->Bool}
  (d:∀(i j:Int)(t u:Tok)(s:SE)(Q:Sz)(E:Sz),Q (.bool (g i j)) s->wpAny (a32 X) X.A (f (.int i t) (.int j u)) Q E s):
  OpR X f (rI0 λi j=>.bl (g i j)):=by
 intro e s o H x y v u Q I m l h;obtain⟨i,j,rfl,rfl,q⟩:=h;obtain⟨t,rfl⟩:=m;obtain⟨n,rfl⟩:=l;exact d i j t n s _ _ ⟨.bl (g i j),H,I,rfl,q⟩
def Il(i j:Int):Prop:=0<j/\j<1073741824
def P8(i j:Int):Prop:=0<=j/\j<=1000000/\i.natAbs<2 ^ 64
def Eb(i j:Int):Prop:=(-(2 ^ 64)<i/\i<2 ^ 64)\/(-(2 ^ 64)<j/\j<2 ^ 64)
def Eb.ok(h:Eb i j):IntMulOk i j:=by
 rcases h with⟨e,d⟩|⟨e,d⟩
 .exact .of_left (intBits_le_64 e d)
 .exact .of_right (intBits_le_64 e d)
def IP:OpR X (binaryOp .Add) (rI0 λi j=>.int (i+j)):=P7 λ_ _ _ _ _ _ _ q=>add_int q
def dv:OpR X (binaryOp .Sub) (rI0 λi j=>.int (i-j)):=P7 λ_ _ _ _ _ _ _ q=>sub_int q
def IQ:OpR X (binaryOp .Mult) (rI Eb λi j=>.int (i*j)):=opI λ_ _ _ _ _ _ _ d q=>mul_int q d.ok
def FH:OpR X (binaryOp .FloorDiv) (rI Il λi j=>.int (i / j)):=opI λi j _ _ _ _ _ d q=>by have f:=d.1;have e:=d.2;exact floordiv_int (by omega) (by grind) (.inl (PyProof.noPylong_small (by omega)))
def IS:OpR X (binaryOp .Mod) (rI (λ_ j=>0<j) λi j=>.int (i % j)):=opI λi j _ _ _ _ _ d q=>by have e:=d;exact mod_int' (by omega) (by grind)
def FI:OpR X (binaryOp .Mod) (rI (λ_ j=>j≠0) λi j=>.int (i.fmod j)):=opI λ_ _ _ _ _ _ _ d q=>mod_int' d q
def unI{f:Value->Sem Value}{g:Int->Int}
  (d:∀(i:Int)(t:Tok)(s:SE)(Q:Sz)(E:Sz),Q (.int (g i) s.toks) { s with toks:=s.toks+1 }->wpAny (a32 X) X.A (f (.int i t)) Q E s):
  UnR X f (rU λi=>.int (g i)):=by
 intro e s l H x v Q I j h;obtain⟨i,rfl,q⟩:=h;obtain⟨t,rfl⟩:=j;exact d i t s _ _ ⟨.int (g i),H,I.tok _,⟨_,rfl⟩,q⟩
def XZ:UnR X (unaryOp .USub) (rU λi=>.int (-i)):=unI λ_ _ _ _ _ q=>neg_int q
end
section
variable {X:Cx}{a b c:SN}{ta tb:TE}{pos:Pos}
def ug(I:Inv X pins σ H s)(q:Q (.bl k) H)(e:k=k'):EP X pins σ Q (.bool k') s:=by subst e;exact⟨.bl k,H,I,rfl,q⟩
def eN:OpR X (compareOp .Lt) (rI0 λi j=>.bl (decide (i<j))):=NT λ_ _ _ _ _ _ _ q=>lt_int q
def FJ:OpR X (compareOp .LtE) (rI0 λi j=>.bl (decide (i<=j))):=NT λ_ _ _ _ _ _ _ q=>le_int q
def rT:OpR X (compareOp .Gt) (rI0 λi j=>.bl (decide (j<i))):=NT λ_ _ _ _ _ _ _ q=>gt_int q
def OB:OpR X (compareOp .GtE) (rI0 λi j=>.bl (decide (j<=i))):=NT λ_ _ _ _ _ _ _ q=>ge_int q
def uh:OpR X (compareOp .In) (λx y H Q=>∃i j,x=.str i/\y=.str j/\Q (.bl (!(Builtin.Str.occurrences j i 0 j.length 1).isEmpty)) H):=by intro d s l H x y v u Q I f e h;obtain⟨i,j,rfl,rfl,q⟩:=h;obtain⟨t,rfl⟩:=f;obtain⟨g,rfl⟩:=e;exact in_str (ug I q rfl)
def Ec:OpR X (compareOp .Is) (λx y H Q=>y=.non/\Q (.bl (decide (x=.non))) H):=by
 intro d s g H x y v u Q I e f h;obtain⟨rfl,q⟩:=h;cases f;refine is_none_gen (ug I q ?_);cases x<;>first
  | (cases e;rfl)
  | (obtain⟨t,rfl⟩:=e;rfl)
def FK:OpR X (compareOp .IsNot) (λx y H Q=>y=.non/\Q (.bl (!decide (x=.non))) H):=by
 intro d s g H x y v u Q I e f h;obtain⟨rfl,q⟩:=h;cases f;refine isnot_none_gen (ug I q ?_);cases x<;>first
  | (cases e;rfl)
  | (obtain⟨t,rfl⟩:=e;rfl)
def OpR.or(h:OpR X f r)(h':OpR X f r'):OpR X f (λx y H Q=>r x y H Q\/r' x y H Q):=by
 intro d s i H x y v u Q I g e q;rcases q with q|q
 .exact h d s i H x y v u Q I g e q
 .exact h' d s i H x y v u Q I g e q
def qV(b:SN)(h:op≠.In:=by decide)(e:op≠.NotIn:=by decide):behindInMarks op b=false:=by
 have f:(op==CmpOp.In)=false:=by cases op<;>first|rfl|exact absurd rfl h
 have d:(op==CmpOp.NotIn)=false:=by cases op<;>first|rfl|exact absurd rfl e
 cases b<;>simp[behindInMarks,f,d]
def FL(i:OpR X (compareOp op) r)(o:PE X a ta)(j:PE X b tb)(f:behindInMarks op b=false):PE X (.Compare a [op] [b] pos) (tOp r ta tb):=by intro d s e H Q I h;exact wpAny_Compare1 (Oy o j I h λv u p x y g l n m q=>i d p e g x y v u Q l n m q) f
def IT(t:TE):TT:=λe H Q=>t e H λx d=>∃k,x=.bl k/\Q k d
def FN(o:OpR X (compareOp op) r)(E:PE X a ta)(q:PE X b tb)(l:behindInMarks op b=false):PT X (.Compare a [op] [b] pos) (IT (tOp r ta tb)):=by
 intro d s f H Q I h;refine wpAny_isTrue_Compare1 (thn (E d s f H _ I h) λv p ⟨x,F,G,j,t⟩=>thn (q d p f F _ G t) λu B ⟨y,m,A,w,i⟩=>
  thn (o d B f m x y v u _ A j w i) λc J ⟨z,D,n,C,k,e,g⟩=>?_) l
 subst e;cases C;exact a2z ⟨D,n,g⟩
def oI:(sizeLine:Nat)<2 ^ 63:=by decide
def rV:OpR X (binaryOp .Add) (λx y H Q=>∃i j,x=.str i/\y=.str j/\i.length+j.length<=sizeLine/\Q (.str (i++j)) H):=by intro d s m H x y v u Q I f e h;obtain⟨i,j,rfl,rfl,hz,q⟩:=h;obtain⟨t,rfl⟩:=f;obtain⟨g,rfl⟩:=e;exact add_str (λg l=>⟨.str (i++j),H,I.tok _,⟨_,rfl⟩,q⟩) hz
def vals1(r:Vals [x] us):∃u,us=[u]/\RelV x u:=by
 cases r with
 |cons e d=>cases d;exact⟨_,rfl,e⟩
def vals2(r:Vals [x,y] us):∃u d,us=[u,d]/\RelV x u/\RelV y d:=by
 cases r with
 |cons g f=>
  cases f with
  |cons h e=>cases e;exact⟨_,_,rfl,g,h⟩
def ui(g:X.calm=true):Qb X (.builtin "max") (λe H Q=>∃i j,e=[.int i,.int j]/\Q (.int (if j>i then j else i)) H):=by
 intro f s n H e l Q I r h;obtain⟨i,j,rfl,q⟩:=h;obtain⟨u,o,rfl,⟨t,rfl⟩,⟨v,rfl⟩⟩:=vals2 r;refine max_two_ints (I.ok.hd g) λp m k=>⟨_,H,I.kept k,?_,q⟩;by_cases d:j>i
 .rw[if_pos d,if_pos d];exact⟨_,rfl⟩
 .rw[if_neg d,if_neg d];exact⟨_,rfl⟩
def uj(g:X.calm=true):Qb X (.builtin "min") (λe H Q=>∃i j,e=[.int i,.int j]/\Q (.int (if j<i then j else i)) H):=by
 intro f s n H e l Q I r h;obtain⟨i,j,rfl,q⟩:=h;obtain⟨u,o,rfl,⟨t,rfl⟩,⟨v,rfl⟩⟩:=vals2 r;refine min_two_ints (I.ok.hd g) λp m k=>⟨_,H,I.kept k,?_,q⟩;by_cases d:j<i
 .rw[if_pos d,if_pos d];exact⟨_,rfl⟩
 .rw[if_neg d,if_neg d];exact⟨_,rfl⟩
def P9(K:SK)(x:V)(H:Hp)(n:Nat):Prop:=
 match x with
 |.str y=>y.length<=sizeLine/\n=y.length
 |.byt y=>y.size<=sizeLine/\n=y.size
 |.ref p=>(∃d,SqL K H p d/\n=d.length)\/∃d,SqT K H p d/\n=d.length
 |_=>False
def B4:Qb X (.builtin "len") (λd H Q=>∃x n,d=[x]/\P9 X.K x H n/\Q (.int n) H):=by
 intro v s A H d z Q I r h;obtain⟨x,n,rfl,e,q⟩:=h;obtain⟨u,rfl,o⟩:=vals1 r;have B:=a0P;cases x with
 |str y=>obtain⟨t,rfl⟩:=o;obtain⟨w,g⟩:y.length<=sizeLine/\n=y.length:=e;subst g;exact len_str (by omega) ⟨.int _,H,I.tok _,⟨_,rfl⟩,q⟩
 |byt y=>obtain⟨t,rfl⟩:=o;obtain⟨w,g⟩:y.size<=sizeLine/\n=y.size:=e;subst g;exact PySem.W.len_bytes (by omega) ⟨.int _,H,I.tok _,⟨_,rfl⟩,q⟩
 |ref p=>
  cases o;have g:=e;rcases g with⟨d,i,g⟩|⟨d,i,g⟩
  .subst g;obtain⟨j,l,m,hz⟩:=I.list i;have f:=l.length;exact Calls.call_len_list m.isList (by grind) ⟨.int d.length,H,I.tok _,⟨_,by simp only[List.size_toArray];rw[f]⟩,q⟩
  .subst g;obtain⟨j,l,m,hz⟩:=I.tuple i;have f:=l.length;exact len_tuple m (by grind) ⟨.int d.length,H,I.tok _,⟨_,by simp only[List.size_toArray];rw[f]⟩,q⟩
 |_=>exact e.elim
end
structure FO(h:Heap)(x dx C:Addr)(mA:Sx):Prop where
 obj:h.get? x=some (PySem.W.instObj C dx)
 ns:h.Ns1 dx mA
 ne:dx≠x
def aI{h:Heap}{d:Addr}{f:Sx}(n:h.Ns1 d f):∃i,h.get? d=some i/\∀b,PySem.W.lookIn b i=some (f b):=by
 obtain⟨o,g,u,p,s,j,_,l⟩:=n;refine⟨o,p,λb=>?_⟩;have e:=l b;unfold nsFind findBy at e;rw[<- a3H]at e;unfold PySem.W.lookIn;rw[s];dsimp only;split
 .rename_i y q;rw[q]at e;exact a0D some e
 .rename_i q;rw[q]at e;have a:g.toList.any (·.refKey)=false:=by rw[List.any_eq_false];intro y m;obtain⟨z,t,c⟩:=j y (a3r.mp m);simp[DictEntry.refKey,c]
  have r:¬g.toList.any (·.refKey)=true:=by rw[a];exact a0b
  rw[if_neg r];exact a0D some e
def FO.look(I:FO h x dx C mA):∃b,PySem.W.InstAt h x (PySem.W.instObj C dx) C (some b)/\∀a,PySem.W.lookIn a b=some (mA a):=
 let⟨b,ho,hl⟩:=aI I.ns
 ⟨b,⟨I.obj,rfl,rfl,ho⟩,hl⟩
section
variable {prog:SV}{w:S_}{A:Tf}{E:Sz}{s:SE}{K:SK}{x dx C f:Addr}{mA:Sx}{name:Str}{v:Value}
def get_map(X:K.In s.heap)(I:FO s.heap x dx C mA)(c:PySem.W.plainGet K C name=true)(b:PySem.W.hasDictIn K C=true)
  (d:PySem.W.findIn K (.ref C) name=some none) (g:mA name=some v) (a:PySem.W.handedIn v=true) (h:Q v { s with toks:=s.toks+1 }):
  wpAny (model prog w) A (getAttr (.ref x) name expr) Q E s:=by
 obtain⟨i,J,e⟩:=I.look;exact PySem.W.get_value X J (a2j c).1 (PySem.W.findObj_own b d rfl (by rw[e,g])) a h
def B5(X:K.In s.heap)(I:FO s.heap x dx C mA)(a:PySem.W.plainGet K C name=true)
  (hf:PySem.W.findIn K (.ref C) name=some (some (.ref f))) (c:PySem.W.isFn K (.ref f)=true) (e:mA name=none) (h:Q (.ref f,[.ref x]) s):
  wpAny (model prog w) A (getMethod (.ref x) name pl) Q E s:=by
 obtain⟨b,J,d⟩:=I.look;exact PySem.W.method_fn X J (a2j a).1 (a2j a).2 hf (a0u.mp c) (by show(PySem.W.lookIn name b).map (·.isSome)=some false;rw[d,e];rfl) h
def FP(X:K.In s.heap)(I:FO s.heap x dx C mA)
  (u:PySem.W.findIn K (.ref C) "__setattr__"=some (some (.builtin "object.__setattr__"))) (hp:PySem.W.plainOver K C=true) (z:PySem.W.takerIn K C name=some none) (p:PySem.W.hasDictIn K C=true)
  (n:PySem.Within mA ns) (hsz:ns.length<=sizeLine)
  (h:∀e,FO e x dx C (λy=>if y=name then some v else mA y)->Heap.SameBut dx s.heap e->Q () { s with heap:=e,toks:=s.toks+2 }):
  wpAny (model prog w) A (setAttr (.ref x) name v) Q E s:=by
 obtain⟨D,J,F⟩:=I.look;refine PySem.W.set_plain X J u (PySem.W.osa_open X J hp z λb=>?_);obtain⟨cd,q,g⟩:=PySem.W.any_some p;have o:=I.obj;refine t0 (S8 (t0 (t0 (a1S o (t0 (PySem.W.Looks.here (PySem.W.looks_clsIn X q) ?_))))));rw[g];refine S8 (t0 (S8 (t0 ?_)));refine a3I I.ns λe d c=>?_;obtain⟨B,t,m,i,l,j⟩:=d.count (a2A name v n);exact t0 (a2K i (by rw[l];exact a2L (T9 j (by rw[v4];omega))) (S8 (h _ ⟨(c.2 _ (Ne.symm I.ne)).trans I.obj,d,I.ne⟩ c)))
def B6(X:K.In s.heap)(b:PySem.W.makesIn K C=true)
  (hi:PySem.W.findIn K (.ref C) "__init__"=some (some (.ref f))) (hf:PySem.W.typeIn K (.ref f)=some (.type "function"))
  (h:codeAny (model prog w) (A.under (.builtin "type.__call__" ⟨.ref C::vs,kw⟩)) (.call (.ref f) ⟨.ref (s.heap.objs.size+1)::vs,kw⟩) (PySem.W.InitBack (s.heap.objs.size+1) R)
   { s with heap:=(s.heap.push PySem.W.emptyDict).push (PySem.W.instObj C s.heap.objs.size) }):
  codeAny (model prog w) A (.call (.ref C) ⟨vs,kw⟩) R s:=by
 obtain⟨c,g,d,t,e⟩:=s;exact PySem.W.make_core (PySem.W.makes_of X b) (PySem.W.looks_findIn X hi) (λa=>PySem.W.bind_fn X a hf) (.inl rfl) h
end
def VI(f:Str)(v:V):List (Str×V)->List (Str×V)
 |[]=>[(f,v)]
 | (g,x)::r=>if g=f then(g,v)::r else(g,x)::VI f v r
theorem Vg(f g:Str)(v:V):∀fs:List (Str×V),(VI f v fs).lookup g=if g=f then some v else fs.lookup g
 |[]=>by
  show List.lookup g [(f,v)]=_;by_cases h:g=f
  .have a:=a0u.mpr h;simp only[List.lookup,a,if_pos h]
  .have a:=a0N.mpr h;simp only[List.lookup,a,if_neg h]
 | (k,x)::r=>by
  have c:=Vg f g v r;rw[show VI f v ((k,x)::r)=(if k=f then(k,v)::r else(k,x)::VI f v r)from rfl];by_cases b:k=f
  .rw[if_pos b];by_cases h:g=k
   .have a:=a0u.mpr h;simp only[List.lookup,a,if_pos (h.trans b)]
   .have a:=a0N.mpr h;simp only[List.lookup,a,if_neg (λe:g=f=>h (e.trans b.symm))]
  .rw[if_neg b];by_cases h:g=k
   .have a:=a0u.mpr h;simp only[List.lookup,a,if_neg (λe:g=f=>b (h.symm.trans e))]
   .have a:=a0N.mpr h;simp only[List.lookup,a];exact c
theorem Qi(f:Str)(v:V):∀fs:List (Str×V),f∈(VI f v fs).map (·.1)/\∀g,g∈fs.map (·.1)->g∈(VI f v fs).map (·.1)
 |[]=>⟨by simp[VI],λg h=>by simp at h⟩
 | (k,x)::r=>by
  obtain⟨b,c⟩:=Qi f v r;rw[show VI f v ((k,x)::r)=(if k=f then(k,v)::r else(k,x)::VI f v r)from rfl];by_cases a:k=f
  .subst a;exact⟨by simp,λg h=>by simpa using h⟩
  .rw[if_neg a];refine⟨?_,λg h=>?_⟩
   .exact S0 _ b
   .rcases T1.mp h with e|e
    .exact T1.mpr (.inl e)
    .exact S0 _ (c g e)
theorem Vh(f:Str)(v:V):∀fs:List (Str×V),(VI f v fs).length<=fs.length+1
 |[]=>by simp[VI]
 | (k,x)::r=>by
  have b:=Vh f v r;rw[show VI f v ((k,x)::r)=(if k=f then(k,v)::r else(k,x)::VI f v r)from rfl];by_cases a:k=f
  .rw[if_pos a,v4,v4];omega
  .rw[if_neg a,v4,v4];omega
def U9.some_of(r:U9 (some v) o):∃u,o=some u/\RelV v u:=by
 cases o with
 |none=>exact r.elim
 |some u=>exact⟨u,rfl,r⟩
def U9.none_of(r:U9 none o):o=none:=by
 cases o with
 |none=>rfl
 |some u=>exact r.elim
def uk(r:RelV v u):PySem.W.handedIn u=true:=by
 cases v with
 |non=>cases r;rfl
 |bl b=>cases r;rfl
 |int i=>obtain⟨t,e⟩:= r;cases e;rfl
 |str x=>obtain⟨t,e⟩:= r;cases e;rfl
 |byt b=>obtain⟨t,e⟩:= r;cases e;rfl
 |flt b=>obtain⟨t,e⟩:= r;cases e;rfl
 |ref a=>cases r;rfl
 |ty n=>cases r;rfl
def eO(c:HOk P w H h)(e:H a=some (.ins C dx fs)):∃b,FO h a dx C b/\(∀f,U9 (fs.lookup f) (b f))/\PySem.Within b (fs.map (·.1))/\fs.length<=1000/\H dx=some (.own a):=by obtain⟨d,z,g,ob,b,n,r,q⟩:= (c a _ e);exact⟨b,⟨ob,n,g⟩,r,q,z,d⟩
structure Cls(K:SK)(C:Addr):Prop where
 pg:PySem.W.plainGet K C Str.empty=true
 hd:PySem.W.hasDictIn K C=true
 po:PySem.W.plainOver K C=true
 sa:PySem.W.findIn K (.ref C) "__setattr__"=some (some (.builtin "object.__setattr__"))
def Cls.get{K:SK}{C:Addr}(c:Cls K C)(f:Str):PySem.W.plainGet K C f=true:=c.pg
def vk(K:SK)(C:Addr)(f:Str):Prop:=PySem.W.findIn K (.ref C) f=some none
def vk.OC{K:SK}{C:Addr}{f:Str}(n:vk K C f):PySem.W.takerIn K C f=some none:=by unfold PySem.W.takerIn;rw[show PySem.W.findIn K (.ref C) f=some none from n];rfl
structure Meth(K:SK)(C:Addr)(m:Str)(f:Addr):Prop where
 at_:PySem.W.findIn K (.ref C) m=some (some (.ref f))
 fn:PySem.W.isFn K (.ref f)=true
 kp:PySem.W.keepIn K (.ref f)=true
def rW(I:Inv X pins σ H s)(e:H a=some (.ins C dx fs))(c:Cls X.K C)(n:vk X.K C f)(l:fs.lookup f=some v)
  (h:∀u g,Inv X pins σ H g->RelV v u->Q u g):wpAny (a32 X) A (getAttr (.ref a) f b) Q E s:=by
 obtain⟨j,O,r,_,_,_⟩:=eO I.hok e;obtain⟨u,i,d⟩:=U9.some_of (v:=v) (o:=j f) (by grind);exact get_map I.kIn O (c.get f) c.hd n i (uk d) (h u _ (I.tok _) d)
def dw(I:Inv X pins σ H s)(e:H a=some (.ins C dx fs))(c:Cls X.K C)(k:Meth X.K C m g)(l:fs.lookup m=none)
  (h:Q (.ref g,[.ref a]) s):wpAny (a32 X) A (getMethod (.ref a) m pl) Q E s:=by
 obtain⟨d,O,r,_,_,_⟩:=eO I.hok e;have b:d m=none:=U9.none_of (by grind);exact B5 I.kIn O (c.get m) k.at_ k.fn b h
def rX(I:Inv X pins σ H s)(e:H a=some (.ins C dx fs))(c:Cls X.K C)(n:vk X.K C f)(F:fs.length<1000)(w:RelV y u)
  (h:∀i,Inv X pins σ (upd H a (.ins C dx (VI f y fs))) i->Q () i):wpAny (a32 X) A (setAttr (.ref a) f u) Q E s:=by
 obtain⟨l,O,r,j,_,m⟩:=eO I.hok e;have hz:(fs.map (·.1)).length<=sizeLine:=by rw[f8,a0P];omega
 refine FP I.kIn O c.sa c.po n.OC c.hd j hz λB d D=>h _ ?_;have v:∃o,B.get? dx=some o:=let⟨o,_,_,e',_⟩:=d.ns;⟨o,e'⟩
 refine I.write (by rw[e];exact True.intro) (.inr m) (λb q t z=>(D.2 b t).trans z) v ?_;refine⟨by rw[zh O.ne];exact m,?_,O.ne,d.obj,_,d.ns,λg=>?_,λg p=>?_⟩
 .have:=Vh f y fs;omega
 .rw[Vg];by_cases q:g=f
  .rw[if_pos q,if_pos q];exact w
  .rw[if_neg q,if_neg q];exact r g
 .by_cases q:g=f
  .rw[q];exact(Qi f y fs).1
  .refine(Qi f y fs).2 g (j g λz=>p ?_);show(if g=f then some u else l g)=none;rw[if_neg q];exact z
def Inv.made(I:Inv X pins σ H s):Inv X pins σ (upd (upd H s.heap.objs.size (.own (s.heap.objs.size+1))) (s.heap.objs.size+1) (.ins C s.heap.objs.size []))
  { s with heap:=(s.heap.push PySem.W.emptyDict).push (PySem.W.instObj C s.heap.objs.size) }:=by
 have d:(s.heap.push PySem.W.emptyDict).get? s.heap.objs.size=some PySem.W.emptyDict:=a0k s.heap rfl;have f:=by
  have:=a0k (s.heap.push PySem.W.emptyDict) (o:=PySem.W.instObj C s.heap.objs.size) rfl
  rwa [a1t]at this
 have g:(s.heap.push PySem.W.emptyDict).Ns s.heap.objs.size (λ_=>none):=⟨PySem.W.emptyDict,#[],_,d,rfl,(λe i=>absurd i (by simp)),λ_=>rfl⟩;have j:=I.laid (o:=.own (s.heap.objs.size+1)) (t':=s.toks) (λb u q=>S6 _ q) (S5 _) ⟨_,d⟩;refine j.laid (λb u q=>S6 _ q) (a2b (a1t _ _)) ?_;have c:s.heap.objs.size≠s.heap.objs.size+1:=a0g (a0T _);refine⟨by rw[zh c,ze],a0y _,c,f,λ_=>none,(Heap.Ns1.of_empty g).at λo q=>S6 _ q,λ_=>True.intro,λy h=>absurd rfl h⟩
def FQ(b:attributeBase e f env (eval e env)=eval e env)
  (h:wpAny (model prog w) A (eval e env) (λo a=>wpAny (model prog w) A (getAttr o f true) Q E a) E s):wpAny (model prog w) A (eval (.Attribute e f pos) env) Q E s:=
 Attribute_any_ h (by rw[arm_eval_Attribute,b])
def RS(K:SK)(c:TE)(f:Str):TE:=λe H Q=>c e H λx b=>∃a C d fs v,x=.ref a/\b a=some (.ins C d fs)/\Cls K C/\vk K C f/\fs.lookup f=some v/\Q v b
def RT(K:SK)(e h:TE)(f:Str):TS:=λD b H=>h b H λy g=>e b g λx c=>∃a C d fs,x=.ref a/\c a=some (.ins C d fs)/\Cls K C/\vk K C f/\fs.length<1000/\
 D.nx b (upd c a (.ins C d (VI f y fs)))
def Ed(he:PE X e ta)(m:attributeBase e f X.env (eval e X.env)=eval e X.env):PE X (.Attribute e f pos) (RS X.K ta f):=by intro b s g H Q I h;refine FQ m (thn (he b s g H _ I h) λu z ⟨x,t,d,r,a,C,w,fs,v,p,i,c,n,l,q⟩=>?_);subst p;obtain rfl:u=Value.ref a:=r;exact rW d i c n l λy A o j=>⟨v,t,o,j,q⟩
def Ee(A:PE X o ta)(r:PE X value tv)(v:swapsWith value (some (.Attribute o f pos')) pos.line X.env=pure false):PS X (.Assign [.Attribute o f pos'] value pos) (RT X.K ta tv f):=by intro b s d H D I h;refine a18 (thn (r b s d H _ I h) λu m ⟨y,B,E,t,q⟩=>thn (A b m d B _ E q) λi K ⟨x,J,p,z,a,C,G,fs,w,g,c,n,l,e⟩=>?_) v;subst w;obtain rfl:i=Value.ref a:=z;exact rX p g c n l t λF j=>⟨d,_,j,e⟩
section
variable {H:Hp}
inductive tX(K:SK)(H:Hp):V->Value->Prop where
 |non:tX K H .non (.type "NoneType")
 |bl (x:Bool):tX K H (.bl x) (.type "bool")
 |int (i:Int):tX K H (.int i) (.type "int")
 |str (x:Str):tX K H (.str x) (.type "str")
 |flt (x:UInt64):tX K H (.flt x) (.type "float")
 |lst {a:Addr}{xs:SR}(e:H a=some (.lst xs)):tX K H (.ref a) (.type "list")
 |frz {a:Addr}{o:Obj}{xs:SR}(e:H a=some (.frz o (.lst xs))):tX K H (.ref a) (.type "list")
 |tup {a:Addr}{xs:SR}(e:H a=some (.tup xs)):tX K H (.ref a) (.type "tuple")
 |dK {a:Addr}{kvs:SH}(e:H a=some (.dK kvs)):tX K H (.ref a) (.type "dict")
 |dT {a:Addr}{kvs:TV}(e:H a=some (.dT kvs)):tX K H (.ref a) (.type "dict")
 |ins {a C dx:Addr}{fs:Tg}(e:H a=some (.ins C dx fs)) (cl:Cls K C) (ha:PySem.W.findIn K (.ref C) "__class__"=some (some (.builtin "object.__class__")))
   (hn:PySem.W.specialIn K (.builtin "object.__class__") "__get__"=some (some (.builtin "getset_descriptor.__get__"))) (htk:PySem.W.takesIn K (.builtin "object.__class__")=some true)
   (hm:PySem.W.mroIn K C (.type "object")=some true):tX K H (.ref a) (.ref C)
end
structure vF(k:Nat)(A:Tf):Prop where
 hd:A.handled=none
 dp:A.depth+3*k+5<recursionLimit
 un:A.units+16*k+200<cLine
def vF.mono(r:vF k A)(h:j<=k):vF j A:=⟨r.hd,by have:=r.dp;omega,by have:=r.un;omega⟩
def vF.deeper(r:vF (k+1) A)(env:Env):vF k (A.deeper env):=
 ⟨r.hd,by have:=r.dp;show A.depth+1+3*k+5<_;omega,by have:=r.un;show A.units+3+16*k+200<_;omega⟩
def vF.in1(r:vF (k+1) A):vF k A.in1:=
 ⟨r.hd,by have:=r.dp;show A.depth+3*k+5<_;omega,by have:=r.un;show A.units+1+16*k+200<_;omega⟩
def rY{A:Tf}{C:Addr}{us:SO}{a:TC}:(A.under (.builtin "type.__call__" ⟨.ref C::us,a⟩)).depth=A.depth+1:=rfl
def rZ{A:Tf}{C:Addr}{us:SO}{a:TC}:(A.under (.builtin "type.__call__" ⟨.ref C::us,a⟩)).units=A.units+1:=rfl
def vF.make(r:vF (k+1) A)(C:Addr)(us:SO)(a:TC):vF k (A.under (.builtin "type.__call__" ⟨.ref C::us,a⟩)):=
 ⟨r.hd,by have:=r.dp;rw[rY];omega,by have:=r.un;rw[rZ];omega⟩
def vF.depth(r:vF k A):A.depth<recursionLimit:=by have:=r.dp;omega
def vF.units(r:vF k A):A.units+64<cLine:=by have:=r.un;omega
def OD:TA:=λ_ H Q=>Q [] H
def IU(c:TE)(b:TA):TA:=λa H Q=>c a H λx f=>b a f λd e=>Q (x::d) e
section
variable {X:Cx}{e:SN}{es:SG}{te:TE}{t:TA}{pos:Pos}
def dy:PA X [] OD:=λ_ _ _ _ H Q I h=>a2B ⟨[],H,I,.nil,h⟩
def Vi(p:PE X e te)(i:PA X es t)(o:starEach (e::es) X.env=(false,eval e X.env)::starEach es X.env:=by rfl):PA X (e::es) (IU te t):=by intro pos a s b H Q I h;rw[o];exact a2r (thn (p a s b H _ I h) λu j ⟨x,q,r,d,l⟩=>(thn (i pos a j b q _ r l) λv w ⟨f,g,n,m,c⟩=>⟨x::f,g,n,.cons d m,c⟩))
def RU(t:TA):TE:=λc H Q=>t c H λa b=>a.length<=sizeLine/\∀p,b p=none->Q (.ref p) (upd b p (.tup a))
def RW(t:TA):TE:=λc H Q=>t c H λa b=>a.length<=sizeLine/\∀p,b p=none->Q (.ref p) (upd b p (.lst a))
def Eg{x1}(h:PA X es t):PE X (.Tuple es x1 pos) (RU t):=by intro a s l H Q I j;refine wpAny_Tuple_spliced (thn (h pos a s l H _ I j) λg c ⟨i,d,f,r,z,q⟩=>⟨by rw[<- r.length];exact z,?_⟩);have hf:=f.hok.fresh (S5 _);refine⟨.ref c.heap.objs.size,upd d c.heap.objs.size (.tup i),f.laid (λb u e=>S6 _ e) (S5 _) ?_,rfl,q _ hf⟩;exact⟨z,g,r,⟨_,a0k _ rfl,rfl,_,rfl⟩⟩
def IV(h:PA X es t):PE X (.List es pos) (RW t):=by intro a s l H Q I j;refine wpAny_List_spliced (thn (h pos a s l H _ I j) λg c ⟨i,d,f,r,z,q⟩=>⟨by rw[<- r.length];exact z,?_⟩);have hf:=f.hok.fresh (S5 _);refine⟨.ref c.heap.objs.size,upd d c.heap.objs.size (.lst i),f.laid (λb u e=>S6 _ e) (S5 _) ?_,rfl,q _ hf⟩;exact⟨z,g,0,r,a0k _ rfl⟩
end
abbrev Sp:=List V->Hp->VK->XK->Prop
abbrev CXT:=List Env->Hp->Shared->XK->Value->Shared->Prop
structure BM(P:SV)(w:S_)(K:SK)(mg:Sx)(base:Heap)(A:Tf)(outer:List Env)(s:SE)(H:Hp):Prop where
 frames:A.frames=some outer
 mod:Mod K mg base
 bs:∀b o,base.get? b=some o->s.heap.get? b=some o/\H b=none
 bsz:base.objs.size<=s.heap.objs.size
 oA:s.heap.FunFrames base outer
 frf:∀b∈frs outer,H b=none
 hok:HOk P w H s.heap
 bare:AllBare s.gens
def CE(a:List Env)(P:SV)(w:S_)(H:Hp)(s:SE)(Q:VK)(u:Value)(b:SE):Prop:=
 ∃v c,b.os=s.os/\AllBare b.gens/\Un (frs a) [] H c s.heap b.heap/\HOk P w c b.heap/\RelV v u/\Q v c
def CR(CX:CXT)(a:List Env)(P:SV)(w:S_)(H:Hp)(s:SE)(Q:VK)(E:XK)(r:Result)(b:SE):Prop:=
 match r with
 |.ok (.ret u)=>CE a P w H s Q u b
 |.ok _=>False
 |.error e=>CX a H s E e b
structure yz(P:SV)(w:S_)(K:SK)(mg:Sx)(base:Heap)(CX:CXT)(k:Nat)(f:Addr)(fd:Td)(ps:SA)(sp:Sp):Prop where
 len:∀vs H Q E,sp vs H Q E->vs.length=ps.length
 run:∀(A:Tf)(outer:List Env)(s:SE)(H:Hp)(args:Args)(us:SO)(vs:SR) (Q:VK) (E:XK),vF k A->BM P w K mg base A outer s H->BindsTo s fd args (ps.zip us)->Vals vs us->sp vs H Q E->
  codeAny (model P w) A (.call (.ref f) args) (CR CX outer P w H s Q E) s
def yz.imp{P:SV}{w:S_}{K:SK}{g:Sx}{a:Heap}{CX:CXT}{k:Nat}{f:Addr}{e:Td}{i:SA}{sp d:Sp}(F:yz P w K g a CX k f e i sp)
  (h:∀c H Q E,d c H Q E->sp c H Q E):yz P w K g a CX k f e i d:=
 ⟨λc H Q E q=>F.len c H Q E (h _ _ _ _ q),λA b s H args j c Q E l p m n o=>F.run A b s H args j c Q E l p m n (h _ _ _ _ o)⟩
def BM.make{P:SV}{w:S_}{K:SK}{c:Sx}{b:Heap}{A:Tf}{a:List Env}{s:SE}{H:Hp}(e:BM P w K c b A a s H)(C:Addr)(us:SO)(d:TC):
  BM P w K c b (A.under (.builtin "type.__call__" ⟨.ref C::us,d⟩)) a s H:=⟨by first|exact e.frames|(simpa[Around.under,Code.envs,Code.isFrame,pushEnvs]using e.frames),e.mod,e.bs,e.bsz,e.oA,e.frf,e.hok,e.bare⟩
def Inv.um(I:Inv X pins σ H s):BM X.prog X.w X.K X.mg X.base X.A X.stack s H:=
 ⟨I.ok.frames,I.ok.mod,I.bs,T9 I.ok.bsz I.sz,I.stack,I.eG,I.hok,I.bare⟩
def Inv.after(I:Inv X pins σ H s)(h:CE X.stack X.prog X.w H s Q u s'):EP X pins σ Q u s':=by obtain⟨v,e,i,bare,un,a,r,q⟩:=h;obtain⟨f,g,d,t,c⟩:=s';obtain rfl:c=s.os:=i;exact⟨v,e,I.call un a bare (λb z=>absurd z (by simp)),r,q⟩
def OE(sp:Sp)(dvs:SR)(E:XK)(t:TA):TE:=λc H Q=>t c H λa b=>sp (a++dvs) b Q E
def OF(C:Addr)(sp:Sp)(dvs:SR)(E:XK)(t:TA):TE:=λe H Q=>t e H λc b=>∀x a,b x=none->b a=none->a≠x->
 sp (.ref x::(c++dvs)) (upd (upd b a (.own x)) x (.ins C a [])) (λv d=>v=.non/\Q (.ref x) d) E
def Binds(K:SK)(d:Td)(c:SA)(b:SO):Prop:=
 ∀(s:SE)(a:SO),K.In s.heap->(a++b).length=c.length->BindsTo s d ⟨a,[]⟩ (c.zip (a++b))
def Binds.all{K:SK}{c:Td}{b:SA}(h:∀a:List Value,a.length=b.length->bindArgs c ⟨a,[]⟩=pure (b.zip a)):Binds K c b []:=λs a _ d=>by rw[a0m]at d ⊢;exact .of_eq (h a d)
def Passes(CX:CXT)(X:Cx)(E:XK):Prop:=∀(a:Sw)(c:St)(H:Hp)(s:SE)(e:Value)(b:SE),Inv X a c H s->CX X.stack H s E e b->X.xe e b
section
variable {X:Cx}{CX:CXT}{k:Nat}{f C:Addr}{fd:Td}{ps:SA}{sp:Sp}{dvs:SR}{ds:SO}{E:XK}{x:Str}{p pos:Pos}{e:SN}{es:SG}{t:TA}
def uo(F:yz X.prog X.w X.K X.mg X.base CX k f fd ps sp)(n:vF k X.A)(d:Binds X.K fd ps ds)(g:Vals dvs ds)(i:Passes CX X E)
  (I:Inv X pins σ H s) (r:Vals vs us) (h:sp (vs++dvs) H Q E):wpAny (a32 X) X.A (call (.ref f) us) (EP X pins σ Q) X.xe s:=by
 have b:=r.append g;have j:(us++ds).length=ps.length:=by rw[<- b.length];exact F.len _ _ _ _ h
 refine a1I (a1F (F.run X.A X.stack s H ⟨us,[]⟩ (us++ds) (vs++dvs) Q E n I.um (d s us I.kIn j) b h) λr c a=>?_);cases r with
 |error e=>exact i pins σ H s e c I a
 |ok l=>
  cases l with
  |ret u=>exact I.after a
  |next=>exact False.elim a
  |brk=>exact False.elim a
  |cont=>exact False.elim a
def mH(F:yz X.prog X.w X.K X.mg X.base CX k f fd ps sp)(n:vF k X.A)(l:Gl X x)(j:X.mg x=some (.ref f))(g:PySem.W.keepIn X.K (.ref f)=true)(u:Binds X.K fd ps ds)(v:Vals dvs ds)(d:Passes CX X E)
  (w:PA X (e::es) t) (b:(x==("__debug__":Str))=false:=by decide) (he:starEach (e::es) X.env=(false,eval e X.env)::starEach es X.env:=by rfl) (hpl:(backTo pos (starEach es X.env)).any (·.1)=false:=by rfl):
  PE X (.Call (.Name x p) (e::es) [] pos) (OE sp dvs E t):=by
 intro a s i H Q I h;refine a01 (eK I l j ?_ b);refine a1Q I.ok.mod.kin g (thn (w pos a s i H _ I h) λy A ⟨z,B,c,r,q⟩=>⟨c.kIn,?_⟩) he hpl;exact uo F n u v d c r q
structure Mk(K:SK)(C f:Addr):Prop where
 makes:PySem.W.makesIn K C=true
 init:PySem.W.findIn K (.ref C) "__init__"=some (some (.ref f))
 fn:PySem.W.isFn K (.ref f)=true
 kp:PySem.W.keepIn K (.ref C)=true
def B7(M:Mk X.K C f)(F:yz X.prog X.w X.K X.mg X.base CX k f fd ps sp)(y:vF (k+1) X.A)(A:Binds X.K fd ps ds)(B:Vals dvs ds)
  (j:Passes CX X E) (I:Inv X pins σ H s) (r:Vals vs us)
  (h:∀x b,H x=none->H b=none->b≠x->sp (.ref x::(vs++dvs)) (upd (upd H b (.own x)) x (.ins C b [])) (λv q=>v=.non/\Q (.ref x) q) E):
  wpAny (a32 X) X.A (call (.ref C) us) (EP X pins σ Q) X.xe s:=by
 have d:=h (s.heap.objs.size+1) s.heap.objs.size (I.hok.fresh (a1s _)) (I.hok.fresh (S5 _)) (a0g (a0T _));have c:=Inv.made (C:=C) I;have g:Vals (V.ref (s.heap.objs.size+1)::(vs++dvs)) (Value.ref (s.heap.objs.size+1)::(us++ds)):=.cons rfl (r.append B);have G:=by have e:=g.length;rw[F.len _ _ _ _ d]at e;exact e.symm
 refine a1I (B6 I.kIn M.makes M.init (a0u.mp M.fn) (a1F (F.run _ X.stack _ _ ⟨Value.ref (s.heap.objs.size+1)::us,[]⟩ (Value.ref (s.heap.objs.size+1)::(us++ds)) _ _ E (y.make C us [])
  (c.um.make C us []) (A _ (Value.ref (s.heap.objs.size+1)::us) c.kIn G) g d) λr l a=>?_))
 cases r with
 |error e=>exact j pins σ _ _ e l c a
 |ok D=>
  cases D with
  |ret u=>obtain⟨v,n,w,z,ev,i⟩:=c.after a;subst ev;exact⟨z,⟨V.ref (s.heap.objs.size+1),n,w,rfl,i⟩⟩
  |next=>exact False.elim a
  |brk=>exact False.elim a
  |cont=>exact False.elim a
def uq(M:Mk X.K C f)(F:yz X.prog X.w X.K X.mg X.base CX k f fd ps sp)(l:vF (k+1) X.A)(j:Gl X x)(i:X.mg x=some (.ref C))(n:Binds X.K fd ps ds)(u:Vals dvs ds)(d:Passes CX X E)
  (v:PA X (e::es) t) (b:(x==("__debug__":Str))=false:=by decide) (he:starEach (e::es) X.env=(false,eval e X.env)::starEach es X.env:=by rfl) (hpl:(backTo pos (starEach es X.env)).any (·.1)=false:=by rfl):
  PE X (.Call (.Name x p) (e::es) [] pos) (OF C sp dvs E t):=by
 intro a s g H Q I h;refine a01 (eK I j i ?_ b);refine a1Q I.ok.mod.kin M.kp (thn (v pos a s g H _ I h) λw z ⟨y,A,c,r,q⟩=>⟨c.kIn,?_⟩) he hpl;exact B7 M F l n u d c r q
end
def PK(X:Cx)(c:List Keyword)(t:TA):Prop:=
 ∀(b:Pos)(a:Sw)(s:SE)(d:St)(H:Hp)(Q:List V->Hp->Prop),Inv X a d H s->t d H Q->wpAny (a32 X) X.A (evalAll ((backToKw b (keywordEach c X.env)).map (·.2))) (AP X a d Q) X.xe s
section
variable {X:Cx}{x:Str}{pos kpos:Pos}{e:SN}{kws:List Keyword}{te:TE}{t:TA}{nm:Option Str}
def IW:PK X [] OD:=λ_ _ _ _ H Q I h=>wpAny_evalAll_nil ⟨[],H,I,.nil,h⟩
def FR(w:PE X e te)(j:PK X kws t):PK X (⟨nm,e,kpos⟩::kws) (IU te t):=by intro pos a s b H Q I h;exact wpAny_evalAll_cons (t0 (thn (w a s b H _ I h) λu l ⟨x,y,z,d,n⟩=>t0 (a1W (S8 (thn (j pos a l b y _ z n) λA B ⟨g,i,r,q,c⟩=>⟨x::g,i,r,.cons d q,c⟩)))))
end
structure zl(N P:SA)(sc:Scope):Prop where
 kind:sc.kind=.function
 co:sc.isCoroutine=false
 gen:sc.isGenerator=false
 nd:N.Nodup
 pre:N.take P.length=P
 par:∀x∈P,sc.names.lookup x=some .local\/sc.names.lookup x=some .cell
 NO:∀y∈sc.names,y.2≠.free
theorem gJ{a:TN}{x:Str}:∀{binds:TC}{m:Sx},(∀v,(x,v)∉binds)->bindL a binds m x=m x
 |[],_,_=>rfl
 | (n,v)::r,m,h=>by
  unfold bindL;rw[gJ λw b=>h w (S0 _ b)];split
  .have:x≠n:=by rintro rfl;exact h v u8
   simp[this]
  .rfl
theorem gK{a:TN}{x:Str}:∀{binds:TC}{m:Sx},(∀v,(x,v)∉binds)->bindC a binds m x=m x
 |[],_,_=>rfl
 | (n,v)::r,m,h=>by
  unfold bindC;rw[gK λw b=>h w (S0 _ b)];split
  .rfl
  .have:x≠n:=by rintro rfl;exact h v u8
   simp[this]
theorem gL{a:TN}{x:Str}{v:Value}:∀{P:SA}{b:SO}{i:Nat}{m:Sx},P.Nodup->P[i]?=some x->b[i]?=some v->a x=some .local->
  bindL a (P.zip b) m x=some v
 |[],_,_,_,_,h,_,_=>by simp at h
 |_::_,[],_,_,_,_,h,_=>by simp at h
 |p::P,w::b,0,m,f,d,c,e=>by simp at d c;subst d;subst c;show bindL a ((p,w)::P.zip b) m p=_;unfold bindL;rw[gJ λv g=>(a0t.mp f).1 (a25 g).1,if_pos e];simp
 |p::P,w::b,i+1,m,f,d,c,e=>by unfold bindL;exact gL (i:=i) (a0t.mp f).2 (by simpa using d) (by simpa using c) e
theorem gM{a:TN}{x:Str}{v:Value}:∀{P:SA}{b:SO}{i:Nat}{m:Sx},P.Nodup->P[i]?=some x->b[i]?=some v->a x≠some .local->
  bindC a (P.zip b) m x=some v
 |[],_,_,_,_,h,_,_=>by simp at h
 |_::_,[],_,_,_,_,h,_=>by simp at h
 |p::P,w::b,0,m,f,d,c,e=>by simp at d c;subst d;subst c;show bindC a ((p,w)::P.zip b) m p=_;unfold bindC;rw[gK λv g=>(a0t.mp f).1 (a25 g).1,if_neg e];simp
 |p::P,w::b,i+1,m,f,d,c,e=>by unfold bindC;exact gM (i:=i) (a0t.mp f).2 (by simpa using d) (by simpa using c) e
def start(N:SA)(vs:SR):St:=vs.map some++List.replicate (N.length-vs.length) none
def r8(CX:CXT)(P:SV)(w:S_)(K:SK)(h:Sx)(d:Heap)(N:SA)(c:Str)(a:Scope)(f:Addr)(cd:Value)(A:Tf)(b:List Env)(s:SE)(H:Hp)(E:XK):Cx where
 prog:=P
 w:=w
 K:=K
 mg:=h
 base:=d
 A:=A.deeper (envOfC c a s.heap.objs.size f cd)
 N:=N
 s₀:=s
 H₀:=H
 env:=envOfC c a s.heap.objs.size f cd
 outer:=b
 stack:=envOfC c a s.heap.objs.size f cd::b
 ex:=[]
 calm:=true
 fn:=λ_=>true
 pn:=[]
 xe:=λe i=>wpAny (model P w) (A.deeper (envOfC c a s.heap.objs.size f cd)) (leaving (envOfC c a s.heap.objs.size f cd) e) (λ_ g=>CX b H s E e g) (λj g=>CX b H s E j g) i
def oJ{a:Scope}{n:Nat}{x:Str}(h:a.names.lookup x=some .cell):∃c,(cellsFrom n a.names []).lookup x=some c:=by have q:=a28 a.names n [] (.inl h);exact a0G.mp q
def ur{CX:CXT}{P:SV}{w:S_}{K:SK}{I:Sx}{m:Heap}{N C:SA}{j:Str}{d:Scope}{f:Addr}{cd:Value}{A:Tf}{g:List Env}{s M:SE}{H:Hp}{E:XK}{us:SO}{vs:SR}
  (S:zl N C d) (R:A.handled=none) (o:BM P w K I m A g s H) (X:vs.length=C.length) (r:Vals vs us)
  (x:InCallC s s.heap.objs.size (bindL (envOfC j d s.heap.objs.size f cd).kindOf (C.zip us) λ_=>none) (cellsFrom (s.heap.objs.size+1) d.names []) (bindC (envOfC j d s.heap.objs.size f cd).kindOf (C.zip us) λ_=>none) M):
  Inv (r8 CX P w K I m N j d f cd A g s H E) [] (start N vs) H M:=by
 have O:=by have:=a0D List.length S.pre;rw[a1Z]at this;omega
 obtain⟨G,U,rfl,J⟩:=x.done;have t:∀b:Addr,b∉(r8 CX P w K I m N j d f cd A g s H E).ex:=λb z=>absurd (show b∈([]:List Addr)from z) (by simp);refine⟨⟨o.mod,S.kind,rfl,rfl,S5 _,λy z c G l=>?_,λy B=>?_,λy c _ h=>?_,λ_=>R,Around.frames_deeper o.frames,.inr ⟨rfl,rfl⟩,λb z=>absurd z (t b),o.bs,o.bsz,λb _ _=>t b,λb z=>absurd z (t b),o.oA,o.frf⟩,
  rfl,o.bare,Un.kept J,⟨_,x.toInCall.ns,λi y v G l W=>?_⟩,λy c h=>⟨_,x.cell y c h⟩,o.hok.fresh (S5 _),λy c h=>?_,λp hp=>absurd (show p∈([]:List (Addr×Obj))from hp) (by simp),o.hok.kept J,?_⟩
 .exact name_of_addr x.apart (a1y G) (a1y l)
 .have B:=B;rcases B with B|B
  .exact oJ B
  .exact absurd rfl (S.NO _ (a1y B))
 .exact a19 (x.above y c (a1y h))
 .have F:i<vs.length:=by
   unfold start at l;by_cases F:i<vs.length
   .exact F
   .rw[a0h (by grind)]at l;rw[a1z]at l;split at l<;>cases l
  have T:vs[i]?=some v:=by
   unfold start at l;rw[a0o (by grind),a0e]at l;cases e:vs[i]? with
   |none=>rw[e]at l;cases l
   |some a=>rw[e]at l;cases l;rfl
  obtain⟨u,L,Q⟩:=r.get T;have hp:C[i]?=some y:=by rw[<- S.pre,List.getElem?_take_of_lt (by omega)];exact G
  have D:C.Nodup:=by rw[<- S.pre];exact S.nd.sublist (List.take_sublist _ _)
  refine⟨u,Q,?_⟩;rcases S.par y (a0Q hp)with k|k
  .exact .inl ⟨k,gL D hp L k⟩
  .obtain⟨c,e⟩:=oJ k;refine .inr ⟨.inl k,c,e,?_⟩;have q:=x.cell y c e;rw[gM D hp L (by show d.names.lookup y≠_;rw[k];decide)]at q;exact q
 .exact o.hok.fresh (a19 (x.above y c (a1y h)))
 .unfold start;show _=N.length;rw[S4,f8,a1n];omega
def OG{CX:CXT}{P:SV}{w:S_}{K:SK}{L:Sx}{h:Heap}{k:Nat}{f:Addr}{z d:Str}{i:Arguments}{j:Ts}{a:Scope}{Y kV F pm g ct oc:Value}{an od:Tx}
  {W:Tt}{N M:SA}{sp:Sp}(lk:K.lookup f=some ⟨oc,od,.func (PySem.W.fnOf z d i j a Y kV F pm an g ct),W⟩) (T:PySem.W.codeIn K g d=true) (S:zl N M a)
  (len:∀l H Q E,sp l H Q E->l.length=M.length)
  (tW:∀(A:Tf)(c:List Env)(s:SE)(H:Hp)(l:SR)(Q:VK)(E:XK),vF k (A.deeper (envOfC d a s.heap.objs.size f g))->sp l H Q E->
   ∃t,PSs (r8 CX P w K L h N d a f g A c s H E) j t/\t { nx:=λ_ p=>Q .non p,rt:=Q } (start N l) H):
  yz P w K L h CX (k+1) f (PySem.W.fnOf z d i j a Y kV F pm an g ct) M sp:=by
 refine⟨len,λA c s H args us l Q E R G hb r hsp=>?_⟩;have hl:=len _ _ _ _ hsp;have KX:=G.mod.kin.keeps λb o e=>(G.bs b o e).1;have X:=G.mod.nolimit.keeps λb o e=>(G.bs b o e).1;have B:∀y∈M.zip us,a.names.lookup y.1=some .local\/(a.names.lookup y.1=some .cell/\((cellsFrom (s.heap.objs.size+1) a.names []).lookup y.1).isSome=true):=λ⟨n,v⟩ hy=>by
  rcases S.par n (a25 hy).1 with q|q
  .exact .inl q
  .exact .inr ⟨q,a28 _ _ _ (.inl q)⟩
 refine codeAny_call_function R.depth (KX _ _ lk) rfl S.co S.gen rfl (PySem.W.codeRec_of KX T) (hb _ _ _ _ ?_);refine wpAny_newFunctionEnv_cells S.kind B λenv he Z x=>?_;subst he;refine⟨X.keeps x.toInCall.keep,codeAny_func ?_⟩;obtain⟨t,ht,hq⟩:=tW A c s H l Q E (R.deeper _) hsp;have I:Inv (r8 CX P w K L h N d a f g A c s H E) [] (start N l) H Z:=ur S R.hd G hl r x;refine a0O (ht [] Z (start N l) H _ I hq) (λfl O C=>?_) λe O C=>C;have D:∀{m:St}{p:Hp}{v:V}{u:Value},Inv (r8 CX P w K L h N d a f g A c s H E) [] m p O->RelV v u->Q v p->CE c P w H s Q u O:=
  λ{m p v u} J U q=>⟨v,p,J.os,J.bare,J.base,J.hok,U,q⟩
 cases fl with
 |ret u=>obtain⟨v,m,p,J,U,q⟩:=C;exact D J U q
 |next=>obtain⟨m,p,J,q⟩:=C;exact D (v:=V.non) J rfl q
 |brk=>obtain⟨_,_,_,q⟩:=C;exact False.elim q
 |cont=>obtain⟨_,_,_,q⟩:=C;exact False.elim q
section
variable {X:Cx}{x:Str}{p pos:Pos}{e:SN}{es:SG}{t:TA}{id T:String}{r:List V->Hp->VK->Prop}
def tCB(r:List V->Hp->VK->Prop)(t:TA):TE:=λc H Q=>t c H λa b=>r a b Q
def oK(l:Qb X (.builtin id) r)(i:Gl X x)(g:X.mg x=none)(o:bootBuiltins x=some (.builtin id))(q:PA X (e::es) t)(v:x≠"__name__":=by decide)(b:(x==("__debug__":Str))=false:=by decide)
  (he:starEach (e::es) X.env=(false,eval e X.env)::starEach es X.env:=by rfl) (hpl:(backTo pos (starEach es X.env)).any (·.1)=false:=by rfl):PE X (.Call (.Name x p) (e::es) [] pos) (tCB r t):=by
 intro a s c H Q I h;exact a01 (aF I i g o (PyProof.Rows.callWith_builtin1 (thn (q pos a s c H _ I h) λd m ⟨j,u,w,f,n⟩=>l a m c u j d Q w f n) he hpl) v b)
def uu(l:Qb X (.type T) r)(i:Gl X x)(g:X.mg x=none)(o:bootBuiltins x=some (.type T))(q:PA X (e::es) t)(v:x≠"__name__":=by decide)(b:(x==("__debug__":Str))=false:=by decide)
  (he:starEach (e::es) X.env=(false,eval e X.env)::starEach es X.env:=by rfl) (hpl:(backTo pos (starEach es X.env)).any (·.1)=false:=by rfl):PE X (.Call (.Name x p) (e::es) [] pos) (tCB r t):=by
 intro a s c H Q I h;exact a01 (aF I i g o (a1k (thn (q pos a s c H _ I h) λd m ⟨j,u,w,f,n⟩=>l a m c u j d Q w f n) he hpl) v b)
end
end L2
namespace HT
open PySem PyProof.Rows
section
def sIx(n d:Nat):Option Int->Nat
 |none=>d
 |some v=>if v<0 then(v+(n:Int)).toNat else min v.toNat n
end
end HT
namespace L2
open PySem PySem.Spec PyProof.Rows
abbrev TO:=St->Hp->(Option Int->Hp->Prop)->Prop
def PO(X:Cx)(e:TQ)(t:TO):Prop:=
 ∀(a:Sw)(s:SE)(b:St)(H:Hp)(Q:Option Int->Hp->Prop),Inv X a b H s->t b H Q->
  wpAny (a32 X) X.A (evalPart e X.env) (λu d=>∃o c,Inv X a b c d/\IsPart u o/\Q o c) X.xe s
def FT:TO:=λ_ H Q=>Q none H
def OH(t:TE):TO:=λb H Q=>t b H λx a=>∃i,x=.int i/\Q (some i) a
section
variable {X:Cx}{e:SN}{te:TE}{lo hi:TQ}{tl th:TO}{pos p2:Pos}
def FU:PO X none FT:=by intro a s b H Q I h;exact S8 ⟨none,H,I,.none,h⟩
def FV(h:PE X e te):PO X (some e) (OH te):=by intro a s j H Q I b;refine thn (h a s j H _ I b) λu l ⟨x,f,g,d,c⟩=>?_;obtain⟨i,rfl,q⟩:=c;obtain⟨t,rfl⟩:=d;exact⟨some i,f,g,.int i t,q⟩
def SlR(X:Cx)(r:V->Option Int->Option Int->Hp->VK->Prop):Prop:=
 ∀(a:Sw)(s:SE)(b:St)(H:Hp)(x:V)(v c f:Value)(lo hi:Tz) (d:Addr) (Q:VK),Inv X a b H s->RelV x v->s.heap.IsSliceOf d c f .none->IsPart c lo->IsPart f hi->r x lo hi H Q->
  ∃T id,typeLookup (.type T) "__getitem__"=pure (some (.builtin id))/\s.TypeIs v T/\wpAny (a32 X) X.A (getItem v (.ref d)) (EP X a b Q) X.xe s
def SlR.or(h:SlR X r)(h':SlR X r'):SlR X (λx lo hi H Q=>r x lo hi H Q\/r' x lo hi H Q):=by
 intro a s c H x v d l lo hi g Q I j f b i q;rcases q with q|q
 .exact h a s c H x v d l lo hi g Q I j f b i q
 .exact h' a s c H x v d l lo hi g Q I j f b i q
def tSl(r:V->Option Int->Option Int->Hp->VK->Prop)(te:TE)(tl th:TO):TE:=λa H Q=>te a H λx c=>tl a c λl b=>th a b λu d=>r x l u d Q
def B8(A:SlR X r)(he:PE X e te)(K:PO X lo tl)(B:PO X hi th):PE X (.Subscript e (.Slice lo hi none p2) pos) (tSl r te tl th):=by intro a s d H Q I h;refine Subscript_ (thn (he a s d H _ I h) λv C ⟨x,L,j,o,D⟩=>?_);refine wpAny_Slice (thn (K a C d L _ j D) λf M ⟨l,t,E,F,n⟩=>thn (B a M d t _ E n) λg c ⟨u,i,y,J,m⟩=>?_);refine S8 ?_;have w:Inv X a d i { c with heap:=c.heap.push { cls:=.type "slice",data:=.fields #[f,g,.none] } }:=y.kept λb ob q=>S6 _ q;obtain⟨T,id,z,G,p⟩:=A a { c with heap:=c.heap.push { cls:=.type "slice",data:=.fields #[f,g,.none] } } d i x v f g l u c.heap.objs.size Q w o (a3J ..) F J m;exact tail_any G z p rfl
def Eh(xs:SR)(lo hi:Tz):List V:=(xs.drop (HT.sIx xs.length 0 lo)).take (HT.sIx xs.length xs.length hi-HT.sIx xs.length 0 lo)
def mI(xs:SR)(lo hi:Tz):(Eh xs lo hi).length<=xs.length:=by unfold Eh;rw[a1Z,List.length_drop];omega
end
def ixN(n:Nat)(i:Int):Option Nat:=if 0<=i then(if i<n then some i.toNat else none)else if -(n:Int)<=i then some (i+n).toNat else none
def atI{a:Type}(xs:List a)(i:Int):Option a:=(ixN xs.length i).bind λj=>xs[j]?
def FW(h:ixN n i=some j):seqIndex? i n=some j/\j<n/\-(n:Int)<=i/\i<n:=by
 unfold ixN at h;by_cases b:0<=i
 .rw[if_pos b]at h;by_cases a:i<n
  .rw[if_pos a]at h;have e:=a0H h;exact⟨by rw[seqIndex_of b a,e],by omega,by omega,a⟩
  .rw[if_neg a]at h;cases h
 .rw[if_neg b]at h;by_cases a:-n<=i
  .rw[if_pos a]at h;have e:=a0H h;exact⟨by rw[seqIndex_neg (by omega) a,e],by omega,a,by omega⟩
  .rw[if_neg a]at h;cases h
def mJ{a:Type}{xs:List a}{v:a}(h:atI xs i=some v):∃j,seqIndex? i xs.length=some j/\xs[j]?=some v/\j<xs.length/\-(xs.length:Int)<=i/\i<xs.length:=by
 unfold atI at h;cases e:ixN xs.length i with
 |none=>rw[e]at h;cases h
 |some j=>rw[e]at h;obtain⟨f,d,c,b⟩:=FW e;exact⟨j,f,h,d,c,b⟩
def eP(b:SN):Prop:=∀o i,subscripted b false o i=operate [o,i] (getItem o i)
def IxR(X:Cx)(r:R2):Prop:=
 ∀(b slice:SN)(a:Sw)(s:SE)(c:St)(H:Hp)(x y:V)(v u:Value) (Q:VK),Inv X a c H s->RelV x v->RelV y u->r x y H Q->
  subscripted slice false v u=operate [v,u] (getItem v u)->wpAny (a32 X) X.A (subscriptTail b slice v u) (EP X a c Q) X.xe s
def MtR(X:Cx)(id:String)(r:V->List V->Hp->VK->Prop):Prop:=
 ∀(a:Sw)(s:SE)(d:St)(H:Hp)(x:V)(c:SR)(v:Value) (b:SO) (Q:VK),Inv X a d H s->RelV x v->Vals c b->r x c H Q->
  wpAny (a32 X) X.A (call (.builtin id) (v::b)) (EP X a d Q) X.xe s
section
variable {X:Cx}{a b:SN}{ta tb:TE}{pos:Pos}
def IxR.or(h:IxR X r)(h':IxR X r'):IxR X (λx y H Q=>r x y H Q\/r' x y H Q):=by
 intro c slice d s i H x y v u Q I g e q f;rcases q with q|q
 .exact h c slice d s i H x y v u Q I g e q f
 .exact h' c slice d s i H x y v u Q I g e q f
def IX(f:IxR X r)(n:PE X a ta)(g:PE X b tb)(l:eP b):PE X (.Subscript a b pos) (tOp r ta tb):=by intro c s d H Q I h;exact Subscript_ (Oy n g I h λv u o x y e i m j q=>f a b c o d e x y v u Q i m j q (l _ _))
def P_(K:SK):R2:=λx y H Q=>∃p c i v,x=.ref p/\y=.int i/\SqL K H p c/\atI c i=some v/\Q v H
def Ra(K:SK):R2:=λx y H Q=>∃p c i v,x=.ref p/\y=.int i/\SqT K H p c/\atI c i=some v/\Q v H
def Rc:R2:=λx y H Q=>∃z i c,x=.str z/\y=.int i/\z.length<=sizeLine/\atI z.cps.toList i=some c/\Q (.str ⟨#[c]⟩) H
def FX:IxR X (P_ X.K):=by
 intro g slice c s A H x y v u Q I L J h C;obtain⟨p,O,i,z,rfl,rfl,G,N,q⟩:=h;cases L;obtain⟨t,rfl⟩:=J;obtain⟨l,r,n,hz⟩:=I.list G;obtain⟨j,e,F,P,D,K⟩:=mJ N;obtain⟨w,o,m⟩:=r.get F;have M:=r.length;have R:=oI;have d:EP X c A Q w s:=⟨z,H,I,m,q⟩;by_cases B:0<=i
 .have f:=by rw[seqIndex_of B K]at e;exact a0H e
  exact item_listR n.isList B (by omega) (by grind) d C
 .have f:(i+l.toArray.size).toNat=j:=by rw[seqIndex_neg (by omega) D]at e;rw[a0f,<- M];exact a0H e
  exact a29 n.isList.typeIs slot_list_getitem.lookup
   (wpAny_getItem_list_neg n.isList (by omega) (by grind) (by omega) (by grind) ⟨rfl,d⟩) C
def IY:IxR X (Ra X.K):=by
 intro e slice c s g H x y v u Q I F D h E;obtain⟨p,L,i,z,rfl,rfl,A,J,q⟩:=h;cases F;obtain⟨t,rfl⟩:=D;obtain⟨B,r,l,hz⟩:=I.tuple A;obtain⟨j,C,o,N,K,M⟩:=mJ J;obtain⟨w,m,f⟩:=r.get o;have G:=r.length;have O:=oI;have d:EP X c g Q w s:=⟨z,H,I,f,q⟩;exact a29 l.typeIs slot_tuple_getitem.lookup
  (getItem_tuple (j:=j) l (by omega) (by omega) (by grind) (by grind) ⟨rfl,d⟩) E
def oM:IxR X Rc:=by
 intro d slice e s C H x y v u Q I r n h o;obtain⟨z,i,c,rfl,rfl,hz,A,q⟩:=h;obtain⟨t,rfl⟩:=r;obtain⟨E,rfl⟩:=n;obtain⟨j,f,m,D,g,p⟩:=mJ A;have w:z.cps.toList.length=z.length:=by simp[Str.length]
 rw[w]at f g p;have F:=oI;exact tail_any (typeIs_str s z t) slot_str_getitem.lookup (getItem_str (by
  have B:decide (i < -(2 ^ 63:Int))=false:=T5 (by omega);have l:decide (i ≥ 2 ^ 63)=false:=T5 (by omega);rw[B,l,Bool.or_false]) (by grind) ⟨.str ⟨#[c]⟩,H,I.tok _,⟨_,rfl⟩,q⟩) o
def rIx(K:SK):R2:=λx y H Q=>P_ K x y H Q\/Ra K x y H Q\/Rc x y H Q
def Ei:IxR X (rIx X.K):=FX.or (IY.or oM)
def gN(lo hi:Tz)(n:Nat):(sliceBounds lo hi none n).1=((HT.sIx n 0 lo:Nat):Int)/\(sliceBounds lo hi none n).2.1=((HT.sIx n n hi:Nat):Int)/\(sliceBounds lo hi none n).2.2=1:=by
 refine⟨?_,?_,rfl⟩
 .cases lo with
  |none=>simp[sliceBounds,HT.sIx]
  |some i=>
   simp only[sliceBounds,HT.sIx,Option.getD_none,if_true];by_cases h:i<0
   .simp only[h,if_true]<;>omega
   .simp only[h,if_false]<;>omega
 .cases hi with
  |none=>simp[sliceBounds,HT.sIx]
  |some i=>
   simp only[sliceBounds,HT.sIx,Option.getD_none,if_true];by_cases h:i<0
   .simp only[h,if_true]<;>omega
   .simp only[h,if_false]<;>omega
def eQ(its:SO)(lo hi:Tz):slicePick its.toArray lo hi none=((its.drop (HT.sIx its.length 0 lo)).take (HT.sIx its.length its.length hi-HT.sIx its.length 0 lo)).toArray:=by obtain⟨e,d,c⟩:=gN lo hi its.toArray.size;unfold slicePick;rw[e,d,c];simp only[sliceRange_one,pick_run]<;>rfl
def RX(K:SK):V->Option Int->Option Int->Hp->VK->Prop:=λx e d H Q=>∃a c,x=.ref a/\SqL K H a c/\∀p,H p=none->Q (.ref p) (upd H p (.lst (Eh c e d)))
def FY:SlR X (RX X.K):=by intro g s w H x v u z e f y Q I t n m p h;obtain⟨a,c,rfl,j,q⟩:=h;cases t;obtain⟨l,r,i,hz⟩:=I.list j;have d:=r.length;refine⟨"list",_,slot_list_getitem.lookup,i.isList.typeIs,?_⟩;refine a2M i.isList n m p .none (by simp) ?_ (by grind);rw[eQ,<- d];refine⟨.ref s.heap.objs.size,_,I.laid (λb ob q=>S6 _ q) (S5 _) ?_,rfl,q _ (I.hok.fresh (S5 _))⟩;exact⟨T9 (mI c e f) hz,_,0,(r.drop (HT.sIx c.length 0 e)).take (HT.sIx c.length c.length f-HT.sIx c.length 0 e),a0k _ rfl⟩
def UO:V->Bool
 |.non=>true
 |.bl _=>true
 |.int _=>true
 |.str _=>true
 |_=>false
def eqV:V->V->Bool
 |.non,.non=>true
 |.bl a,.bl b=>a==b
 |.bl a,.int b=>(if a then 1 else 0)==b
 |.int a,.bl b=>a==(if b then 1 else 0)
 |.int a,.int b=>a==b
 |.str a,.str b=>a==b
 |_,_=>false
def Ej(e:RelV y u)(c:RelV x v)(g:UO y=true)(f:UO x=true):SeqAt.EqAt A s u v (eqV y x):=by
 cases y with
 |non=>
  cases e;cases x with
  |non=>cases c;exact SeqAt.EqAt.same _
  |bl b=>cases c;exact SeqAt.EqAt.none_bool b
  |int b=>obtain⟨t,rfl⟩:=c;exact SeqAt.EqAt.none_int b t
  |str b=>obtain⟨t,rfl⟩:=c;exact SeqAt.EqAt.none_str b t
  |_=>exact absurd f a0b
 |bl a=>
  cases e;cases x with
  |non=>cases c;exact SeqAt.EqAt.bool_none a
  |bl b=>cases c;exact SeqAt.EqAt.bool_bool a b
  |int b=>obtain⟨t,rfl⟩:=c;exact SeqAt.EqAt.bool_int a b t
  |str b=>obtain⟨t,rfl⟩:=c;exact SeqAt.EqAt.bool_str a b t
  |_=>exact absurd f a0b
 |int a=>
  obtain⟨d,rfl⟩:=e;cases x with
  |non=>cases c;exact SeqAt.EqAt.int_none a d
  |bl b=>cases c;exact SeqAt.EqAt.int_bool a d b
  |int b=>obtain⟨t,rfl⟩:=c;exact SeqAt.EqAt.int_int a d b t
  |str b=>obtain⟨t,rfl⟩:=c;exact a3F a d b t
  |_=>exact absurd f a0b
 |str a=>
  obtain⟨d,rfl⟩:=e;cases x with
  |non=>cases c;exact SeqAt.EqAt.str_none a d
  |bl b=>cases c;exact SeqAt.EqAt.str_bool a d b
  |int b=>obtain⟨t,rfl⟩:=c;exact a3G a d b t
  |str b=>obtain⟨t,rfl⟩:=c;exact SeqAt.EqAt.str_str a d b t
  |_=>exact absurd f a0b
 |_=>exact absurd g a0b
def eqU(x:V)(u:Value):Bool:=match u with
 |.none=>eqV .non x
 |.bool b=>eqV (.bl b) x
 |.int i _=>eqV (.int i) x
 |.str z _=>eqV (.str z) x
 |_=>false
def Ek(r:RelV y u)(f:UO y=true):eqU x u=eqV y x:=by
 cases y with
 |non=>cases r;rfl
 |bl b=>cases r;rfl
 |int i=>obtain⟨t,rfl⟩:=r;rfl
 |str z=>obtain⟨t,rfl⟩:=r;rfl
 |_=>exact absurd f a0b
theorem aJ{x:V}:∀{c:SR}{d:SO},Vals c d->c.all UO=true->d.any (eqU x)=c.any λy=>eqV y x
 |_,_,.nil,_=>rfl
 |y::c,u::d,.cons r t,f=>by rw[a2t,a2N]at f;rw[a04,a04,Ek r f.1,aJ t f.2]
theorem VJ{A:Tf}{s:SE}{x:V}{v:Value}(g:RelV x v)(h:UO x=true):∀{e:SR}{d:SO},Vals e d->e.all UO=true->∀u∈d,SeqAt.EqAt A s u v (eqU x u)
 |_,_,.nil,_=>λu c=>by cases c
 |y::e,u::d,.cons r t,f=>λi c=>by
  rw[a2t,a2N]at f;rcases T1.mp c with rfl|c
  .rw[Ek r f.1];exact Ej r g f.1 h
  .exact VJ g h t f.2 i c
def inV(x:V)(xs:SR):Bool:=xs.any λy=>eqV y x
def rIn(K:SK)(d:Bool):R2:=λx y H Q=>∃p c,y=.ref p/\(SqL K H p c\/SqT K H p c)/\UO x=true/\c.all UO=true/\Q (.bl (if d then !inV x c else inV x c)) H
def uv:OpR X (compareOp .In) (rIn X.K false):=by
 intro g s m H x y v u Q I i l h;obtain⟨p,n,rfl,d,j,fs,q⟩:=h;cases l;rcases d with d|d
 .obtain⟨c,r,f,hz⟩:=I.list d;refine SeqAt.in_listAt (eqU x) f.isList (λw e=>VJ i j r fs w (by grind)) ⟨.bl _,H,I,rfl,?_⟩;rw[show c.toArray.any (eqU x)=c.any (eqU x) by simp,aJ r fs];exact q
 .obtain⟨c,r,f,hz⟩:=I.tuple d;refine SeqAt.in_tupleAt (eqU x) f (λw e=>VJ i j r fs w (by grind)) ⟨.bl _,H,I,rfl,?_⟩;rw[show c.toArray.any (eqU x)=c.any (eqU x) by simp,aJ r fs];exact q
def gO:OpR X (compareOp .NotIn) (rIn X.K true):=by
 intro g s m H x y v u Q I i l h;obtain⟨p,n,rfl,d,j,fs,q⟩:=h;cases l;rcases d with d|d
 .obtain⟨c,r,f,hz⟩:=I.list d;refine SeqAt.notIn_listAt (eqU x) f.isList (λw e=>VJ i j r fs w (by grind)) ⟨.bl _,H,I,rfl,?_⟩;rw[show c.toArray.any (eqU x)=c.any (eqU x) by simp,aJ r fs];exact q
 .obtain⟨c,r,f,hz⟩:=I.tuple d;refine SeqAt.notIn_tupleAt (eqU x) f (λw e=>VJ i j r fs w (by grind)) ⟨.bl _,H,I,rfl,?_⟩;rw[show c.toArray.any (eqU x)=c.any (eqU x) by simp,aJ r fs];exact q
def gP:OpR X (compareOp .NotIn) (λx y H Q=>∃i j,x=.str i/\y=.str j/\Q (.bl (!(!(Builtin.Str.occurrences j i 0 j.length 1).isEmpty))) H):=by intro c s g H x y v u Q I e d h;obtain⟨i,j,rfl,rfl,q⟩:=h;obtain⟨t,rfl⟩:=e;obtain⟨f,rfl⟩:=d;exact notIn_str ⟨.bl _,H,I,rfl,q⟩
def Qb.or(h:Qb X f r)(h':Qb X f r'):Qb X f (λd H Q=>r d H Q\/r' d H Q):=by
 intro c s i H d e Q I g q;rcases q with q|q
 .exact h c s i H d e Q I g q
 .exact h' c s i H d e Q I g q
def gQ:Qb X (.type "list") (λC H Q=>∃p i,C=[.ref p]/\(SqL X.K H p i\/SqT X.K H p i)/\∀l,H l=none->Q (.ref l) (upd H l (.lst i))):=by
 intro v s D H C F Q I r h;obtain⟨p,i,rfl,t,q⟩:=h;obtain⟨u,rfl,E⟩:=vals1 r;cases E;have j:∀(c:SO),Vals i c->i.length<=sizeLine->∀(d:Heap)(g:Nat),(∀b B,s.heap.get? b=some B->d.get? b=some B)->
   d.get? s.heap.objs.size=some { cls:=.type "list",dict:=none,data:=.seq c.toArray g,slots:=#[] }->EP X v D Q (.ref s.heap.objs.size) { s with heap:=d }:=λc f hz d g m e=>
  ⟨.ref s.heap.objs.size,_,I.laid m (S5 _) (show qr X.prog X.w _ d _ (.lst i)from⟨hz,c,g,f,e⟩),rfl,q _ (I.hok.fresh (S5 _))⟩
 rcases t with t|t
 .obtain⟨c,f,A,hz⟩:=I.list t;have w:=f.length;obtain⟨o,y,x,n,z⟩:=A.isList;exact call_list_seq p (.inl rfl) y x z (λd g m e=>j c f hz d g m e) (by grind)
 .obtain⟨c,f,A,hz⟩:=I.tuple t;have w:=f.length;obtain⟨o,y,x,n,z⟩:=A;exact call_list_seq p (.inr rfl) y x z (λd g m e=>j c f hz d g m e) (by grind)
def tyV(K:SK)(T:String)(x:V)(H:Hp):Prop:=match x with
 |.str _=>T="str"
 |.int _=>T="int"
 |.ref p=>(T="list" /\ ∃d,SqL K H p d)\/(T="tuple" /\ ∃o,K.lookup p=some o/\o.cls=.type "tuple"/\o.dict=none)\/
   (T="dict"/\((∃c,H p=some (.dK c))\/∃c,H p=some (.dT c)))\/(T="set" /\ ∃S n,H p=some (.set S n))
 |_=>False
def El(I:Inv X pins σ H s)(r:RelV x v)(g:tyV X.K T x H):
  s.TypeIs v T/\∀a,v=.ref a->∃ob,s.heap.get? a=some ob/\ob.dict=none:=by
 cases x with
 |str z=>obtain⟨t,rfl⟩:=r;cases g;exact⟨typeIs_str s z t,λ_ e=>nomatch e⟩
 |int i=>obtain⟨t,rfl⟩:=r;cases g;exact⟨typeIs_int s i t,λ_ e=>nomatch e⟩
 |ref p=>
  cases r;rcases g with⟨rfl,y,u⟩|⟨rfl,o,d,q,l⟩|⟨rfl,d⟩|⟨rfl,S,n,d⟩
  .obtain⟨w,_,m,_⟩:=I.list u;refine⟨m.isList.typeIs,λa e=>?_⟩;cases e;obtain⟨o,n,e,c,l,_⟩:=m;exact⟨o,e,l⟩
  .refine⟨⟨o,I.kIn p o d,q⟩,λa e=>?_⟩;cases e;exact⟨o,I.kIn _ o d,l⟩
  .have z:∃o,s.heap.get? p=some o/\o.ExactDict:=by
    rcases d with⟨h,d⟩|⟨h,d⟩
    .obtain⟨_,_,_,_,o,_,_,e,f,_⟩:=I.hok p _ d;exact⟨o,e,f⟩
    .obtain⟨_,_,_,_,o,_,_,e,f,_⟩:=I.hok p _ d;exact⟨o,e,f⟩
   obtain⟨o,e,f⟩:=z;refine⟨⟨o,e,f.1⟩,λa j=>?_⟩;cases j;exact⟨o,e,f.2.1⟩
  .obtain⟨o,_,_,_,e,f,_⟩:=I.hok p _ d;refine⟨⟨o,e,f.1⟩,λa j=>?_⟩;cases j;exact⟨o,e,f.2.1⟩
 |_=>exact False.elim g
def RY(K:SK)(T:String)(r:V->List V->Hp->VK->Prop)(d:TE):TE:=λe H Q=>d e H λx c=>tyV K T x c/\r x [] c Q
def tBM(K:SK)(T:String)(r:V->List V->Hp->VK->Prop)(e:TE)(t:TA):TE:=λd H Q=>e d H λx c=>tyV K T x c/\t d c λf g=>r x f g Q
variable {o e:SN}{es:SG}{to:TE}{t:TA}{name:Str}{jK Qa:Pos}{T id:String}{r:V->List V->Hp->VK->Prop}
def IZ(m:PlainAttrs T)(d:Slot T name id)(f:typeOf (.builtin id)=pure (.type "method_descriptor"))(n:MtR X id r)(u:PE X o to)
  (p:attributeBase o name X.env (eval o X.env)=eval o X.env:=by rfl) (A:(jK.endLine==Qa.line)=true:=by rfl):PE X (.Call (.Attribute o name jK) [] [] Qa) (RY X.K T r to):=by
 intro c s i H Q I h;refine wpAny_Call_method0_late p A (thn (u c s i H _ I h) λv w ⟨x,B,j,g,l,y⟩=>?_);obtain⟨z,q⟩:=El j g l;exact⟨T,id,m,d,f,z,q,a1V rfl (PySem.evalArgs_none (n c w i B x [] v [] Q j g .nil y))⟩
def FZ(u:PlainAttrs T)(f:Slot T name id)(i:typeOf (.builtin id)=pure (.type "method_descriptor"))(w:MtR X id r)(C:PE X o to)(N:PA X (e::es) t)
  (A:attributeBase o name X.env (eval o X.env)=eval o X.env:=by rfl)
  (L:((backTo Qa (starEach (e::es) X.env)).all (λx=>!x.1)&&(backToKw Qa (keywordEach [] X.env)).all (λx=>x.1.isSome)
   && decide ((e::es).length+([]:List Keyword).length+(if([]:List Keyword).isEmpty then 0 else 1)<30))=true:=by rfl)
  (O:(jK.endLine==Qa.line)=true:=by rfl) (M:starEach (e::es) X.env=(false,eval e X.env)::starEach es X.env:=by rfl) (d:(backTo Qa (starEach es X.env)).any (·.1)=false:=by rfl):
  PE X (.Call (.Attribute o name jK) (e::es) [] Qa) (tBM X.K T r to t):=by
 intro c s g H Q I h;refine wpAny_Call_method_late A L O rfl (thn (C c s g H _ I h) λv D ⟨x,P,m,l,p,E⟩=>?_);obtain⟨K,B⟩:=El m l p;refine⟨T,id,u,f,i,K,B,?_⟩;have j:=N Qa c D g P _ m E;rw[M]at j ⊢;refine a1V (by grind) (a3s ?_);exact thn j λn J ⟨y,z,G,F,q⟩=>w c J g z x y v n Q G l F q
end
def MtM(X:Cx)(id:String)(r:V->List V->Hp->VK->Prop):Prop:=
 ∀(a:Sw)(s:SE)(d:St)(H:Hp)(x:V)(c:SR)(v:Value) (b:SO) (Q:VK),Inv X a d H s->RelV x v->Vals c b->r x c H Q->
  wpAny (a32 X) X.A (call (.builtin id) (v::b)) (EP X a d Q) X.xe s
def Vals.one:∀{x:V}{a:SO},Vals [x] a->∃u,a=[u]/\RelV x u
 |_,_,.cons r .nil=>⟨_,rfl,r⟩
def Vals.zero:∀{a:SO},Vals [] a->a=[]
 |_,.nil=>rfl
def Vals.dropLast(h:Vals xs us):Vals xs.dropLast us.dropLast:=by
 induction h with
 |nil=>exact .nil
 |cons r t a=>
  cases t with
  |nil=>exact .nil
  |cons q b=>exact .cons r a
theorem Vals.rep{xs:SR}{us:SO}(h:Vals xs us):∀k:Nat,Vals (List.replicate k xs).flatten (List.replicate k us).flatten
 |0=>.nil
 |k+1=>by exact Vals.append h (Vals.rep h k)
def r9{d:Type}(l:List d):l.eraseIdx (l.length-1)=l.dropLast:=by simp
theorem foldl_rep(its:SO):∀(k:Nat)(a:SO),
  List.foldl (λd c=>d++c) a.toArray (List.replicate k its.toArray)=(a++(List.replicate k its).flatten).toArray
 |0,a=>by simp
 |k+1,a=>by
  have e:a.toArray++its.toArray=(a++its).toArray:=by simp
  have b:(a++its)++(List.replicate k its).flatten=a++(List.replicate (k+1) its).flatten:=by rw[a1a,a0S,W1]
  rw[<- b,<- foldl_rep its k (a++its),<- e,a1a,a08]
def Inv.OI{its its':SO}{n:Nat}{f:Array Value->Array Value}{t':Nat}(I:Inv X pins σ H s)(b:H l=some (.lst xs))
  (e:s.heap.get? l=some { cls:=.type "list",data:=.seq its.toArray n }) (hf:f its.toArray=its'.toArray) (d:Vals ys its') (hz:ys.length<=sizeLine):
  Inv X pins σ (upd H l (.lst ys)) { s with heap:=s.heap.update l (Obj.mapSeq f),toks:=t' }:=by
 have q:=PySem.IsL.update e f;rw[hf]at q;exact I.write (x:=l) (e:=l) (by rw[b];exact trivial) (.inl rfl) (λg u c a=>(a0w s.heap (Obj.mapSeq f) (Ne.symm c)).trans a) ⟨_,q⟩ ⟨hz,its',_,d,q⟩
def Inv.OJ(I:Inv X pins σ H s)(a:Vals ys its)(hz:ys.length<=sizeLine):
  Inv X pins σ (upd H s.heap.objs.size (.lst ys)) { s with heap:=s.heap.push { cls:=.type "list",data:=.seq its.toArray },toks:=t' }:=
 I.laid (λ_ _ q=>S6 _ q) (S5 _) ⟨hz,its,0,a,a0k _ rfl⟩
def Inv.fresh(I:Inv X pins σ H s):H s.heap.objs.size=none:=I.hok.fresh (S5 _)
def Inv.F0(I:Inv X pins σ H s)(b:H l=some (.lst xs)):xs.length<=sizeLine/\∃(a:SO)(n:Nat),Vals xs a/\xs.length=a.length/\s.heap.get? l=some { cls:=.type "list",data:=.seq a.toArray n }:=by obtain⟨z,a,n,r,e⟩:=I.hok l _ b;exact⟨z,a,n,r,r.length,e⟩
def oN(h:n<=sizeLine):Builtin.List.listTooLong n=false:=by exact T5 (by omega)
section
variable {X:Cx}
def F1:V->List V->Hp->VK->Prop:=λx b H Q=>∃l a y,x=.ref l/\b=[y]/\H l=some (.lst a)/\a.length<sizeLine/\Q .non (upd H l (.lst (a++[y])))
def aL:MtM X "list.append" F1:=by intro c s j H x o v i Q I g d h;obtain⟨l,m,y,rfl,rfl,b,hz,q⟩:=h;cases g;obtain⟨u,rfl,f⟩:=d.one;obtain⟨z,a,n,r,p,e⟩:=I.F0 b;refine a2F F.slot_list_append ⟨_,e,rfl⟩ F.entry_list_append (F.args_list_append_2 _ _) (PySem.list_append l a.toArray n u (by grind)) ⟨e,?_⟩;refine⟨.non,_,I.OI b e (by simp) (r.append (.cons f .nil)) ?_,rfl,q⟩;rw[S4,a0Z];omega
def F2:V->List V->Hp->VK->Prop:=λx d H Q=>∃l b c a,x=.ref l/\d=[.ref b]/\H l=some (.lst c)/\H b=some (.lst a)/\c.length+a.length<=sizeLine/\Q .non (upd H l (.lst (c++a)))
def uw:MtM X "list.extend" F2:=by
 intro i s C H x E v B Q I y o h;obtain⟨l,b,D,A,rfl,rfl,g,hB,hz,q⟩:=h;cases y;obtain⟨u,rfl,p⟩:=o.one;cases p;obtain⟨z,c,n,r,J,e⟩:=I.F0 g;obtain⟨G,a,w,t,m,j⟩:=I.F0 hB;have f:c.toArray.size+a.toArray.size<=sizeLine:=by rw[a0f,a0f];omega
 have d:¬(!c.toArray.isEmpty&&Builtin.List.listTooLong (c.toArray.size+a.toArray.size))=true:=by rw[oN f,a2n];exact a0b
 refine a2F F.slot_list_extend ⟨_,e,rfl⟩ F.entry_list_extend (F.args_list_extend_2 _ _)
  (AutoSeq1.list_extend_list_list_0 l c.toArray n b a.toArray w d (by omega) (by omega)) ⟨e,j,?_⟩
 refine⟨.non,_,I.OI g e (by simp) (r.append t) ?_,rfl,q⟩;rw[S4];omega
def RZ:V->List V->Hp->VK->Prop:=λx b H Q=>∃l a y,x=.ref l/\b=[]/\H l=some (.lst a)/\a[a.length-1]?=some y/\Q y (upd H l (.lst a.dropLast))
def I0:MtM X "list.pop" RZ:=by
 intro f s w H x B v t Q I o j h;obtain⟨l,A,y,rfl,rfl,d,g,q⟩:=h;cases o;have c:=j.zero;subst c;obtain⟨z,a,n,r,p,e⟩:=I.F0 d;obtain⟨u,i,m⟩:=r.get g;have b:=by show a.toArray[a.length-1]?=some u;rw[<- a12,<- p];exact i
 refine a2F F.slot_list_pop ⟨_,e,rfl⟩ F.entry_list_pop (F.args_list_pop_1 _) (MeetsSeq.list_pop_last l a.toArray n u b (by grind)) ⟨e,?_⟩;refine⟨y,_,I.OI d e ?_ r.dropLast ?_,m,q⟩
 .rw[a0f,List.eraseIdxIfInBounds_toArray,r9]
 .rw[a3t];omega
def Rg:R2:=λx y H Q=>∃l b c a,x=.ref l/\y=.ref b/\H l=some (.lst c)/\H b=some (.lst a)/\c.length+a.length<=sizeLine/\∀p,H p=none->Q (.ref p) (upd H p (.lst (c++a)))
def I_:OpR X (binaryOp .Add) Rg:=by
 intro d s w H x y v u Q I p o h;obtain⟨l,b,A,t,rfl,rfl,f,hB,hz,q⟩:=h;cases p;cases o;obtain⟨z,c,n,r,D,e⟩:=I.F0 f;obtain⟨B,a,C,m,j,g⟩:=I.F0 hB;refine PySem.P.add_list e g ?_ (by grind);have i:c.toArray++a.toArray=(c++a).toArray:=by simp
 rw[i];exact⟨.ref _,_,I.OJ (r.append m) (by grind),rfl,q _ I.fresh⟩
def Rh:R2:=λx y H Q=>∃l k a,x=.ref l/\y=.int k/\H l=some (.lst a)/\-(2 ^ 63)<=k/\k<2 ^ 63/\a.length*k.toNat<=sizeLine/\
 ∀p,H p=none->Q (.ref p) (upd H p (.lst (List.replicate k.toNat a).flatten))
def len_rep{a:Type}(xs:List a)(k:Nat):(List.replicate k xs).flatten.length=k*xs.length:=by simp
def La:OpR X (binaryOp .Mult) Rh:=by
 intro p s K H x y v u Q I G E h;obtain⟨l,k,L,rfl,rfl,w,D,B,hz,q⟩:=h;cases G;obtain⟨t,rfl⟩:=E;obtain⟨z,b,n,r,J,e⟩:=I.F0 w;have f:b.toArray.size*k.toNat<=sizeLine:=by rw[a0f,<- J];exact hz
 have d:¬b.toArray.size*k.toNat>(2 ^ 63-1) / 8:=by
  have:(sizeLine:Nat)<=(2 ^ 63-1) / 8:=by decide
  omega
 have i:¬(!Builtin.List.listFitsIndex k)=true:=by rw[fitsIndex_both D B];exact a0b
 have c:¬Builtin.List.listTooLong (b.toArray.size*k.toNat)=true:=by rw[oN f];exact a0b
 have g:List.foldl (λj o=>j++o) #[] (List.replicate (if b.toArray.isEmpty=true then 0 else k.toNat) b.toArray)=(List.replicate k.toNat b).flatten.toArray:=by
  have C:=λm=>by have:=foldl_rep b m [];rw[a1h]at this;exact this
  rw[C];cases b with
  |nil=>simp
  |cons a M=>rw[if_neg (by simp)]
 refine wpAny_binaryOp_repeat_ref (T:="list") (U:="int") (by decide) ⟨_,e,rfl⟩ (λA=>typeIs_int A k t) noFill_list_mul F.fills_int_mul F.slot_int_rmul repeat_list F.slot_int_index.lookup
  (a2F F.slot_int_rmul (typeIs_int s k t) F.entry_int_rmul (F.args_int_rmul_2 _ _) (int___rmul___int_list k t l b.toArray n)
   ⟨e,rfl,⟨_,e,rfl⟩,a2F F.slot_list_mul ⟨_,e,rfl⟩ F.entry_list_mul (F.args_list_mul_2 _ _) (AutoListH.list___mul___list_int_3 l b.toArray n k t i d c) ⟨e,?_⟩⟩)
 rw[g];exact⟨.ref _,_,I.OJ (t':=s.toks) (r.rep k.toNat) (by rw[len_rep,Nat.mul_comm];exact hz),rfl,q _ I.fresh⟩
end
section
variable {κ:Type}[DecidableEq κ]
def dz(kvs:List (κ×V))(k:κ):Option V:=(kvs.find? λa=>decide (a.1=k)).map (·.2)
def putK(kvs:List (κ×V))(k:κ)(v:V):List (κ×V):=
 if(kvs.any λa=>decide (a.1=k))=true then kvs.map (λa=>if a.1=k then(a.1,v)else a)else kvs++[(k,v)]
def U_{p:κ×V}{r:List (κ×V)}{k:κ}(e:p.1=k):dz (p::r) k=some p.2:=by simp[dz,List.find?_cons,e]
def aa{p:κ×V}{r:List (κ×V)}{k:κ}(e:¬p.1=k):dz (p::r) k=dz r k:=by simp[dz,List.find?_cons,e]
theorem oO(k:κ):∀a:List (κ×V),(a.any λb=>decide (b.1=k))=(dz a k).isSome
 |[]=>rfl
 |p::r=>by
  rw[a04];by_cases e:p.1=k
  .simp only[U_ e,decide_eq_true e,Bool.true_or,Option.isSome_some]
  .rw[aa e,T5 e];exact oO k r
def Vj(kvs:List (κ×V))(k:κ)(v:V):(putK kvs k v).length<=kvs.length+1:=by
 unfold putK;split
 .rw[f8];omega
 .rw[S4,v4,a1C];omega
def U9.Qj(r:U9 o u):o.isSome=u.isSome:=by
 cases o with
 |none=>cases u with
  |none=>rfl
  |some _=>exact r.elim
 |some _=>cases u with
  |none=>exact r.elim
  |some _=>rfl
def U9.getD(r:U9 o u)(rd:RelV d d'):RelV (o.getD d) (u.getD d'):=by
 cases o with
 |none=>cases u with
  |none=>exact rd
  |some _=>exact r.elim
 |some _=>cases u with
  |none=>exact r.elim
  |some _=>exact r
def KV.val{kvs:List (κ×V)}{vs:List (κ×Value)}(r:KV kvs vs)(k:κ):U9 (dz kvs k) (valueAt vs k):=by
 unfold KV at r
 induction r with
 |nil=>exact True.intro
 |@cons p q i a h t f=>
  obtain⟨d,g⟩:=h;by_cases e:p.1=k
  .have c:=d.symm.trans e;have b:valueAt (q::a) k=some q.2:=by simp[valueAt,List.find?_cons,c]
   rw[U_ e,b];exact g
  .have c:¬q.1=k:=λz=>e (d.trans z);have b:valueAt (q::a) k=valueAt a k:=by simp[valueAt,List.find?_cons,c]
   rw[aa e,b];exact f
def KV.any{kvs:List (κ×V)}{vs:List (κ×Value)}(r:KV kvs vs)(k:κ):(kvs.any λa=>decide (a.1=k))=vs.any λa=>decide (a.1=k):=by
 unfold KV at r
 induction r with
 |nil=>rfl
 |cons h t b=>rw[a04,a04,b,h.1]
def KV.OK{kvs:List (κ×V)}{vs:List (κ×Value)}(r:KV kvs vs)(k:κ)(c:RelV y u):
  KV (kvs.map λa=>if a.1=k then(a.1,y)else a) (vs.map λa=>if a.1=k then(a.1,u)else a):=by
 unfold KV at r ⊢
 induction r with
 |nil=>exact .nil
 |@cons p q i g h t d=>
  rw[T6,T6];refine .cons ?_ d;obtain⟨b,f⟩:=h;by_cases e:p.1=k
  .rw[if_pos e,if_pos (b.symm.trans e)];exact⟨b,c⟩
  .rw[if_neg e,if_neg (λz=>e (b.trans z))];exact⟨b,f⟩
def KV.put{kvs:List (κ×V)}{vs:List (κ×Value)}(r:KV kvs vs)(k:κ)(a:RelV y u):KV (putK kvs k y) (stored vs k u):=by
 unfold putK stored;rw[r.any k];by_cases e:(vs.any λb=>decide (b.1=k))=true
 .rw[if_pos e,if_pos e];exact r.OK k a
 .rw[if_neg e,if_neg e];exact Paired.snoc r ⟨rfl,a⟩
def KV.length{kvs:List (κ×V)}{vs:List (κ×Value)}(r:KV kvs vs):kvs.length=vs.length:=a03 r
end
def gR(r:RelV (kV k) u):(yB P w).is k u=true:=by
 cases k with
 |inl i=>obtain⟨t,e⟩:= r;subst e;exact mF P w i t
 |inr x=>obtain⟨t,e⟩:= r;subst e;exact mG P w x t
theorem gS{P:SV}{w:S_}:∀{a:SQ}{b:SO},Vals (a.map kV) b->ItemsAre (yB P w) a b
 |[],_,r=>by cases r;exact .nil
 |k::a,_,r=>by
  cases r with
  |cons h t=>exact .cons (gR h) (gS t)
abbrev KT(H:Hp):List (List Key×V)->List (List Key×Addr×Value)->Prop:=Paired λp q=>p.1=q.1/\H q.2.1=some (.tup (p.1.map kV))/\RelV p.2 q.2.2
def KT.val(r:KT H kvs xs)(k:SQ):U9 (dz kvs k) ((atKey xs k).map (·.2)):=by
 induction r with
 |nil=>exact True.intro
 |@cons p q i a h t f=>
  obtain⟨d,_,g⟩:=h;by_cases e:p.1=k
  .have c:=d.symm.trans e;have b:atKey (q::a) k=some q.2:=by simp[atKey,List.find?_cons,c]
   rw[U_ e,b];exact g
  .have c:¬q.1=k:=λz=>e (d.trans z);have b:atKey (q::a) k=atKey a k:=by simp[atKey,List.find?_cons,c]
   rw[aa e,b];exact f
def KT.OK(r:KT H kvs xs)(k:SQ)(d:RelV y u):
  KT H (kvs.map λb=>if b.1=k then(b.1,y)else b) (xs.map (putAt k u)):=by
 induction r with
 |nil=>exact .nil
 |@cons p q j i h t f=>
  rw[T6];refine .cons ?_ f;obtain⟨a,c,g⟩:=h;unfold putAt;by_cases e:p.1=k
  .rw[if_pos e,if_pos (a.symm.trans e)];exact⟨a,c,d⟩
  .rw[if_neg e,if_neg (λz=>e (a.trans z))];exact⟨a,c,g⟩
def KT.put(r:KT H kvs xs)(k:SQ)(d:H b=some (.tup (k.map kV)))(a:RelV y u):
  KT H (putK kvs k y) (storedH xs k b u):=by
 have e:(kvs.any λc=>decide (c.1=k))=(atKey xs k).isSome:=by rw[oO,(r.val k).Qj,a1q]
 unfold putK storedH;rw[e];by_cases q:(atKey xs k).isSome=true
 .rw[if_pos q,if_pos q];exact r.OK k a
 .rw[if_neg q,if_neg q];exact Paired.snoc r ⟨rfl,d,a⟩
def KT.keeps(r:KT H kvs xs)(c:∀b a,H b=some (.tup a)->H' b=some (.tup a)):KT H' kvs xs:=
 Paired.Oo r λ_ _ z=>⟨z.1,c _ _ z.2.1,z.2.2⟩
def Lc(ok:HOk P w H h)(e:Rd H a u):qr P w H h a u:=e.ok ok
def Vk(ok:HOk P w H h)(e:Rd H a (.dK kvs)):kvs.length<=sizeLine/\(a==sysModules)=false/\∃b,KV kvs b/\h.DictOf (yB P w) a b:=
 show qr P w H h a (.dK kvs)from Lc ok e
def Ld(ok:HOk P w H h)(e:H a=some (.dK kvs)):kvs.length<=sizeLine/\(a==sysModules)=false/\∃b,KV kvs b/\h.DictOf (yB P w) a b:=Vk ok (.inl e)
def dA(ok:HOk P w H h)(e:H a=some (.tup (ks.map kV))):(tupleKind (yB P w)).is h ks a:=by obtain⟨_,b,r,o,f,d,n,c⟩:= (ok a _ e);exact⟨o,b.toArray,n,f,d,c,by simpa using gS r⟩
def mK(ok:HOk P w H h)(e:Rd H a (.dT kvs)):kvs.length<=sizeLine/\(a==sysModules)=false/\
  ∃c,KT H kvs c/\h.DictOfH (tupleKind (yB P w)) a c:=by
 obtain⟨z,y,c,r,o,n,i,s,j,v,f,u⟩:= (Lc ok e);refine⟨z,y,c,r,o,n,i,s,j,v,f,λx b=>?_,u⟩;have all:∀{l:TV}{m:List (List Key×Addr×Value)},KT H l m->∀x∈m,(tupleKind (yB P w)).is h x.1 x.2.1:=by
  intro l m q
  induction q with
  |nil=>intro x b;exact nomatch b
  |@cons p q A B d t g=>
   intro x b;rcases T1.mp b with e|b
   .subst e;exact dA ok (by grind)
   .exact g x b
 exact all r x b
def OL(ok:HOk P w H h)(e:H a=some (.dT kvs)):kvs.length<=sizeLine/\(a==sysModules)=false/\
  ∃b,KT H kvs b/\h.DictOfH (tupleKind (yB P w)) a b:=mK ok (.inl e)
def oQ(H:Hp)(a:Addr)(y:V)(r:Option V):Prop:=
 (∃c k,Rd H a (.dK c)/\y=kV k/\r=dz c k)\/∃c k b,Rd H a (.dT c)/\y=.ref b/\H b=some (.tup (k.map kV))/\r=dz c k
def Im(H:Hp)(a:Addr)(y v:V)(H':Hp):Prop:=
 (∃c k,H a=some (.dK c)/\y=kV k/\c.length<sizeLine/\H'=upd H a (.dK (putK c k v)))\/
 ∃c k b,H a=some (.dT c)/\y=.ref b/\H b=some (.tup (k.map kV))/\c.length<sizeLine/\H'=upd H a (.dT (putK c k v))
def Im.k{H:Hp}{a:Addr}{kvs:SH}{k:Tw}{v:V}(e:H a=some (.dK kvs))(b:kvs.length<sizeLine):Im H a (kV k) v (upd H a (.dK (putK kvs k v))):=.inl ⟨kvs,k,e,rfl,b,rfl⟩
def Inv.big(I:Inv X pins σ H s):sysModules<s.heap.objs.size:=by have h:=(I.mod.glob.keeps I.bk).lt;exact a2c (by decide) h
def ux(B:A.units+1<cLine)(I:Inv X pins σ H s)(g:oQ H a y (some v))(t:RelV y u)(h:∀f r,Inv X pins σ H r->RelV v f->Q f r):
  wpAny (a32 X) A (getItem (.ref a) u) Q E s:=by
 rcases g with⟨i,k,e,q,l⟩|⟨i,k,b,e,q,D,l⟩
 .subst q;obtain⟨z,C,x,c,n⟩:=Vk I.hok e;obtain⟨f,j,d⟩:=U9.some_of (by rw[l];exact c.val k);exact wpAny_getItem_of (gR t) n.mapOf j (h f _ (I.tok _) d)
 .subst q;cases t;obtain⟨z,C,w,c,n⟩:=mK I.hok e;obtain⟨f,j,d⟩:=U9.some_of (by rw[l];exact c.val k);obtain⟨p,hp,m⟩:=v0.mp j;refine wpAny_getItem_heap (a1D B) (dA I.hok D) n hp ?_;rw[m];exact h f _ (I.tok _) d
def R4(p:A.units+1<cLine)(I:Inv X pins σ H s)(g:oQ H a y o)(m:RelV y u)(h:∀n,Inv X pins σ H n->Q (.bool o.isSome) n):
  wpAny (a32 X) A (compareOp .In u (.ref a)) Q E s:=by
 rcases g with⟨d,k,e,f,l⟩|⟨d,k,b,e,f,r,l⟩
 .subst f;obtain⟨z,j,v,c,i⟩:=Vk I.hok e;refine wpAny_in_of (gR m) j i.mapOf ?_;rw[<- (c.val k).Qj,<- l];exact h _ (I.tok _)
 .subst f;cases m;obtain⟨z,j,t,c,i⟩:=mK I.hok e;refine wpAny_in_heap (a1D p) (dA I.hok r) j i ?_;have q:=(c.val k).Qj;rw[a1q]at q;rw[<- q,<- l];exact h _ (I.tok _)
def F3(p:A.units+1<cLine)(I:Inv X pins σ H s)(g:oQ H a y o)(m:RelV y u)(h:∀n,Inv X pins σ H n->Q (.bool (!o.isSome)) n):
  wpAny (a32 X) A (compareOp .NotIn u (.ref a)) Q E s:=by
 rcases g with⟨d,k,e,f,l⟩|⟨d,k,b,e,f,r,l⟩
 .subst f;obtain⟨z,j,v,c,i⟩:=Vk I.hok e;refine wpAny_notIn_of (gR m) j i.mapOf ?_;rw[<- (c.val k).Qj,<- l];exact h _ (I.tok _)
 .subst f;cases m;obtain⟨z,j,t,c,i⟩:=mK I.hok e;refine wpAny_notIn_heap (a1D p) (dA I.hok r) j i ?_;have q:=(c.val k).Qj;rw[a1q]at q;rw[<- q,<- l];exact h _ (I.tok _)
def mL(I:Inv X pins σ H s)(mu:Mut (H a))(c:Heap.SameBut a s.heap h')(he:∃q,h'.get? a=some q)(new:qr X.prog X.w (upd H a ob) h' a ob):
  Inv X pins σ (upd H a ob) { s with heap:=h',toks:=t' }:=
 I.write mu (.inl rfl) (λb q d z=>(c.2 b d).trans z) he new
def oR(z:kvs.length<=sizeLine)(c:(a==sysModules)=false)(b:KV kvs vs)(d:h'.DictOf (yB P w) a vs):
  qr P w H' h' a (.dK kvs):=⟨z,c,vs,b,d⟩
def uy(O:A.units+1<cLine)(I:Inv X pins σ H s)(g:Im H a y v H')(C:RelV y u)(B:RelV v r)(h:∀x,Inv X pins σ H' x->Q () x):
  wpAny (a32 X) A (setItem (.ref a) u r) Q E s:=by
 rcases g with⟨d,k,e,t,l,m⟩|⟨d,k,b,e,t,F,l,m⟩
 .subst t m;obtain⟨z,o,K,f,n⟩:=Ld I.hok e;have hz:K.length<=sizeLine:=by rw[<- f.length];exact z
  have w:(putK d k v).length<=sizeLine:=by have:=Vj d k v;omega
  refine wpAny_setItem_pairs (gR C) n λD i p=>h _ ?_;have S:∃q,D.get? a=some q:=let⟨q,_,_,j,_⟩:=i;⟨q,j⟩
  exact mL I (by rw[e];exact True.intro) p S (oR w o (f.put k B) i)
 .subst t m;cases C;obtain⟨z,o,J,f,n⟩:=OL I.hok e;have hz:J.length<=sizeLine:=by rw[<- a03 f];exact z
  have w:(putK d k v).length<=sizeLine:=by have:=Vj d k v;omega
  refine wpAny_setItem_heap (a1D O) (dA I.hok F) n λD i p=>h _ ?_;obtain⟨q,N,L,j,M,R,G,_,P⟩:=i;refine mL I (by rw[e];exact True.intro) p ⟨q,j⟩ ⟨w,o,_,(f.put k F B).keeps λc T ec=>?_,q,N,L,j,M,R,G,P⟩;rw[zh (Om ec e (λz=>nomatch z))];exact ec
def ON(I:Inv X pins σ H s)(e:Rd H a (.dK kvs))(h:∀t c,Inv X pins σ H c->Q (.int kvs.length t) c):wpAny (a32 X) A (call (.builtin "len") [.ref a]) Q E s:=by obtain⟨z,d,g,b,f⟩:=Vk I.hok e;refine call_len_dict d f (by rw[<- b.length];rw[a0P]at z;omega) ?_;rw[<- b.length];exact h _ _ (I.tok _)
def mM(I:Inv X pins σ H s)(g:oQ H a y o):s.TypeIs (.ref a) "dict":=by
 rcases g with⟨c,k,e,_,_⟩|⟨c,k,b,e,_,_,_⟩
 .obtain⟨_,_,h,_,d⟩:=Vk I.hok e;exact d.typeIs
 .obtain⟨_,_,f,_,d⟩:=mK I.hok e;exact d.typeIs
def OO(d f h:TE):TS:=λD b H=>h b H λv g=>d b g λx e=>f b e λy i=>∃a c,x=.ref a/\Im i a y v c/\D.nx b c
def uz(q:X.A.units+1<cLine)(p:PE X o td)(hi:PE X i ty)(B:PE X value tv)(E:swapsWith value (some (.Subscript o i pos')) pos.line X.env=pure false):
  PS X (.Assign [.Subscript o i pos'] value pos) (OO td ty tv):=by
 intro b s c H D I h;refine wpAny_Assign_Subscript (thn (B b s c H _ I h) λr w ⟨v,J,d,t,z⟩=>thn (p b w c J _ d z) λu K ⟨x,j,A,G,f⟩=>thn (hi b K c j _ A f) λO L ⟨y,N,n,C,a,l,F,g,e⟩=>?_) E;subst F;obtain rfl:u=Value.ref a:=G;exact uy q n g C t λM m=>⟨c,l,m,e⟩
def oS(h:Heap)(a:sysModules<h.objs.size):qr P w H (h.push { cls:=.type "dict",data:=.dict #[] }) h.objs.size (.dK []):=
 ⟨a0y _,a0N.mpr (Ne.symm (a0g a)),[],.nil,Heap.DictOf.new h⟩
def Le:TE:=λ_ H Q=>∀p,H p=none->Q (.ref p) (upd H p (.dK []))
def B9:PE X (.Dict [] [] pos) Le:=λb s c H Q I h=>
 wpAny_Dict_empty ⟨.ref s.heap.objs.size,_,I.laid (λ_ _ q=>S6 _ q) (S5 _) (oS s.heap I.big),rfl,h _ (I.hok.fresh (S5 _))⟩
def uA:List (TE×TE)->St->Hp->(List (V×V)->Hp->Prop)->Prop
 |[],_,H,Q=>Q [] H
 | (d,e)::r,a,H,Q=>d a H λx c=>e a c λy b=>uA r a b λg f=>Q ((x,y)::g) f
abbrev VV:List (V×V)->List (Value×Value)->Prop:=Paired λp q=>RelV p.1 q.1/\RelV p.2 q.2
def PPs(X:Cx)(e:Pos)(c:List (Option Expr))(a:SG)(d:List (TE×TE)):Prop:=
 ∀(b:Sw)(s:SE)(f:St)(H:Hp)(Q:List (V×V)->Hp->Prop),Inv X b f H s->uA d f H Q->
  wpAny (a32 X) X.A (evalPairs (pairTrees c a X.env e)) (λi j=>∃h g,Inv X b f g j/\VV h i/\Q h g) X.xe s
def F4:PPs X pos [] [] []:=λa s b H Q I h=>pairTrees_nil_walk ⟨[],H,I,.nil,h⟩
def B_(g:PE X k tk)(q:PE X v tv)(l:PPs X pos ks vs trs):
  PPs X pos (some k::ks) (v::vs) ((tk,tv)::trs):=λa s b H Q I h=>
 pairTrees_cons_walk (thn (g a s b H _ I h) λu m ⟨x,z,d,w,n⟩=>thn (q a m b z _ d n) λC A ⟨y,i,o,r,f⟩=>
  thn (l a A b i _ o f) λws B ⟨t,p,j,c,e⟩=>⟨(x,y)::t,p,j,.cons ⟨w,r⟩ c,e⟩)
def gT(kvs a:SH):List (Key×V):=a.foldl (λb c=>putK b c.1 c.2) kvs
def KV.merge:∀{a:SH}{d:TF}{b:SH}{c:TF},KV a d->KV b c->KV (gT b a) (merged c d):=by
 intro a d b c r;unfold KV at r
 induction r generalizing b c with
 |nil=>intro q;exact q
 |@cons p q j i h t g=>
  intro f;have e:KV (putK b p.1 p.2) (stored c q.1 q.2):=by have:=f.put p.1 h.2;rw[<- h.1];exact this
  exact g e
theorem VL:∀(b a:SH),(gT a b).length<=a.length+b.length
 |[],a=>by show a.length<=a.length+0;omega
 |p::r,a=>by have d:=VL r (putK a p.1 p.2);have c:=Vj a p.1 p.2;show(gT (putK a p.1 p.2) r).length<=_;rw[v4];omega
theorem dB{P:SV}{w:S_}:∀{d:SH}{ws:List (Value×Value)},VV (d.map λf=>(kV f.1,f.2)) ws->∃e,Carries (yB P w) ws e/\KV d e
 |[],_,r=>by cases r;exact⟨[],True.intro,.nil⟩
 |p::d,_,r=>by
  cases r with
  |@cons a b j bs h t=>obtain⟨e,c,q⟩:=dB t;obtain⟨i,g⟩:=b;exact⟨(p.1,g)::e,⟨gR h.1,rfl,c⟩,.cons ⟨rfl,h.2⟩ q⟩
def OP(b:List (TE×TE)):TE:=λf H Q=>∀p,H p=none->uA b f (upd H p (.dK [])) λe d=>d p=some (.dK [])/\∃a:List (Key×V),e=a.map (λc=>(kV c.1,c.2))/\a.length<=15/\Q (.ref p) (upd d p (.dK (gT [] a)))
def F5(h:PPs X pos keys values trs)(g:keys.all (·.isSome)=true)(D:keys.length=values.length)(v:keys≠[])
  (j:keys.length<=15):PE X (.Dict keys values pos) (OP trs):=by
 intro f s t H Q I q;have E:=I.hok.fresh (S5 s.heap.objs.size);have n:=I.laid (t':=s.toks) (λ_ _ q=>S6 _ q) (S5 _) (oS s.heap I.big);refine wpAny_Dict_walk (knd:=yB X.prog X.w) g D v j (thn (h f _ t _ _ n (q _ E)) λws M ⟨L,J,l,i,e,b,u,K,r⟩=>?_);subst u;obtain⟨G,c,rk⟩:=dB i;obtain⟨z,y,p,C,x⟩:=Ld l.hok e;cases C;refine⟨G,c,x,λm d B=>⟨.ref s.heap.objs.size,_,?_,rfl,r⟩⟩;have hz:(gT [] b).length<=sizeLine:=by have A:=VL b [];rw[a1C]at A;rw[a0P];omega
 have F:∃q,m.get? s.heap.objs.size=some q:=let⟨q,_,_,hq,_⟩:=d;⟨q,hq⟩
 exact mL l (by rw[e];exact True.intro) B F (oR hz y (rk.merge .nil) d)
structure M1(X:Cx)(o:SN)(m:Str)(jK:Pos)(e:SN)(Qa:Pos):Prop where
 base:attributeBase o m X.env (eval o X.env)=eval o X.env
 few:((backTo Qa (starEach [e] X.env)).all (λx=>!x.1)&&(backToKw Qa (keywordEach [] X.env)).all (λx=>x.1.isSome)
  && decide (([e]:List Expr).length+([]:List Keyword).length+(if([]:List Keyword).isEmpty then 0 else 1)<30))=true
 line:(jK.endLine==Qa.line)=true
 trees:backTo Qa (starEach [e] X.env)=[(false,eval e X.env)]
structure M2(X:Cx)(o:SN)(m:Str)(jK:Pos)(e f:SN)(Qa:Pos):Prop where
 base:attributeBase o m X.env (eval o X.env)=eval o X.env
 few:((backTo Qa (starEach [e,f] X.env)).all (λx=>!x.1)&&(backToKw Qa (keywordEach [] X.env)).all (λx=>x.1.isSome)
  && decide (([e,f]:List Expr).length+([]:List Keyword).length+(if([]:List Keyword).isEmpty then 0 else 1)<30))=true
 line:(jK.endLine==Qa.line)=true
 trees:backTo Qa (starEach [e,f] X.env)=[(false,eval e X.env),(false,eval f X.env)]
def IsD(H:Hp)(a:Addr):Prop:=(∃b,Rd H a (.dK b))\/∃b,Rd H a (.dT b)
def Lf(I:Inv X pins σ H s)(d:IsD H a):
  s.TypeIs (.ref a) "dict"/\(∀b,Value.ref a=.ref b->∃ob,s.heap.get? b=some ob/\ob.dict=none)/\(a==sysModules)=false:=by
 rcases d with⟨f,e⟩|⟨f,e⟩
 .obtain⟨_,g,l,_,c⟩:=Vk I.hok e;refine⟨c.typeIs,λb q=>?_,g⟩;cases q;obtain⟨ob,_,_,i,h,_⟩:=c;exact⟨ob,i,h.2.1⟩
 .obtain⟨_,g,j,_,c⟩:=mK I.hok e;refine⟨c.typeIs,λb q=>?_,g⟩;cases q;obtain⟨ob,_,_,i,h,_⟩:=c;exact⟨ob,i,h.2.1⟩
def Lg(q:A.units+1<cLine)(I:Inv X pins σ H s)(g:oQ H a y o)(m:RelV y u)(h:∀n p,Inv X pins σ H p->RelV (o.getD .non) n->Q n p):
  wpAny (a32 X) A (call (.builtin "dict.get") [.ref a,u]) Q E s:=by
 rcases g with⟨f,k,e,i,l⟩|⟨f,k,b,e,i,t,l⟩
 .subst i;obtain⟨z,j,v,c,d⟩:=Vk I.hok e;refine call_meetsIn a13 d.typeIs a3a (a21 _ _) (meets_dict_get (yB X.prog X.w) a (gR m) j) ⟨_,d.mapOf,h _ _ (I.tok _) ?_⟩;rw[l];exact(c.val k).getD rfl
 .subst i;cases m;obtain⟨z,j,r,c,d⟩:=mK I.hok e;refine call_meetsIn a13 d.typeIs a3a (a21 _ _) (meetsH_dict_get (tupleKind (yB X.prog X.w)) a b j) ⟨a1D q,k,r,dA I.hok t,d,h _ _ (I.tok _) ?_⟩;rw[l];exact(c.val k).getD rfl
def Lh(e f:TE):TE:=λd H Q=>e d H λx c=>∃a,x=.ref a/\IsD c a/\f d c λy b=>∃o,oQ b a y o/\Q (o.getD .non) b
def Ca(t:X.A.units+1<cLine)(p:PE X o td)(he:PE X e ty)(m:M1 X o "get" jK e Qa):PE X (.Call (.Attribute o "get" jK) [e] [] Qa) (Lh td ty):=by intro b s f H Q I h;refine wpAny_Call_method m.base m.few m.line PySem.F.plainAttrs_dict a13 PySem.F.type_dict_get (thn (p b s f H _ I h) λu v ⟨x,D,i,C,a,B,d,w⟩=>?_);subst B;obtain rfl:u=Value.ref a:=C;obtain⟨q,r,_⟩:=Lf i d;refine⟨q,r,?_⟩;rw[m.trees];exact a1V rfl (a3s (a2r (thn (he b v f D _ i w) λK G ⟨y,l,z,A,F,g,j⟩=>a2B (Lg t z g A λJ E n c=>⟨_,l,n,c,j⟩))))
def Cb(I:Inv X pins σ H s)(e:Rd H a (.dK kvs))(h:∀p f,H p=none->Inv X pins σ (upd H p (.dK kvs)) f->Q (.ref p) f):wpAny (a32 X) A (call (.type "dict") [.ref a]) Q E s:=by obtain⟨z,l,n,c,j⟩:=Vk I.hok e;refine kt_call_dict l j (by rw[<- c.length];exact z) λm d i=>?_;refine h _ _ (I.hok.fresh (S5 _)) (I.laid (λb q g=>?_) (S5 _) (oR z (a0N.mpr (Ne.symm (a0g I.big))) c d));exact(i.2 b (a0g (S9 g))).trans (S6 _ g)
end L2
namespace Att
open PySem PySem.W PySem.Calls PyProof.Rows
def aM:∀(c:Th)(d:SO),WellAll P h d (c.map WData.int)->IntsAre d c:=by
 intro c
 induction c with
 |nil=>intro d w;cases w;exact .nil
 |cons n c e=>
  intro d w;cases w with
  |cons a b=>cases a;exact .cons _ _ (e _ b)
def uB{l:OpenLaw}{n:Nat}(z:l.most=some n){P:Params}{h:Heap}{args:List WData}{vals:SO}
  (c:l.row.toRowW.claim.pre args=true) (j:WellAll P h vals args):
  ∃a o b,vals=[Value.ref a]/\args=[WData.list (b.map WData.int)]/\h.get? a=some { cls:=.type "list",data:=.seq o.toArray }/\IntsAre o b/\b.length<=n:=by
 have m:=(pre_splitW c).1;have p:l.pre.holds [] { args:=args }=true:=(pre_splitW c).2;obtain⟨d,r,rfl,x,t⟩:=hasAllW_cons m;obtain rfl:=hasAllW_nil t;obtain⟨A,rfl,y⟩:=hasW_list x;obtain⟨b,rfl⟩:=items_int y;have e:b.length<=n:=by
  have g:=by have g:=(holds_andW p).1;rw[z]at g;exact g
  have i:=condW_of g (w_not (w_lt w_lit (w_len_list (w_arg rfl))));refine Nat.le_of_not_lt λq=>?_;have s:=by omega
  first
   | (exact absurd i (by decide))
   | (simp at i;omega)
 cases j with
 |cons u w=>
  cases w;cases u with
  |list v f=>exact⟨_,_,b,rfl,rfl,v,aM b _ f,e⟩
def uC(l:OpenLaw)(args:List WData):l.row.toRowW.claim.post args (.bool true) args=true:=
 postW_of
  (show WShape.has [] (.bool true) .bool=true by first|rfl|decide|simp[WShape.has,WShape.arms,WShape.armsAll])
  (show(WTm.eq .res (.lit (.bool true))).value [] { args:=args,res:=some (.bool true),after:=args }=some (.bool (true==true))from w_eq_bool (w_res rfl) w_lit) rfl
def mN{l:OpenLaw}{n:Nat}{q:SV}{c:SA}{E:(Str->Option Value)->Heap->Prop}{D:World->Heap->Prop}{d:DefRec}
  (R:l.most=some n) (y:d.params.defaults=[])
  (call:∀(w:S_)(e b:SE)(u z:Sx)(fa:Addr)(o:Obj)(B cd g:Value)(a:Addr) (i:SO) (t:Th),
   Ground q c [] E w e u z b.heap->D w b.heap->
   b.heap.get? fa=some o->o.data=.func (docDef d.name d.params d.body d.scope B cd g)->b.heap.CodeRec cd d.name->u d.name=some (.ref fa)->
   b.heap.get? a=some { cls:=.type "list",data:=.seq i.toArray }->IntsAre i t->t.length<=n->b.gens = #[]->
   codeAny (model l.prog w) callerA (.call (.ref fa) ⟨[.ref a],[]⟩) (λr s=>r=.ok (.ret (.bool true))/\OldK b.heap s.heap/\s.os=b.os/\AllBare s.gens) b):
  WalkO q c E D l.row.toRowW d [] (λf i=>PySem.call f i):=by
 intro w e b u z G Y fa o B cd g L kV N O A hD v J args vals S m C P x F;obtain rfl:L=.none:=Dflts.none hD y;obtain rfl:kV=.none:=Dflts.noKw hD;obtain⟨a,i,t,rfl,rfl,j,h,p⟩:=uB R m x;refine enter_call (a1F (call w e b u z fa o B cd g a i t G Y N (fd_plain O) A v j h p J) λr s M=>?_);obtain⟨rfl,K,Q,H⟩:=M;exact⟨.inl ⟨.bool true,.bool true,[],rfl,λ_=>rfl,.bool true,uC l _,λ_=>⟨List.Pairwise.nil,λ_ I=>(nomatch I)⟩⟩,K,Q,H⟩
end Att
namespace L2
open PySem PySem.Spec PyProof.Rows
theorem gU:∀{b:SO}{a:Th},IntsAre b a->Vals (a.map V.int) b
 |_,_,.nil=>.nil
 |_,_,.cons n t h=>.cons ⟨t,rfl⟩ (gU h)
def OQ(H:Hp):Prop:=∀b,H b=none\/∃o a,H b=some (.frz o (.lst a))
def Cc{P:SV}{w:S_}{K:SK}{G O:Sx}{CX:CXT}{k:Nat}{fa a:Addr}{U:Td}{x:Str}{sp:Sp}{c:SE}{vs:SO}{ns:Th}
  (Y:K.In c.heap) (C:c.heap.Ns mainGlobals G) (g:c.heap.Ns builtinsNs O) (Q:∀x:Str,x≠"__name__"->O x=bootBuiltins x) (y:c.heap.NoLimit) (hg:c.gens = #[])
  (L:c.heap.get? a=some { cls:=.type "list",data:=.seq vs.toArray }) (hi:IntsAre vs ns) (Z:ns.length<=sizeLine) (hr:vF k callerA)
  (F:∀i:Heap,K.In i->i.Ns mainGlobals G->yz P w K G i CX k fa U [x] sp) (t:∀(s:SE)(u:Value),BindsTo s U ⟨[u],[]⟩ [(x,u)])
  (hsp:∀H:Hp,OQ H->SqL K H a (ns.map V.int)->sp [.ref a] H (λv _=>v=.bl true) λ_ _ _=>False)
  (R:∀H e j,CX [] H c (λ_ _ _=>False) e j->False):
  codeAny (model P w) callerA (.call (.ref fa) ⟨[.ref a],[]⟩) (λr j=>r=.ok (.ret (.bool true))/\OldK c.heap j.heap/\j.os=c.os/\AllBare j.gens) c:=by
 have X:=gU hi;have Iv:=hi.length
 -- from an abstract heap in which nothing but the script may be tracked
 have p:∀H:Hp,OQ H->SqL K H a (ns.map V.int)->HOk P w H c.heap->(∀b,H b≠none->b=a)->(H a≠none->K.lookup a=none)->
   codeAny (model P w) callerA (.call (.ref fa) ⟨[.ref a],[]⟩) (λr j=>r=.ok (.ret (.bool true))/\OldK c.heap j.heap/\j.os=c.os/\AllBare j.gens) c:=by
  intro H W hS J T hK;have f:∀{b:Addr}{o:Obj},c.heap.get? b=some o->H b=none->(BW c.heap H).get? b=some o:=λe n=>BX e n;have M:∀{b:Addr}{o:Obj}{D:Array DictEntry}{A:Nat},c.heap.get? b=some o->o.data=.dict D A->H b=none:=λ{b o D A} e d=>by
   cases q:H b with
   |none=>rfl
   |some u=>have S:b=a:=T b (by rw[q];simp);subst S;rw[L]at e;cases e;have d':=d;cases d'
  have l:∀{b:Addr}{m:Sx},c.heap.Ns b m->(BW c.heap H).Ns b m:=λ{b m} ⟨o,D,A,e,d,r⟩=>⟨o,D,A,f e (M e d),d,r⟩;have I:=λb o e=>f (Y b o e) (by
   cases q:H b with
   |none=>rfl
   |some u=>
    have S:b=a:=T b (by rw[q];simp);subst S;rw[hK (by rw[q];simp)]at e;cases e)
  have hM:Mod K G (BW c.heap H):=⟨I,l C,⟨O,l g,Q⟩,let⟨mc,h1,h2⟩:=y;⟨mc,l h1,h2⟩⟩;have e0:BM P w K G (BW c.heap H) callerA [] c H:=⟨rfl,hM,λb o e=>FE e,a2b (ua _ _),trivial,λb g=>absurd (show b∈([]:List Addr)from g) (by simp),J,.of_eq hg⟩;refine a1F ((F _ I (l C)).run callerA [] c H ⟨[.ref a],[]⟩ [.ref a] [.ref a] _ _ hr e0 (t c (.ref a)) (.cons rfl .nil) (hsp H W hS)) λr j h=>?_;cases r with
  |error e=>exact(R H e j h).elim
  |ok fl=>
   cases fl with
   |next=>exact False.elim h
   |brk=>exact False.elim h
   |cont=>exact False.elim h
   |ret u=>
    obtain⟨v,H',os,bare,un,B,r',q⟩:=h;have q':=q;subst q';obtain rfl:u=Value.bool true:=r';refine⟨rfl,OldK.of_keep λb o e=>?_,os,bare⟩;cases q:H b with
    |none=>exact un.keep b o e q (by intro z;exact absurd (show b∈([]:List Addr)from z) (by simp)) (by simp)
    |some u=>
     rcases W b with z|⟨ob,xs,z⟩
     .rw[q]at z;cases z
     .have z2:=un.Bu b ob _ z;obtain⟨e1,_⟩:=J b _ z;obtain⟨e2,_⟩:=B b _ z2;rw[e]at e1;cases e1;exact e2
 cases N:K.lookup a with
 |some o=>
  -- the script is one of the module's own objects
  have e:=Y a o N;rw[L]at e;cases e;refine p (λ_=>none) (λ_=>.inl rfl) (.inr ⟨_,vs.toArray,_,N,rfl,rfl,rfl,by rw[a0f,Iv];exact Z,by simpa using X⟩) (λb u z=>by have E:=z;cases E) (λb z=>absurd rfl z) λz=>absurd rfl z
 |none=>
  refine p (λb=>if b=a then some (.frz { cls:=.type "list",data:=.seq vs.toArray } (.lst (ns.map V.int)))else none) (λb=>?_) (.inl (.inr ⟨{ cls:=.type "list",data:=.seq vs.toArray },if_pos rfl⟩)) (λb u z=>?_) (λb z=>?_) λ_=>N
  .by_cases g:b=a
   .exact .inr ⟨_,_,if_pos g⟩
   .exact .inl (if_neg g)
  .by_cases g:b=a
   .have E:=(if_pos g).symm.trans z;cases E;subst g;exact⟨L,by rw[f8];exact Z,vs,_,X,L⟩
   .have E:=(if_neg g).symm.trans z;cases E
  .by_cases g:b=a
   .exact g
   .exact absurd (if_neg g) z
def F6{l:PySem.W.OpenLaw}{n k:Nat}{q:SV}{g:SA}{T:(Str->Option Value)->Heap->Prop}{J:World->Heap->Prop}{d:DefRec}{K:Params->PySem.W.Frag}{CX:World->CXT}{sp:World->Sp}{x:Str}
  (U:l.most=some n) (C:n<=sizeLine) (y:d.params.defaults=[]) (M:vF k callerA)
  (Q:∀(w:S_)(h:Heap),J w h->(K w.params).In h)
  (F:∀(w:S_)(j:Sx)(fa:Addr)(h:Heap),(K w.params).In h->h.Ns mainGlobals j->j d.name=some (.ref fa)->
   ∃A:FuncData,(∀(s:SE)(u:Value),BindsTo s A ⟨[u],[]⟩ [(x,u)])/\
    ∀b:Heap,(K w.params).In b->b.Ns mainGlobals j->yz l.prog w (K w.params) j b (CX w) k fa A [x] (sp w))
  (hsp:∀(w:S_)(H:Hp)(a:Addr)(r:Th),r.length<=n->OQ H->SqL (K w.params) H a (r.map V.int)->sp w [.ref a] H (λv _=>v=.bl true) λ_ _ _=>False)
  (B:∀(w:S_)(H:Hp)(s:SE)(e:Value)(z:SE),CX w [] H s (λ_ _ _=>False) e z->False):
  PySem.W.WalkO q g T J l.row.toRowW d [] (λf D=>PySem.call f D):=by
 refine Att.mN U y λw I p j W fa o pm cd S a D r G Y X Z N t m i c L=>?_;have E:=Q w _ Y;obtain⟨A,P,hF⟩:=F w j fa _ E G.T.g t;exact Cc E G.T.g G.T.b G.T.builtins G.T.nolimit L m i (T9 c C) M hF P (λH O R=>hsp w H a r c O R) λH e z=>B w H p e z
def inClass(s:TB)(j:Nat):Stmt:=match s with
 |.ClassDef _ _ _ a _ _ _ _ _ _ _=>a.getD j (.Pass ⟨0,0,0,0⟩)
 |_=>.Pass ⟨0,0,0,0⟩
def aN(s:TB):Arguments:=match s with
 |.FunctionDef _ a _ _ _ _ _ _ _ _=>a
 |_=>{ posonlyargs:=[],args:=[],vararg:=none,kwonlyargs:=[],kw_defaults:=[],kwarg:=none,defaults:=[] }
def Ya(s:TB):List Stmt:=match s with
 |.FunctionDef _ _ b _ _ _ _ _ _ _=>b
 |_=>[]
def zi(s:TB):Scope:=match s with
 |.FunctionDef _ _ _ _ _ _ a _ _ _=>a
 |_=>{ kind:=.function,names:=[],isGenerator:=false,isCoroutine:=false }
abbrev E0:XK:=λ_ _ _=>False
structure Fun(K:SK)(x qual:Str)(st:TB)(f:Addr)(fd:Td):Prop where
 ex:∃(oc:Value)(od:Tx)(kV doc pm:Value)(an:Tx)(cdv ct:Value)(osl:Tt),
  fd=PySem.W.fnOf x qual (aN st) (Ya st) (zi st) .none kV doc pm an cdv ct/\K.lookup f=some ⟨oc,od,.func fd,osl⟩/\PySem.W.codeIn K cdv qual=true
 kp:PySem.W.keepIn K (.ref f)=true
section
variable {K:SK}
def Fun.binds{x a:Str}{st:TB}{f:Addr}{j:Td}{g:SA}(F:Fun K x a st f j)
  (h:∀(kV b i:Value)(e:Tx)(c ct:Value)(d:SO),d.length=g.length->bindArgs (PySem.W.fnOf x a (aN st) (Ya st) (zi st) .none kV b i e c ct) ⟨d,[]⟩=pure (g.zip d)):Binds K j g []:=by
 obtain⟨p,n,kV,b,i,e,c,ct,m,rfl,o,l⟩:=F.ex;exact .all (h kV b i e c ct)
def Em{x a:Str}{st:TB}{f:Addr}{i:Value}{od g:Tx}{e:Tt}{kV d h b ct:Value}(l:K.lookup f=some ⟨i,od,.func (PySem.W.fnOf x a (aN st) (Ya st) (zi st) .none kV d h g b ct),e⟩)
  (c:PySem.W.codeIn K b a=true) (k:PySem.W.keepIn K (.ref f)=true):Fun K x a st f (PySem.W.fnOf x a (aN st) (Ya st) (zi st) .none kV d h g b ct):=⟨⟨i,od,kV,d,h,g,b,ct,e,rfl,l,c⟩,k⟩
end
def yC(a:vF k A):A.units+1<cLine:=a0q (Nat.add_le_add_left (by simp) _) a.units
def pv(i:Nat)(c:X.N[i]?=some x:=by rfl)(d:Vis X.env.scope x:=by first|exact Or.inl rfl|exact Or.inr (Or.inl rfl)|exact Or.inr (Or.inr rfl))(b:(x==("__debug__":Str))=false:=by decide)
  (a:(x==("__classdict__":Str))=false:=by decide):PE X (.Name x pos) (cE i):=ID c d b a
def En{A B:Prop}(h:B):if false=true then A else B:=by exact h
def Eo{A B:Prop}(h:A):if true=true then A else B:=by exact h
def zr(H H':Hp):Prop:=∀b o,H b=some o->H' b=some o
def zr.refl(H:Hp):zr H H:=λ_ _ h=>h
def zr.trans(a:zr H H1)(b:zr H1 H2):zr H H2:=λc o h=>b c o (a c o h)
end L2
set_option maxHeartbeats 4000000
namespace L2
open PySem PySem.Spec PyProof.Rows PySem.W
def kZ:List Value:=[.type "ValueError",.type "Exception",.type "BaseException",.type "object"]
def gW:List Value->List Value
 |.ref _::r=>gW r
 |l=>l
structure Qg(K:Tj)(C:Addr):Prop where
 over:(clsIn K C).any (λcd=>gW cd.mro==kZ && !cd.mro.isEmpty&&cd.hasDict)=true
 sa:findIn K (.ref C) "__setattr__"=some (some (.builtin "object.__setattr__"))
 ga:findIn K (.ref C) "__getattribute__"=some (some (.builtin "BaseException.__getattribute__"))
 gn:findIn K (.ref C) "__getattr__"=some none
 ty:typeIn K (.ref C)=some (.type "type")
theorem X0(self:Value):∀l:List Value,gW l=kZ->refuseLoop self "__setattr__" l=pure ()
 |[],e=>by cases e
 |.ref c::r,e=>by rw[refuseLoop_ref];exact X0 self r e
 |.type n::r,e=>by rw[show Value.type n::r=kZ from e];exact PySem.F.store_ValueError.passes self
 |.none::r,e=>by cases e
 |.bool _::r,e=>by cases e
 |.int _ _::r,e=>by cases e
 |.str _ _::r,e=>by cases e
 |.bytes _ _::r,e=>by cases e
 |.float _ _::r,e=>by cases e
 |.builtin _::r,e=>by cases e
 |.ellipsis::r,e=>by cases e
 |.notImplemented::r,e=>by cases e
theorem gX{x:String}(a:kZ.contains (.type x)=true):∀l:List Value,gW l=kZ->l.contains (.type x)=true
 |[],e=>by cases e
 |.ref c::r,e=>by rw[List.contains_cons,gX a r e,Bool.or_true]
 |.type n::r,e=>by rw[show Value.type n::r=kZ from e];exact a
 |.none::r,e=>by cases e
 |.bool _::r,e=>by cases e
 |.int _ _::r,e=>by cases e
 |.str _ _::r,e=>by cases e
 |.bytes _ _::r,e=>by cases e
 |.float _ _::r,e=>by cases e
 |.builtin _::r,e=>by cases e
 |.ellipsis::r,e=>by cases e
 |.notImplemented::r,e=>by cases e
def Qg.cd{K:Tj}{C:Addr}(c:Qg K C):∃cd,clsIn K C=some cd/\gW cd.mro=kZ/\cd.mro.isEmpty=false/\cd.hasDict=true:=by obtain⟨cd,a,h⟩:=any_some c.over;simp only[Bool.and_eq_true,beq_iff_eq,Bool.not_eq_true']at h;exact⟨cd,a,h.1.1,h.1.2,h.2⟩
def Qg.sub{K:Tj}{C:Addr}(c:Qg K C){x:String}(a:kZ.contains (.type x)=true):mroIn K C (.type x)=some true:=by obtain⟨cd,b,e,d,_⟩:=c.cd;unfold mroIn;rw[b,Option.bind_some,if_neg (by grind),gX a _ e]
def qe(C:Addr)(od:Tx)(t:Addr)(T:Value)(sl:Tt):Obj:=⟨.ref C,od,.fields #[.ref t,T,.none,.none,.bool false,.none],sl⟩
section
variable {prog:SV}{w:S_}{A:Tf}{E:Sz}{s:SE}{K:Tj}{x dx C t:Addr}{T:Value}{sl:Tt}{mA:Sx}{name:Str}{v:Value}{R:Result->Shared->Prop}
def oV(X:K.In s.heap)(c:Qg K C)(I:InstAt s.heap x (qe C od t T sl) C oo)(u:takerIn K C name=some none)
  (h:∀b,wpAny (model prog w) A.in1 (Builtin.ObjectAttr.storeInOwnDict (.ref x) (.ref C) (.str name tk) name v b)
   (λj i=>match j with | .done f=>R (.ok f) i | .again l=>l.quiet=true/\codeAny (model prog w) A l R i) (λe i=>R (.error e) i) s):
  codeAny (model prog w) A (.call (.builtin "object.__setattr__") ⟨[.ref x,.str name tk,v],[]⟩) R s:=by
 have g:=PySem.F.store_object;obtain⟨cd,n,p,z,_⟩:=c.cd;have sub:Looks (model prog w) s.heap (isInstance (.ref x) (.type "object")) true:=I.type.andThen (a3b X (c.sub (by decide)));refine a2d g.slot.plain g.entry (@check_slot (model prog w) _ _ s "object.__setattr__" "object" "__setattr__" (.ref x) [.str name tk,v] [] _ g.kind g.split sub (g.args (.ref x) (.str name tk) v) ?_);obtain⟨d,y,o⟩:=a0l.mp u;have m:Looks (model prog w) s.heap (mroOf (.ref C)) cd.mro:=(a3P X n).andThen .now;have q:Looks (model prog w) s.heap (Builtin.ObjectAttr.storeTaker? d) none:=by
  cases d with
  |none=>exact .now
  |some a=>
   obtain⟨b,r,e⟩:=v0.mp o;refine(looks_takesIn X r).andThen ?_;cases b with
   |true=>cases e
   |false=>exact .now
 rw[osa_eq,refuse_eq];refine t0 (t0 (I.type.here (t0 (m.here ?_))));rw[X0 _ _ p];exact S8 (t0 (I.type.here (t0 ((a2O X y).here (t0 (q.here (h _)))))))
def r_(X:K.In s.heap)(c:Qg K C)(i:s.heap.get? x=some (qe C none t T sl))(G:takerIn K C name=some none)
  (h:∀f,f.get? x=some (qe C (some s.heap.objs.size) t T sl)->f.Ns1 s.heap.objs.size (λy=>if y=name then some v else none)->
   (∀b o,b≠x->s.heap.get? b=some o->f.get? b=some o)->Q () { s with heap:=f,toks:=s.toks+2 }):
  wpAny (model prog w) A (setAttr (.ref x) name v) Q E s:=by
 have I:InstAt s.heap x (qe C none t T sl) C none:=⟨i,rfl,rfl,trivial⟩;refine set_plain X I c.sa (oV X c I G λb=>?_);obtain⟨cd,z,_,_,D⟩:=c.cd;have d:=a0g (S9 i);have a:(s.heap.push emptyDict).get? x=some (qe C none t T sl):=S6 _ i;refine t0 (S8 (t0 (t0 (a1S i (t0 (Looks.here (a3P X z) ?_))))));rw[D];refine t0 (wpAny_alloc' (t0 (wpAny_update' a (S8 ?_))));have j:((s.heap.push emptyDict).update x λo=>{ o with dict:=some s.heap.objs.size }).get? x=some (qe C (some s.heap.objs.size) t T sl):=a00 _ a rfl;have l:((s.heap.push emptyDict).update x λo=>{ o with dict:=some s.heap.objs.size }).get? s.heap.objs.size=some emptyDict:=(a2k _ _ _ _ d.symm).trans (Heap.get?_push_at rfl rfl);have n:((s.heap.push emptyDict).update x λo=>{ o with dict:=some s.heap.objs.size }).Ns s.heap.objs.size (λ_=>none):=⟨_,#[],_,l,rfl,λe H=>absurd H (by simp),λ_=>rfl⟩;refine t0 (S8 (t0 ?_));refine a3I (Heap.Ns1.of_empty n) λf g r=>?_;obtain⟨J,F,u,m,q,p⟩:=g.count (a2A name v PySem.Within.nil);refine t0 (a2K m (by rw[q];exact a2L (T9 p (by simp))) ?_);exact S8 (h _ ((r.2 _ d).trans j) g λb o B e=>((r.2 _ (a0g (S9 e))).trans ((a2k _ _ _ _ B).trans (S6 _ e))))
def uD(X:K.In s.heap)(c:Qg K C)(m:s.heap.get? x=some (qe C (some dx) t T sl))(n:s.heap.Ns1 dx mA)(D:dx≠x)(B:takerIn K C name=some none)
  (p:PySem.Within mA ns) (hsz:ns.length<=sizeLine)
  (h:∀e,e.Ns1 dx (λy=>if y=name then some v else mA y)->Heap.SameBut dx s.heap e->Q () { s with heap:=e,toks:=s.toks+2 }):
  wpAny (model prog w) A (setAttr (.ref x) name v) Q E s:=by
 obtain⟨z,j,_⟩:=aI n;have I:InstAt s.heap x (qe C (some dx) t T sl) C (some z):=⟨m,rfl,rfl,j⟩;refine set_plain X I c.sa (oV X c I B λb=>?_);obtain⟨cd,q,_,_,r⟩:=c.cd;refine t0 (S8 (t0 (t0 (a1S m (t0 (Looks.here (a3P X q) ?_))))));rw[r];refine S8 (t0 (S8 (t0 ?_)));refine a3I n λe d f=>?_;obtain⟨F,u,o,g,l,i⟩:=d.count (a2A name v p);exact t0 (a2K g (by rw[l];exact a2L (T9 i (by rw[v4];omega))) (S8 (h _ d f)))
end
def strKeys(es:Array DictEntry):Bool:=es.toList.all λe=>match e.key with | .str _ _=>true|_=>false
def gY(K:Tj):List Value->Bool
 |.ref a::r=>(match K.lookup a with
   |some ⟨_,_,.cls cd,_⟩=>(match K.lookup cd.ns with
     |some ⟨_,_,.dict b _,_⟩=>strKeys b&&(b.toList.all λe=>!e.key.isStr "__init__")
     |_=>false)
   |_=>false)&&gY K r
 |l=>l==kZ
def sd{h:Heap}{N:Addr}{c:Value}{b:Tx}{es:Array DictEntry}{ep:Nat}{sl:Tt}(e:h.get? N=some ⟨c,b,.dict es ep,sl⟩)(k:strKeys es=true)
  (hi:(es.toList.all λe=>!e.key.isStr "__init__")=true):∃m,h.Ns N m/\m "__init__"=none:=by
 refine⟨λn=>nsFind es n,⟨_,es,ep,e,rfl,λx a=>?_,λ_=>rfl⟩,?_⟩
 .have q:=a1v.mp k x (a3r.mpr a);split at q
  .rename_i n t d;exact⟨n,t,d⟩
  .cases q
 .show nsFind es "__init__"=none;unfold nsFind findBy;rw[<- a3H,List.find?_eq_none.mpr λx a=>by simpa using a1v.mp hi x a];rfl
theorem uE{K:Tj}{h:Heap}(X:K.In h):∀l:List Value,gY K l=true->OwnTail h kZ l
 |.ref a::r,e=>by
  obtain⟨b,i⟩:=a3u.mp e;split at b
  .rename_i c w cd u s;split at b
   .rename_i x g v t q f;obtain⟨o,p⟩:=a3u.mp b;obtain⟨m,j,d⟩:=sd (X _ _ f) o p;exact .own (X _ _ s) j d (uE X r i)
   .cases b
  .cases b
 |[],e=>by cases e
 |.type n::r,e=>by rw[show Value.type n::r=kZ from a0u.mp e];exact .base
 |.none::r,e=>by rw[show Value.none::r=kZ from a0u.mp e];exact .base
 |.bool _::r,e=>by rw[a0u.mp e];exact .base
 |.int _ _::r,e=>by rw[a0u.mp e];exact .base
 |.str _ _::r,e=>by rw[a0u.mp e];exact .base
 |.bytes _ _::r,e=>by rw[a0u.mp e];exact .base
 |.float _ _::r,e=>by rw[a0u.mp e];exact .base
 |.builtin _::r,e=>by rw[a0u.mp e];exact .base
 |.ellipsis::r,e=>by rw[a0u.mp e];exact .base
 |.notImplemented::r,e=>by rw[a0u.mp e];exact .base
structure XMk(K:Tj)(C f:Addr):Prop where
 cls:∃nm q N bs bm sn sub ab col dd k0 k1 k2 k3 k5,K.lookup C=some (excClassObj nm q C N bs bm true sn sub ab col dd k0 k1 k2 k3 k5 "ValueError.__new__")/\gY K bm=true
 init:findIn K (.ref C) "__init__"=some (some (.ref f))
 fn:typeIn K (.ref f)=some (.type "function")
 kp:keepIn K (.ref C)=true
section
variable {prog:SV}{w:S_}{A:Tf}{E:Sz}{K:Tj}{C f:Addr}{h:Heap}{g:Array GenState}{d:Drawn}{t:Nat}{os:OsState}
def Ep(rest:SO):Obj:={ cls:=.type "tuple",data:=.seq rest.toArray }
def OR{rest:SO}{Q:Sz}(M:XMk K C f)(X:K.In h)(hrest:rest.length<=sizeLine)
  (hq:codeAny (model prog w) (A.under (.builtin "type.__call__" ⟨.ref C::rest,[]⟩)) (.call (.ref f) ⟨.ref (h.objs.size+1)::rest,[]⟩) (λr s'=>match r with | .ok (.ret v)=>v=.none/\Q (.ref (h.objs.size+1)) s' | .ok _=>False | .error e=>E e s')
   ⟨(h.push (Ep rest)).push (qe C none h.objs.size .none #[]),g,d,t,os⟩):
  wpAny (model prog w) A (call (.ref C) rest) Q E ⟨h,g,d,t,os⟩:=by
 obtain⟨nm,q,N,bs,bm,sn,sub,ab,col,dd,k0,k1,k2,k3,k5,hK,hT⟩:=M.cls;have hC:=X _ _ hK;have T:=uE X _ hT;have F:=PySem.F.excBase_ValueError;have f1:=tc_lookup;have f2:=tc_bind (.ref C);have hTy:(⟨h,g,d,t,os⟩:Shared).TypeIs (.ref C) "type":=⟨_,hC,rfl⟩;refine a1I (codeAny_of_tree ?_);show wpAny _ _ (callAny (.ref C) _) _ _ _
 repeat(any_goals(first|assumption|with_reducible refine wpAny_loadPart_at hC ?_|wp_step))
 refine And.intro rfl (codeAny_call_builtin_at (a3K _ (by decide +kernel)) entry_typeCall (wpAny_check_type_call_sub hC ?_))
 repeat(first|with_reducible refine wpAny_loadPart_at hC ?_|with_reducible refine wpAny_madeBy_exc hC ?_|wp_step)
 refine codeAny_call_builtin_code (a3K _ F.quiet) (wpAny_check_new_subT F T hC (codeAny_exc_new_subT F T hC ?_ hrest));show wpAny _ _ _ _ _ ⟨(h.push (Ep rest)).push (qe C none h.objs.size .none #[]),g,d,t,os⟩;have kp:∀b o,h.get? b=some o->((h.push (Ep rest)).push (qe C none h.objs.size .none #[])).get? b=some o:=λb o e=>S6 _ (S6 _ e);have hx:((h.push (Ep rest)).push (qe C none h.objs.size .none #[])).get? (h.objs.size+1)=some (qe C none h.objs.size .none #[]):=by heap_get
 have X1:K.In ((h.push (Ep rest)).push (qe C none h.objs.size .none #[])):=X.keeps kp;have t1:Looks (model prog w) ((h.push (Ep rest)).push (qe C none h.objs.size .none #[])) (typeOf (.ref (h.objs.size+1))) (.ref C):=(Looks.ld hx).andThen .now;have s1:Looks (model prog w) ((h.push (Ep rest)).push (qe C none h.objs.size .none #[])) (isSubtype (.ref C) (.ref C)) true:=a3b X1 (by
  unfold mroIn clsIn;rw[hK];simp)
 have i1:=a2O (M:=model prog w) X1 M.init;have b1:=bind_fn (M:=model prog w) X1 (.ref (h.objs.size+1)) M.fn;unfold isInstance callSpecial? specialOf
 repeat(first|with_reducible refine a1I ?_|lk)
 refine a1F hq λr s' z=>?_;rcases r with e|(v|_|_|_)<;>first|exact z|exact z.elim|skip
 obtain⟨rfl,z⟩:=z;exact S8 (S8 z)
end
def XO(e C:Addr)(od:Tx)(T:Value):HO:=.ext λh=>∃t a,h.get? e=some (qe C od t T a)
def XD(b:Addr)(fs:Tg):HO:=.ext λh=>∃a,h.Ns1 b a/\(∀f,U9 (fs.lookup f) (a f))/\PySem.Within a (fs.map (·.1))/\fs.length<=1000
def XO.ok(x:h.get? e=some (qe C od t T sl)):qr P w H h e (XO e C od T):=
 ⟨⟨t,sl,x⟩,⟨_,x⟩,λ_ _ ⟨b,a,p⟩ k=>⟨b,a,k _ p⟩⟩
def XO.get(x:qr P w H h e (XO e C od T)):∃t a,h.get? e=some (qe C od t T a):=x.1
def XD.ok(n:h.Ns1 dx mA)(r:∀f,U9 (fs.lookup f) (mA f))(e:PySem.Within mA (fs.map (·.1)))(l:fs.length<=1000):qr P w H h dx (XD dx fs):=by refine⟨⟨mA,n,r,e,l⟩,?_,λi g ⟨m,⟨o,c,b,a,q⟩,d⟩ k=>⟨m,⟨o,c,b,k _ a,q⟩,d⟩⟩;obtain⟨o,c,b,a,_⟩:=n;exact⟨o,a⟩
def XD.get(x:qr P w H h dx (XD dx fs)):∃a,h.Ns1 dx a/\(∀f,U9 (fs.lookup f) (a f))/\PySem.Within a (fs.map (·.1))/\fs.length<=1000:=x.1
def Inv.F7(I:Inv X pins σ H s)(he:H e=some (XO e C od T))(ch:To)(d:∀b∈ch,X.s₀.heap.objs.size<=b/\H b=none/\b≠X.env.locals/\(∀x c,X.env.cells.lookup x=some c->c≠b)/\∀p∈X.pn++pins,p.1≠b)
  (keep:∀b o,b≠e->b∉ch->b∉frs X.stack->s.heap.get? b=some o->h'.get? b=some o)
  (l:∀b o,b∈frs X.stack->s.heap.get? b=some o->∃g,h'.get? b=some { o with slots:=g })
  (F:∃t g,h'.get? e=some (qe C od t T' g)):Inv X pins σ (upd H e (XO e C od T')) { s with heap:=h' }:=by
 have w:∀b,H b=none->b≠e:=λb n z=>by rw[z,he]at n;cases n
 have D:∀b o,H b=some o->b∉frs X.stack:=λb o q z=>by rw[I.eG b z]at q;cases q
 have E:∀b o,H b=some o->b∉ch:=λb o q z=>by rw[(d b z).2.1]at q;cases q
 obtain⟨N,O,i⟩:=F;have any:=λb o h B q=>by
  by_cases hf:b∈frs X.stack
  .exact l b o hf q
  .exact⟨o.slots,keep b o B h hf q⟩
 refine I.step (λb h=>⟨.inr (d b h).1,(d b h).2.2⟩) (λb o A h f q n=>keep b o (w b n) f (λz=>?_) q) (λb o _ _ f q n=>any b o f (w b n) q)
  (λb o _ _ n=>by rw[zh (w b n)];exact n) (λb o f q=>?_) (λb J q=>?_) (λb o u q=>?_) (λb P q=>⟨#[],?_⟩) (λm G=>?_) (λb u q=>?_) I.bare
 .rcases T1.mp (I.dr b z)with z|z
  .exact A z
  .exact h z
 .by_cases a:b=e
  .exact⟨_,a▸i⟩
  .obtain⟨g,y⟩:=any b o f a q;exact⟨_,y⟩
 .have:b≠e:=λz=>by rw[z,he]at q;cases q
  rw[zh this];exact q
 .have:b≠e:=λz=>by rw[z,he]at q;cases q
  rw[zh this];exact q
 .have:b≠e:=λz=>by rw[z,he]at q;cases q
  rw[zh this,q];simp
 .obtain⟨o,L,K,M,r⟩:=G;have A:=I.free;obtain⟨g,y⟩:=any _ o (λz=>(d _ z).2.2.1 rfl) (w _ A) M;exact⟨_,L,K,y,r⟩
 .by_cases a:b=e
  .subst a;rw[ze]at q;cases q;exact XO.ok i
  .rw[zh a]at q;refine(I.hok b u q).BV (λc v f r=>?_) (λc r=>?_) λc J r=>?_
   .rcases f with z|z
    .subst z;exact keep c v a (E c u q) (D c u q) r
    .have:c≠e:=λj=>by rw[j,he]at z;cases z
     exact keep c v this (E c _ z) (D c _ z) r
   .have:c≠e:=λj=>by rw[j,he]at r;cases r
    rw[zh this];exact r
   .have:c≠e:=λj=>by rw[j,he]at r;cases r
    rw[zh this];exact r
structure Tb(X:Cx)(pins:Sw)(H:Hp)(s:SE)(Ta:Addr)(fl:Value):Prop where
 tbk:∃oT ts,s.heap.get? Ta=some oT/\oT.data=.fields ts/\ts[3]?=some fl
 new:X.s₀.heap.objs.size<=Ta
 free:H Ta=none
 pin:∀p∈X.pn++pins,p.1≠Ta
def Own(X:Cx):Prop:=X.stack=X.env::X.outer/\X.env.frame=some X.env.locals
def Tb.ok(I:Inv X pins σ H s)(b:Tb X pins H s Ta fl):Ta≠X.env.locals/\(∀x c,X.env.cells.lookup x=some c->c≠Ta)/\Ta∉frs X.stack:=by
 obtain⟨i,j,e,f,_⟩:=b.tbk;have g:Ta≠X.env.locals:=λz=>by obtain⟨m,⟨o,n,l,a,d,_⟩,_⟩:=I.loc;rw[z]at e;rw[e]at a;cases a;rw[f]at d;cases d
 refine⟨g,λx c q z=>?_,λz=>?_⟩
 .obtain⟨v,o,a,d⟩:=I.cell x c q;rw[z,e]at a;cases a;rw[f]at d;cases d
 .rcases T1.mp (I.dr _ z)with z|z
  .exact g z
  .obtain⟨_,o,a,h⟩:=I.oA.mem z;rw[e]at a;cases a;exact h _ f
def uF(I:Inv X pins σ H s)(he:H e=some (XO e C od (.ref Ta)))(b:Tb X pins H s Ta fl)
  (m:∀i,Inv X pins σ (upd H e (XO e C od (.ref Ta))) { s with heap:=i }->Tb X pins (upd H e (XO e C od (.ref Ta))) { s with heap:=i } Ta (f.elim .none λf=>rawInt f)->Q () { s with heap:=i }):
  wpAny M A (setFlight (.ref e) f) Q E s:=by
 obtain⟨t,p,j⟩:=XO.get (I.hok e _ he);obtain⟨w,y,l,h,v⟩:=id b.tbk;obtain⟨r,u,n⟩:=b.ok I;have g:Ta≠e:=λz=>by have:=b.free;rw[z,he]at this;cases this
 have sz:=(a1M.mp v).1;refine t0 (a2q j rfl (x:=.ref Ta) rfl ?_);refine a3g l h sz ?_;have d:∀c,c≠Ta->(s.heap.update Ta (Obj.mapFields (·.setIfInBounds 3 (f.elim .none λf=>rawInt f)))).get? c=s.heap.get? c:=λc a=>a0w _ _ (Ne.symm a);refine m _ (I.F7 he [Ta] (λc a=>?_) (λc o _ a _ q=>(d c (by grind)).trans q) (λc o a q=>⟨o.slots,(d c (λz=>n (z▸a))).trans q⟩) ⟨t,p,(d e (Ne.symm g)).trans j⟩) ⟨⟨_,_,Heap.get?_update_self _ l (Obj.isFreed_of_fields (Obj.data_mapFields h _)),Obj.data_mapFields h _,by simp[sz]⟩,b.new,by rw[zh g];exact b.free,b.pin⟩;obtain rfl:c=Ta:=by simpa using a
 exact⟨b.new,b.free,r,u,b.pin⟩
def Cd(I:Inv X pins σ H s)(he:H e=some (XO e C od .none))(a:Q () s):wpAny M A (setFlight (.ref e) f) Q E s:=by obtain⟨t,c,b⟩:=XO.get (I.hok e _ he);refine t0 (a2q b rfl rfl ?_);exact S8 a
def gZ(b:Own X)(w:A.frames=some X.stack)(I:Inv X pins σ H s)(he:H e=some (XO e C od T))
  (F:∀r u,Inv X pins σ (upd H e (XO e C od (.ref r))) { s with heap:=u }->Tb X pins (upd H e (XO e C od (.ref r))) { s with heap:=u } r (rawInt X.env.locals)->Q () { s with heap:=u }):
  wpAny M A (do setField (.ref e) 1 (<- EntryCells.newEntry head (<- frameOf X.env) .none (rawInt X.env.locals) .none (<- entryPlaceOf X.env.locals hadNext))) Q E s:=by
 obtain⟨t,y,D⟩:=XO.get (I.hok e _ he);have h:=I.stack;rw[b.1]at h w;refine t0 (wpAny_frameOf_fun w h b.2 λg a=>?_);refine t0 (wpAny_entryPlaceOf λG i=>?_);refine t0 (a1T ?_ (i.sizeOk5 _ _ _ _ _));have l:e∉frs (X.env::X.outer):=λz=>by have:=I.eG e (by rw[b.1];exact z);rw[he]at this;cases this
 have f:=(a.2.1 e l).trans D;have j:=a0g (S9 f);refine a3g (S6 _ f) rfl (by simp) ?_;have d:∀c o,c≠e->g.get? c=some o->∀x:Obj,((g.push x).update e (Obj.mapFields (·.setIfInBounds 1 (Value.ref g.objs.size)))).get? c=some o:=λc o n q x=>
  (a0w _ _ (Ne.symm n)).trans (S6 _ q)
 have m:=I.hok.fresh (a2b a.1.symm);refine F g.objs.size _ (I.F7 he [] (λ_ z=>nomatch z) (λc o n _ hf q=>d c o n ((a.2.1 c (by rw[b.1]at hf;exact hf)).trans q) _) (λc o hf q=>?_) ⟨t,y,?_⟩) ⟨⟨_,_,(a0w _ _ j).trans (a0k _ rfl),rfl,?_⟩,?_,?_,λp hp z=>?_⟩
 .obtain⟨v,B⟩:=a.2.2 c o q;exact⟨v,d c _ (λz=>l (by rw[b.1]at hf;exact z▸hf)) B _⟩
 .exact a00 _ (S6 _ f) rfl
 .rcases i with rfl|⟨_,_,_,_,_,_,_,rfl⟩<;>simp
 .rw[a.1];exact I.sz
 .rw[zh (Ne.symm j)];exact m
 .have q:=(I.pin p hp).1;exact absurd (S9 q) (by rw[z,a.1];exact a0V _)
structure XIs(K:Tj)(C:Addr):Prop where
 ha:findIn K (.ref C) "__class__"=some (some (.builtin "object.__class__"))
 hn:specialIn K (.builtin "object.__class__") "__get__"=some (some (.builtin "getset_descriptor.__get__"))
 htk:takesIn K (.builtin "object.__class__")=some true
section
variable {prog:SV}{w:S_}{A:Tf}{E:Sz}{s:SE}{K:Tj}{x C:Addr}{sl:Tt}
def Li(X:K.In s.heap)(c:Qg K C)(z:XIs K C)(I:InstAt s.heap x ox C (some od))
  (h:Q (some (.ref C)) { s with toks:=s.toks+1 }):wpAny (model prog w) A (getAttr? (.ref x) "__class__") Q E s:=by
 obtain⟨cd,hc,ho,ne,hdct⟩:=c.cd;have hm:=c.sub (x:="object") (by decide);obtain⟨hp,g,d,tk,os⟩:=s;have L0:=I.type (M:=model prog w);have L1:=a2O (M:=model prog w) X c.ga;have L2:=a2O (M:=model prog w) X c.gn;have Lb:Looks (model prog w) hp (isInstance (.ref x) (.type "BaseException")) true:=L0.andThen (a3b X (c.sub (x:="BaseException") (by decide)));have hf:findObj K C (some od) "__class__"=some (.bind (.builtin "getset_descriptor.__get__") (.builtin "object.__class__")):=findObj_data (by rw[hc];rfl) z.ha z.hn z.htk;have L3:=looks_find (M:=model prog w) X I hf;have ga:=PySem.F.excAttr_ValueError.ga;have f3:=ga.bind (.ref x);unfold getAttr? getAttrBy? getAttrBy;refine t0 (a3L (t0 (a1X (a05 (t0 (L0.at (t0 (L1.at ?_))))))));dsimp only;rw[show(onTheHeap (Value.ref C)&&Value.builtin "BaseException.__getattribute__"==Value.builtin "object.__getattribute__")=false from by
  rw[show(Value.builtin "BaseException.__getattribute__"==Value.builtin "object.__getattribute__")=false from by decide +kernel];rfl]
 show wpAny _ _ (getAttrByItsOwn _ _ _ _ _ _) _ _ _;unfold getAttrByItsOwn;refine t0 (show wpAny _ _ (typeLookup (.ref C) "__getattr__") _ _ _ from L2.at ?_);refine t0 (a1X (a05 ?_));show wpAny _ _ (bindSpecial _ _ >>= _) _ _ _;rw[f3];refine t0 (S8 (a1I (a2d ga.plain F.entry_bexc_ga ?_)));have hk:builtinKind "BaseException.__getattribute__"=some .slot:=by decide +kernel
 have hs:splitId "BaseException.__getattribute__"=some ("BaseException","__getattribute__"):=by decide +kernel
 refine @check_slot (model prog w) _ _ ⟨hp,g,d,tk+1,os⟩ "BaseException.__getattribute__" "BaseException" "__getattribute__" (.ref x) [.str "__class__" tk] [] _ hk hs Lb (F.args_bexc_ga (.ref x) (.str "__class__" tk)) ?_;unfold Builtin.«object.__getattribute__»
 repeat(first|with_reducible refine a1I ?_|lk)
 refine class_get (s:=⟨hp,g,d,tk+1,os⟩) (ox:=ox) (od:=some od) X I hm ?_;exact S8 (S8 (S8 h))
def Ce{ox od:Obj}(c:Qg K C)(z:XIs K C):KitX K (.ref x) (.ref C) (λh=>InstAt h x ox C (some od))where
 ty:=λ_ _ _ I=>I.type
 it:=λ_ _ X _=>by
  obtain⟨cd,a,_⟩:=c.cd;unfold clsIn at a;split at a
  .rename_i l g b f e;intro p u m o k q;exact t0 (a1S (k _ _ (X _ _ e)) (S8 q))
  .cases a
 ne:=λh i r j n sl X d=>by
  obtain⟨cd,a,_⟩:=c.cd;refine Bool.eq_false_iff.mpr λq=>?_;obtain rfl:C=i:=Value.ref.inj (a0u.mp q);unfold clsIn at a;split at a
  .rename_i l g b f e;cases(X _ _ e).symm.trans d
  .cases a
 ca:=λX I k=>Li X c z I k
end
def eR(h:H a=some o):upd H a o=H:=by
 funext b;unfold upd;split
 .rename_i e;rw[e,h]
 .rfl
def XC(e C a:Addr):HO:=.ext λh=>∃t T b,h.get? e=some (qe C (some a) t T b)
def XC.get(x:qr P w H h e (XC e C dx)):∃t T a,h.get? e=some (qe C (some dx) t T a):=x.1
section
variable {X:Cx}{pins:Sw}{σ:St}{H:Hp}{s:SE}{e C Ta:Addr}{od:Tx}{T fl:Value}{M:Model}{A:Tf}{E:Sz}{Q:Unit->Shared->Prop}
def Fl(X:Cx)(pins:Sw)(H:Hp)(s:SE)(e C:Addr)(od:Tx):Prop:=
 ∃T,H e=some (XO e C od T)/\(T=.none\/∃Ta fl,T=.ref Ta/\Tb X pins H s Ta fl/\(fl=.none\/∃n:Int,fl=rawInt n))
def oW(g:Own X)(r:A.frames=some X.stack)(I:Inv X pins σ H s)(f:Fl X pins H s e C od)
  (n:∀l i,Inv X pins σ (upd H e (XO e C od (.ref l))) { s with heap:=i }->Tb X pins (upd H e (XO e C od (.ref l))) { s with heap:=i } l (rawInt X.env.locals)->Q () { s with heap:=i }):
  wpAny M A (noteFrame (.ref e) X.env) Q E s:=by
 obtain⟨T,a,G⟩:=f;obtain⟨t,D,p⟩:=XO.get (I.hok e _ a);unfold noteFrame;simp only[g.2];refine t0 (a2q p rfl (x:=T) rfl ?_);rcases G with rfl|⟨Ta,fl,rfl,b,y⟩
 .exact gZ g r I a n
 .obtain⟨L,N,v,u,w⟩:=id b.tbk;refine t0 (a2q v u w ?_);by_cases j:¬(fl==rawInt X.env.locals)=true
  .rw[if_neg j];obtain⟨F,K,B⟩:=b.ok I;have m:Ta≠e:=λz=>by have:=b.free;rw[z,a]at this;cases this
   have sz:=(a1M.mp w).1;refine t0 (a3g v u sz ?_);have h:∀c,c≠Ta->(s.heap.update Ta (Obj.mapFields (·.setIfInBounds 3 .none))).get? c=s.heap.get? c:=λc d=>a0w _ _ (Ne.symm d);have J:=by
    have:=I.F7 a [Ta] (λc d=>by
     obtain rfl:c=Ta:=by simpa using d
     exact⟨b.new,b.free,F,K,b.pin⟩) (λc o _ d _ q=>(h c (by grind)).trans q) (λc o d q=>⟨o.slots,(h c (λz=>B (z▸d))).trans q⟩) ⟨t,D,(h e (Ne.symm m)).trans p⟩
    rwa [eR a]at this
   exact gZ g r J a λl i=>n l i
  .have j:=Classical.not_not.mp j;rw[if_pos j];obtain rfl:fl=rawInt X.env.locals:=eq_of_beq j;refine S8 ?_;have:=n Ta s.heap (by rw[eR a];exact I) (by rw[eR a];exact b);exact this
end
def OS(X:Cx)(E:XK)(v:Value)(c:SE):Prop:=∃d a e C b,v=.ref e/\Inv X.nox [] d a c/\Fl X.nox [] a c e C (some b)/\E (.ref e) (some b) (upd a e (XC e C b))
def CXe(P:SV)(w:S_):CXT:=λa H s E v c=>∃e C f d g h b,v=.ref e/\c.os=s.os/\AllBare c.gens/\Un (frs a) [] H b s.heap c.heap/\HOk P w b c.heap/\
 b e=some (XO e C (some f) (.ref d))/\c.heap.get? d=some g/\g.data=.fields h/\h[3]?=some .none/\b d=none/\s.heap.objs.size<=d/\E (.ref e) (some f) (upd b e (XC e C f))
abbrev thr(X:Cx)(E:XK):Cx:=X.cF (OS X E)
def Inv.thrown(I:Inv X pins σ H s)(h:CXe X.prog X.w X.stack H s E v s'):
  ∃a e C c,v=.ref e/\Inv X pins σ a s'/\Fl X pins a s' e C (some c)/\E (.ref e) (some c) (upd a e (XC e C c)):=by
 obtain⟨e,C,c,i,g,l,a,rfl,m,bare,un,d,u,o,j,r,t,f,q⟩:=h;have n:=I.IC m un d bare λb z=>absurd z (by simp);refine⟨a,e,C,c,rfl,n,⟨_,u,.inr ⟨i,_,rfl,⟨⟨g,l,o,j,r⟩,T9 I.sz f,t,λp hp z=>?_⟩,.inl rfl⟩⟩,q⟩;have:=S9 (I.pin p hp).1;rw[z]at this;exact absurd f (Nat.not_le.mpr this)
def Inv.oX(I:Inv X pins σ H s):Inv X [] σ H s:=I.eI λ_ h=>nomatch h
def Fl.oX(f:Fl X pins H s e C od):Fl X [] H s e C od:=by obtain⟨T,g,h⟩:=f;refine⟨T,g,h.imp id λ⟨a,d,i,b,c⟩=>⟨a,d,i,⟨b.tbk,b.new,b.free,λp hp=>b.pin p ?_⟩,c⟩⟩;rw[a0m]at hp;exact T8 _ hp
def Fl.cF(f:Fl X pins H s e C od):Fl (X.cF E) pins H s e C od:=by obtain⟨T,g,h⟩:=f;exact⟨T,g,h.imp id λ⟨a,d,i,b,c⟩=>⟨a,d,i,⟨b.tbk,b.new,b.free,b.pin⟩,c⟩⟩
def zz:Passes (CXe X.prog X.w) (thr X E) E:=λa g H s v i I h=>by obtain⟨b,e,C,c,rfl,d,f,q⟩:=Inv.thrown I h;exact⟨g,b,e,C,c,rfl,(d.vM.cF _).oX,(Fl.cF (X:=thr X E) f.oX),q⟩
def aO:Passes (CXe P w) X E0:=λa j H s v i I h=>by obtain⟨e,C,g,f,c,d,b,_,_,_,_,_,_,_,_,_,_,_,q⟩:=h;exact False.elim q
def zo(a:Own X):PassesOwn (a32 X) X.A X.env (OS X E):=λv o ⟨m,p,e,C,i,n,I,f,q⟩=>by
 subst n;have l:=I.ok.frames;refine oW (X:=X.nox) a l I f λc u h b=>?_;obtain⟨t,s,j⟩:=XO.get (h.hok e _ ze);refine t0 (a2q j rfl (x:=.ref c) rfl ?_);refine uF h ze b λr g d=>?_;rw[Xh]at g d;refine⟨m,_,e,C,i,rfl,g,⟨_,ze,.inr ⟨c,_,rfl,d,.inr ⟨X.env.locals,?_⟩⟩⟩,?_⟩
 .rw[a.2];rfl
 .rw[Xh];exact q
def Lj{P:SV}{w:S_}{K:Tj}{l:Sx}{d:Heap}{N:SA}{g:Str}{c:Scope}{f:Addr}{cd:Value}{A:Tf}{a:List Env}{s:SE}{H:Hp}{E:XK}{v:Value}{m:SE}
  (h:OS (r8 (CXe P w) P w K l d N g c f cd A a s H E) E v m):(r8 (CXe P w) P w K l d N g c f cd A a s H E).xe v m:=by
 obtain⟨F,G,e,C,r,B,I,y,q⟩:=h;subst B;have n:Own (r8 (CXe P w) P w K l d N g c f cd A a s H E):=⟨rfl,rfl⟩;show wpAny (model P w) _ (leaving _ (.ref e)) _ _ m;refine t0 (oW (X:=(r8 (CXe P w) P w K l d N g c f cd A a s H E).nox) n I.ok.frames I y λu L x b=>?_);refine uF x ze b λJ i j=>?_;rw[Xh]at i j;obtain⟨p,t,z,o,D⟩:=j.tbk;exact⟨e,C,r,u,p,t,_,rfl,i.os,i.bare,i.base,i.hok,ze,z,o,D,j.free,j.new,by rw[Xh];exact q⟩
def PSs.OT{X:Cx}{E:Sz}{st:Ts}{t:TS}(h:PSs (X.cF E) st t)(b:∀v s,E v s->X.xe v s):PSs X st t:=λa s d H D I c=>
 a0O (h a s d H D (I.cF E) c) (λ_ _ q=>q.vM) b
section
variable {P:SV}{w:S_}{K:Tj}{mg:Sx}{base:Heap}
def Fun.okX{x b:Str}{st:TB}{f:Addr}{i:Td}{N g:SA}{k:Nat}{sp:Sp}(F:Fun K x b st f i)(S:zl N g (zi st))(len:∀d H Q E,sp d H Q E->d.length=g.length)
  (p:∀(c:Value)(A:Tf)(a:List Env)(s:SE)(H:Hp)(d:SR)(Q:VK) (E:XK),vF k (A.deeper (envOfC b (zi st) s.heap.objs.size f c))->sp d H Q E->
   ∃t,PSs (thr (r8 (CXe P w) P w K mg base N b (zi st) f c A a s H E) E) (Ya st) t/\t { nx:=λ_ j=>Q .non j,rt:=Q } (start N d) H):yz P w K mg base (CXe P w) (k+1) f i g sp:=by
 obtain⟨r,z,kV,o,y,u,c,ct,n,rfl,m,e⟩:=F.ex;refine OG m e S len λA a s H d Q E l hsp=>?_;obtain⟨t,h,q⟩:=p c A a s H d Q E l hsp;exact⟨t,h.OT λv s h=>Lj h,q⟩
end
def Lk(C:Addr)(sp:Sp)(E:XK)(t:TA):TE:=λd H Q=>t d H λa b=>a.length<=1000/\∀x,b x=none->sp (.ref x::a) (upd b x (XO x C none .none)) (λv c=>v=.non/\Q (.ref x) c) E
def Inv.OU(I:Inv X pins σ H s):
  Inv X pins σ (upd H (s.heap.objs.size+1) (XO (s.heap.objs.size+1) C none .none)) { s with heap:=(s.heap.push (Ep us)).push (qe C none s.heap.objs.size .none #[]) }:=
 I.laid (λb u e=>S6 _ (S6 _ e)) (a1s _) (XO.ok (by heap_get))
def uG(M:XMk X.K C f)(F:yz X.prog X.w X.K X.mg X.base CX k f fd ps sp)(y:vF (k+1) X.A)(A:Binds X.K fd ps [])
  (n:Passes CX X E) (I:Inv X pins σ H s) (r:Vals vs us) (J:vs.length<=1000) (h:∀x,H x=none->sp (.ref x::vs) (upd H x (XO x C none .none)) (λv t=>v=.non/\Q (.ref x) t) E):
  wpAny (a32 X) X.A (call (.ref C) us) (EP X pins σ Q) X.xe s:=by
 have j:=h (s.heap.objs.size+1) (I.hok.fresh (a1s _));have b:=Inv.OU (C:=C) (us:=us) I;have l:Vals (V.ref (s.heap.objs.size+1)::vs) (Value.ref (s.heap.objs.size+1)::us):=.cons rfl r;have c:(Value.ref (s.heap.objs.size+1)::us++[]).length=ps.length:=by have e:=l.length;rw[F.len _ _ _ _ j]at e;rw[a0m];exact e.symm
 have i:=A _ (Value.ref (s.heap.objs.size+1)::us) b.kIn c;rw[a0m]at i;obtain⟨q,g,d,D,G⟩:=s;refine OR M I.kIn (by rw[<- r.length,a0P];omega) (a1F (F.run _ X.stack _ _ ⟨_::us,[]⟩ _ _ _ E (y.make C us []) (b.um.make C us []) i l j) λr o a=>?_);cases r with
 |error e=>exact n pins σ _ _ e o b a
 |ok B=>
  cases B with
  |ret u=>obtain⟨v,p,w,z,ev,m⟩:=b.after a;subst ev;exact⟨z,⟨V.ref (q.objs.size+1),p,w,rfl,m⟩⟩
  |next=>exact False.elim a
  |brk=>exact False.elim a
  |cont=>exact False.elim a
def Cf(M:XMk X.K C f)(F:yz X.prog X.w X.K X.mg X.base CX k f fd ps sp)(l:vF (k+1) X.A)(j:Gl X x)(i:X.mg x=some (.ref C))(m:Binds X.K fd ps [])(d:Passes CX X E)
  (n:PA X (e::es) t) (b:(x==("__debug__":Str))=false:=by decide) (he:starEach (e::es) X.env=(false,eval e X.env)::starEach es X.env:=by rfl) (hpl:(backTo pos (starEach es X.env)).any (·.1)=false:=by rfl):
  PE X (.Call (.Name x p) (e::es) [] pos) (Lk C sp E t):=by
 intro a s g H Q I h;refine a01 (eK I j i ?_ b);refine a1Q I.ok.mod.kin M.kp (thn (n pos a s g H _ I h) λu w ⟨v,y,c,r,o,q⟩=>⟨c.kIn,?_⟩) he hpl;exact uG M F l m d c r o q
def OV(K:Tj)(d h:TE)(f:Str):TS:=λD c H=>h c H λy g=>d c g λx b=>∃e C T,x=.ref e/\Qg K C/\takerIn K C f=some none/\
  ((b e=some (XO e C none T)/\∀a,b a=none->D.nx c (upd (upd b a (XD a [(f,y)])) e (XO e C (some a) T)))\/
   (∃a fs,b e=some (XO e C (some a) T)/\b a=some (XD a fs)/\a≠e/\fs.length<1000/\D.nx c (upd b a (XD a (VI f y fs)))))
section
variable {X:Cx}{o value:SN}{f:Str}{pos pos':Pos}{ta tv:TE}
def jL(ha:PE X o ta)(hv:PE X value tv)(hs:swapsWith value (some (.Attribute o f pos')) pos.line X.env=pure false):PS X (.Assign [.Attribute o f pos'] value pos) (OV X.K ta tv f):=by
 intro m s L H D I h;refine a18 (thn (hv m s L H _ I h) λu s1 ⟨y,H1,I1,W,q⟩=>thn (ha m s1 L H1 _ I1 q) λZ w ⟨x,R,i,rx,e,C,T,ex,c,P,A⟩=>?_) hs;subst ex;obtain rfl:Z=Value.ref e:=rx;rcases A with⟨a,A⟩|⟨K,fs,a,U,ne,l,A⟩
 .obtain⟨t,sl,J⟩:=XO.get (i.hok e _ a);have hne:=a1g (S9 J);have B:=i.hok.fresh (S5 _);refine r_ i.kIn c J P λM E j G=>⟨L,_,?_,A _ B⟩;have lt:∀b o,w.heap.get? b=some o->b≠w.heap.objs.size:=λb o q=>a0g (S9 q);have d:∀b o,R b=some o->b≠w.heap.objs.size:=λb o q z=>by rw[z,B]at q;cases q
  refine i.un ⟨λb o q n _ _=>G b o (λz=>by rw[z,a]at n;cases n) q,λb o q n _ _=>⟨o.slots,G b o (λz=>by rw[z,a]at n;cases n) q⟩,λb o q n _=>?_,λb o q _=>?_,λb Y q=>?_,λb o u q=>?_,λb ps q=>⟨#[],?_⟩⟩ λb ob q=>?_
  .rw[zh (λz=>by rw[z,a]at n;cases n),zh (lt b o q)];exact n
  .by_cases p:b=e
   .exact⟨_,p▸E⟩
   .exact⟨o,G b o p q⟩
  .rw[zh (λz=>by rw[z,a]at q;cases q),zh (d b _ q)];exact q
  .rw[zh (λz=>by rw[z,a]at q;cases q),zh (d b _ q)];exact q
  .rw[zh (λz=>by rw[z,a]at q;cases q),zh (d b _ q),q];simp
  .by_cases p:b=e
   .subst p;rw[ze]at q;cases q;exact XO.ok E
   .rw[zh p]at q;by_cases F:b=w.heap.objs.size
    .subst F;rw[ze]at q;cases q;refine XD.ok j (λg=>?_) (λg O=>?_) (by simp)
     .by_cases z:g=f
      .subst z;simp only[List.lookup,beq_self_eq_true];exact W
      .rw[if_neg z];simp only[List.lookup,beq_eq_false_iff_ne.mpr z];exact True.intro
     .by_cases z:g=f
      .subst z;exact T2.mpr rfl
      .exact absurd (if_neg z) O
    .rw[zh F]at q;refine(i.hok b ob q).BV (λc v hc r=>G c v ?_ r) (λc r=>?_) λc Y r=>?_
     .rcases hc with z|z
      .rw[z];exact p
      .intro z2;rw[z2,a]at z;cases z
     .rw[zh (λz=>by rw[z,a]at r;cases r),zh (d c _ r)];exact r
     .rw[zh (λz=>by rw[z,a]at r;cases r),zh (d c _ r)];exact r
 .obtain⟨t,sl,J⟩:=XO.get (i.hok e _ a);obtain⟨S,hn,r,Q,l1⟩:=XD.get (i.hok K _ U);refine uD i.kIn c J hn ne P Q (by rw[f8,a0P];omega) λM j sb=>⟨L,_,?_,A⟩;have N:∃u,M.get? K=some u:=let⟨o,_,_,e',_⟩:=j;⟨o,e'⟩
  refine i.write (by rw[U];exact True.intro) (.inl rfl) (λb u p z=>(sb.2 b p).trans z) N (XD.ok j (λg=>?_) (λg O=>?_) ?_)
  .rw[Vg];by_cases q:g=f
   .rw[if_pos q,if_pos q];exact W
   .rw[if_neg q,if_neg q];exact r g
  .by_cases q:g=f
   .rw[q];exact(Qi f y fs).1
   .refine(Qi f y fs).2 g (Q g λz=>O ?_);rw[if_neg q];exact z
  .have:=Vh f y fs;omega
def OW(I:Inv X pins σ H s)(he:H e=some (XC e C dx)\/∃T,H e=some (XO e C (some dx) T)):∃t T a,s.heap.get? e=some (qe C (some dx) t T a):=by
 rcases he with he|⟨T,he⟩
 .exact XC.get (I.hok e _ he)
 .obtain⟨t,a,h⟩:=XO.get (I.hok e _ he);exact⟨t,T,a,h⟩
def Ll(K:Tj)(E:XK)(c:TE):TS:=λ_ d H=>c d H λv b=>∃e C a,v=.ref e/\Qg K C/\b e=some (XO e C (some a) .none)/\E (.ref e) (some a) (upd b e (XC e C a))
def Cg(w:X.calm=true)(he:PE (thr X E) e te):PS (thr X E) (.Raise (some e) none pos) (Ll X.K E te):=by
 intro g s m H D I h;refine t0 (a1W ?_);refine t0 (t0 (thn (he g s m H _ I h) λu b ⟨v,F,d,z,a,C,r,ev,c,i,q⟩=>t0 (a1W (S8 ?_))));subst ev;obtain rfl:u=Value.ref a:=z;obtain⟨t,L,n⟩:=XO.get (d.hok a _ i);obtain⟨cd,y,_⟩:=c.cd;have l:Looks (a32 X) b.heap (typeOf (.ref a)) (.ref C):=(Looks.ld n).andThen .now;have B:Looks (a32 X) b.heap (isSubtype (.ref C) (.type "BaseException")) true:=a3b d.kIn (c.sub (by decide));have LI:Looks (a32 X) b.heap (isInstance (.ref a) (.type "BaseException")) true:=l.andThen B;have j:(thr X E).xe (.ref a) b:=⟨m,F,a,C,r,rfl,(d.vM.cF _).oX,⟨.none,i,.inl rfl⟩,q⟩;have A:=d.ok.hd w;have LT:Looks (a32 X) b.heap (isType (.ref a)) false:=by intro K M G J k q;exact t0 (a1S (k _ _ n) (S8 q))
 have LE:Looks (a32 X) b.heap (isExcClass (.ref a)) false:=LT.andThen .now;refine t0 (S8 ?_);refine t0 (a05 ?_);refine t0 (LE.here ?_);simp only[if_false];refine t0 (LI.here ?_);simp only[if_true];refine S8 (t0 (LT.here ?_));simp only[Bool.false_eq_true];have LC:Looks (a32 X) b.heap (typeOf (.ref C)) (.type "type"):=looks_typeIn d.kIn c.ty;have p:Looks (a32 X) b.heap (raisedInstance (.ref a)) (.ref a):=by refine l.andThen (LC.andThen ?_);exact .now
 exact t0 (p.here (t0 (Cd d i (wpAny_raiseNew_none A j))))
end
def TyX(K:Tj)(H:Hp)(x:V)(t:Value):Prop:=tX K H x t\/
 ∃e C a fs,x=.ref e/\t=.ref C/\Qg K C/\XIs K C/\(H e=some (XC e C a)\/∃T,H e=some (XO e C (some a) T))/\H a=some (XD a fs)
def OX:V->Option Value
 |.ref a=>some (.ref a)
 |.ty n=>some (.type n)
 |_=>none
def Ci(r:RelV c u)(e:OX c=some v):u=v:=by
 cases c with
 |ref a=>cases e;exact r
 |ty n=>cases e;exact r
 |_=>cases e
def mO(I:Inv X pins σ H s)(rx:RelV x u)(ty:TyX X.K H x t):∃P,KitX X.K u t P/\P s.heap/\u≠.builtin "__main__.__loader__#opaque":=by
 rcases ty with ty|⟨e,C,dx,fs,rfl,rfl,c,z,he,hd⟩
 .cases ty with
  |non=>cases rx;exact⟨_,kitx_none,True.intro,λz=>nomatch z⟩
  |bl y=>cases rx;exact⟨_,kitx_bool,True.intro,λz=>nomatch z⟩
  |int i=>obtain⟨t,q⟩:= rx;cases q;exact⟨_,kitx_int,True.intro,λz=>nomatch z⟩
  |str y=>obtain⟨t,q⟩:= rx;cases q;exact⟨_,kitx_str,True.intro,λz=>nomatch z⟩
  |flt y=>obtain⟨t,q⟩:= rx;cases q;exact⟨_,kitx_float,True.intro,λz=>nomatch z⟩
  |@lst a xs ea=>cases rx;obtain⟨_,_,n,_,h1⟩:= (I.hok a _ ea);exact⟨_,kitx_list,⟨_,h1,rfl⟩,λz=>nomatch z⟩
  |@frz a ob xs ea=>cases rx;obtain⟨_,_,_,n,_,h1⟩:= (I.hok a _ ea);exact⟨_,kitx_list,⟨_,h1,rfl⟩,λz=>nomatch z⟩
  |@tup a xs ea=>cases rx;obtain⟨_,_,_,p⟩:= (I.hok a _ ea);obtain⟨o,h1,h2,_⟩:=p;exact⟨_,kitx_tuple,⟨o,h1,h2⟩,λz=>nomatch z⟩
  |@dK a kvs ea=>cases rx;obtain⟨_,_,vs,_,p⟩:= (I.hok a _ ea);obtain⟨o,es,ep,h1,h2,_⟩:=p;exact⟨_,kitx_dict,⟨o,h1,h2.1⟩,λz=>nomatch z⟩
  |@dT a kvs ea=>cases rx;obtain⟨_,_,xs,_,o,es,ep,h1,h2,_⟩:= (I.hok a _ ea);exact⟨_,kitx_dict,⟨o,h1,h2.1⟩,λz=>nomatch z⟩
  |@ins a C dx fs ea cl ha hn htk hm=>cases rx;obtain⟨mA,O,_⟩:=eO I.hok ea;obtain⟨od,J,_⟩:=O.look;exact⟨_,kitx_own (cl.get _) cl.hd ha hn htk hm,J,λz=>nomatch z⟩
 .cases rx;obtain⟨t,T,sl,hx⟩:=OW I he;obtain⟨mA,hn,_⟩:=XD.get (I.hok dx _ hd);obtain⟨od,hod,_⟩:=aI hn;exact⟨_,Ce c z,⟨hx,rfl,rfl,hod⟩,λz=>nomatch z⟩
abbrev TEx:=St->Hp->VK->XK->Prop
def Cj(i j:Int):Prop:=i.natAbs<2 ^ 8192/\j.natAbs<2 ^ 8192
def Cj.ok(h:Cj i j):IntMulOk i j:=IntMulOk.of_le (intBits_le_iff.mpr h.1) (intBits_le_iff.mpr h.2) (by decide)
def F8:OpR X (binaryOp .Mult) (rI Cj λi j=>.int (i*j)):=opI λ_ _ _ _ _ _ _ a q=>mul_int q a.ok
def zr.upd{H:Hp}{p:Addr}{o:HO}(h:H p=Option.none):zr H (upd H p o):=λb q e=>by rw[zh (yq e h)];exact e
def mP(cells:Ti):List (Str×NameKind)->List (Str×Addr)->List (Str×Addr)
 |[],a=>a
 | (n,k)::r,a=>mP cells r (if k == .free then(match cells.lookup n with|some c=>(n,c)::a|none=>a)else a)
theorem X3{env:Env}:∀(b:Tq)(d:Ti),(∀y∈b,y.2=.free->(env.cells.lookup y.1).isSome=true)->
  (forIn b d λx r=>if(x.2==NameKind.free)=true then do let a<-cellOf env x.1;pure (ForInStep.yield ((x.1,a)::r))else pure (ForInStep.yield r))=(pure (mP env.cells b d):Sem _)
 |[],d,_=>rfl
 | (n,k)::r,d,h=>by
  rw[List.forIn_cons];have i:=λd=>X3 r d λy l=>h y (S0 _ l);unfold mP;by_cases f:(k==NameKind.free)=true
  .have j:=h (n,k) u8 (a0u.mp f);obtain⟨c,m⟩:=a0G.mp j;have g:=m;simp only[f,cellOf,g];exact i _
  .have e:(k==NameKind.free)=false:=by simpa using f
   simp only[e,if_false];exact i _
def sf(h:∀y∈scope.names,y.2=.free->(env.cells.lookup y.1).isSome=true):closureFor scope env=pure (mP env.cells scope.names []):=by have:=X3 scope.names [] h;simp only[closureFor];rw[this];rfl
theorem JH{cells:Ti}{x:Str}{c:Addr}:∀(b:Tq)(f:Ti),(∀d,f.lookup x=some d->cells.lookup x=some d)->(mP cells b f).lookup x=some c->cells.lookup x=some c
 |[],f,h,e=>h c e
 | (n,k)::r,f,h,e=>by
  refine JH r _ (λd a=>?_) e;by_cases i:(k==NameKind.free)=true
  .rw[if_pos i]at a;split at a
   .rename_i l g;rw[a0z]at a;split at a
    .rename_i j;cases a;rw[a0u.mp j];exact g
    .exact h d a
   .exact h d a
  .rw[if_neg i]at a;exact h d a
theorem eS{cells:Ti}{x:Str}:∀(a:Tq)(b:Ti),((b.lookup x).isSome=true\/((x,NameKind.free)∈a/\(cells.lookup x).isSome=true))->((mP cells a b).lookup x).isSome=true
 |[],b,h=>by
  rcases h with h|⟨h,_⟩
  .exact h
  .cases h
 | (n,k)::r,b,h=>by
  refine eS r _ ?_;rcases h with h|⟨h,d⟩
  .left;by_cases f:(k==NameKind.free)=true
   .rw[if_pos f];split
    .rw[a0z];split
     .rfl
     .exact h
    .exact h
   .rw[if_neg f];exact h
  .rcases T1.mp h with e|e
   .left;cases e;rw[if_pos (by rfl)];obtain⟨c,d⟩:=a0G.mp d;rw[d];simp
   .exact .inr ⟨e,d⟩
theorem F9{x:Str}{c:Addr}:∀(a:Tq)(h:Heap)(b:Ti),(cellsFrom h.objs.size a b).lookup x=some c->b.lookup x=some c\/(h.objs.size<=c/\∃v,(pushCells h a).IsCell c v)
 |[],_,_,e=>.inl e
 | (n,k)::r,h,b,e=>by
  unfold cellsFrom at e;unfold pushCells;split at e
  .rename_i d;rw[if_pos d];have f:(cellsFrom (h.push { cls:=.type "cell",data:=.cell none }).objs.size r ((n,h.objs.size)::b)).lookup x=some c:=by rw[a1t];exact e
   rcases F9 r _ _ f with z|⟨z,v⟩
   .rw[a0z]at z;split at z
    .cases z;exact .inr ⟨S5 _,none,_,a26 r _ _ _ (a0k _ rfl),rfl⟩
    .exact .inl z
   .rw[a1t]at z;exact .inr ⟨a2C z,v⟩
  .rename_i d;rw[if_neg d];exact F9 r h b e
theorem uH:∀(a:Tq)(i:Nat)(b:Ti),(∀x y c,b.lookup x=some c->b.lookup y=some c->x=y)->(∀x c,b.lookup x=some c->c<i)->∀x y c,(cellsFrom i a b).lookup x=some c->(cellsFrom i a b).lookup y=some c->x=y
 |[],_,_,h,_=>h
 | (n,k)::r,i,b,h,g=>by
  unfold cellsFrom;split
  .refine uH r _ _ (λx y c f d=>?_) λx c e=>?_
   .rw[a0z]at f d;split at f<;>split at d
    .rename_i j _ l;rw[a0u.mp j,a0u.mp l]
    .cases f;exact absurd (g _ _ d) (a0V _)
    .cases d;exact absurd (g _ _ f) (a0V _)
    .exact h x y c f d
   .rw[a0z]at e;split at e
    .cases e;exact a0T _
    .exact a1E (g x c e)
  .exact uH r _ _ h g
theorem uI{x:Str}:∀(a:Tq)(c:Nat)(b:Ti),((b.lookup x).isSome=true\/(x,NameKind.cell)∈a)->((cellsFrom c a b).lookup x).isSome=true
 |[],_,_,h=>h.elim id λz=>nomatch z
 | (n,k)::r,c,b,h=>by
  unfold cellsFrom;split
  .refine uI r _ _ ?_;rcases h with h|h
   .left;rw[a0z];split
    .rfl
    .exact h
   .rcases T1.mp h with e|e
    .cases e;left;simp
    .exact .inr e
  .rename_i d;refine uI r _ _ (h.imp id λz=>?_);rcases T1.mp z with e|e
   .cases e;exact absurd rfl d
   .exact e
theorem uJ{x:Str}:∀(a:Tq)(c:Nat)(b:Ti),(x,NameKind.cell)∉a->(cellsFrom c a b).lookup x=b.lookup x
 |[],_,_,_=>rfl
 | (n,k)::r,c,b,h=>by
  unfold cellsFrom;split
  .rename_i d;rw[uJ r _ _ λz=>h (S0 _ z),a0z];have:(x==n)=false:=by
    cases q:x==n with
    |false=>rfl
    |true=>exact absurd (by grind) h
   rw[this]
  .exact uJ r _ _ λz=>h (S0 _ z)
theorem uK{x:Str}{c:Addr}:∀(a:Tq)(j b:Nat)(i:Ti),b<=j->((x,NameKind.cell)∈a\/∀d,i.lookup x=some d->b<=d)->(cellsFrom j a i).lookup x=some c->b<=c
 |[],_,_,_,_,h,e=>h.elim (λz=>nomatch z) λz=>z c e
 | (n,k)::r,j,b,i,g,h,e=>by
  unfold cellsFrom at e;split at e
  .refine uK r _ b _ (a1U g) ?_ e;rcases h with h|h
   .rcases T1.mp h with z|z
    .cases z;refine .inr λd f=>?_;simp at f;rw[<- f];exact g
    .exact .inl z
   .refine .inr λd f=>?_;rw[a0z]at f;split at f
    .cases f;exact g
    .exact h d f
  .rename_i l;refine uK r _ b _ g (h.imp (λz=>?_) id) e;rcases T1.mp z with q|q
   .cases q;exact absurd rfl l
   .exact q
def sg
  (h:Q (newEnv scope s.heap.objs.size globals (cellsFrom (s.heap.objs.size+1) scope.names cl) qual none .none (some env) builtinsNs) { s with heap:=pushCells (s.heap.push { cls:=.type "dict",data:=.dict #[] }) scope.names }):
  wpAny M A (newFunctionEnv scope globals cl [] qual none .none (some env)) Q E s:=by
 simp only[newFunctionEnv,Option.isSome_some,if_true];refine t0 (wpAny_alloc ?_);refine t0 (wpAny_layCells _ (λd a b=>by cases c:a==NameKind.cell<;>simp[c]) _ _ _ _ ?_);rw[show({ s with heap:=s.heap.push { cls:=.type "dict",data:=.dict #[] } }:Shared).heap.objs.size=s.heap.objs.size+1 from a1t ..];refine t0 ?_;rw[List.forIn_nil];exact S8 (S8 h)
abbrev oY(scope:Scope)(cl:Ti)(L:Addr)(env:Env):Env:={ compEnvC scope cl L env with cells:=cellsFrom (L+1) scope.names cl }
abbrev qW(X:Cx)(scope:Scope)(N:SA)(fp:To)(pn:Sw)(s:SE)(H:Hp)(L:Addr):Cx:=
 { X with N:=N,s₀:=s,H₀:=H,env:=oY scope (mP X.env.cells scope.names []) L X.env,outer:=X.stack,ex:=fp,fn:=λx=>scope.names.contains (x,.cell),pn:=pn,xe:=λ_ _=>False }
def tY(X:Cx)(scope:Scope)(N:SA)(fr:SW):Bool:=
 scope.kind == .function&&scope.names.all (λy=>y.2 != .cell || !scope.names.contains (y.1,.free))&&scope.names.all (λy=>y.2 != .local||scope.names.lookup y.1==some .local) &&
 scope.names.all (λy=>y.2 != .free||(X.env.kindOf y.1==some .cell||X.env.kindOf y.1==some .free))&&N.length==fr.length &&
 (N.zip fr).all λp=>match p.2 with|none=>true|some j=>X.N[j]?==some p.1&&scope.names.contains (p.1,.free)&&((relabel scope X.env).names.lookup p.1==some .cell||(relabel scope X.env).names.lookup p.1==some .free)
def BO(σ:St)(fr:SW):St:=fr.map λo=>match o with|none=>none|some j=>(σ[j]?).join
def PTs(X:Cx)(b:SG)(t:TT):Prop:=
 ∀(a:Sw)(s:SE)(d:St)(H:Hp)(Q:Bool->Hp->Prop),Inv X a d H s->t d H Q->
  wpAny (a32 X) X.A (forIn b true λc r=>if r=true then do let ok<-isTrue c X.env (eval c X.env);pure (ForInStep.yield ok)else pure (ForInStep.yield r)) (TP X a d Q) X.xe s
def R7:TT:=λ_ H Q=>Q true H
def F_:PTs X [] R7:=λ_ _ a H _ I h=>wpAny_tests_nil ⟨H,I,h⟩
def Ga(h:PT X c t):PTs X [c] t:=λa s b H Q I q=>wpAny_tests_one (h a s b H Q I q)
def g5(h:(relabel scope env).names.lookup x=some .cell\/(relabel scope env).names.lookup x=some .free):(x,NameKind.free)∈scope.names\/(x,NameKind.cell)∈scope.names:=by
 have b:∀(a:Tq) k,(a.map λ(n,k)=>if(k==NameKind.free&&env.scope.kind == .function&&env.kindOf n==some .cell)then(n,NameKind.cell)else(n,k)).lookup x=some k->(k=.cell\/k=.free)->(x,NameKind.free)∈a\/(x,NameKind.cell)∈a:=by
  intro a
  induction a with
  |nil=>intro k e _;simp at e
  |cons y r f=>
   intro k e d;obtain⟨n,kd⟩:=y;rw[T6,a0z]at e;by_cases q:(kd==NameKind.free&&env.scope.kind == .function&&env.kindOf n==some .cell)=true
   .simp only[q]at e;split at e
    .rename_i c;have hf:=by simp only[Bool.and_eq_true,beq_iff_eq]at q;exact q.1.1
     left;rw[a0u.mp c,hf];exact u8
    .exact(f k e d).imp (S0 _) (S0 _)
   .simp only[q,if_false]at e;split at e
    .rename_i c;have g:kd=k:=a0H e;rcases d with z|z
     .right;rw[a0u.mp c,g,z];exact u8
     .left;rw[a0u.mp c,g,z];exact u8
    .exact(f k e d).imp (S0 _) (S0 _)
 rcases h with h|h
 .exact b _ _ h (.inl rfl)
 .exact b _ _ h (.inr rfl)
def mQ(I:Nat->Shared->Prop)
  (b:∀n s,I n s->wpAny (model prog w) A (pyNext it) (λr f=>match r with
   |none=>R (.ok .next) f
   |some v=>wpAny (model prog w) A (letOwnedTupleGo target it v) (λ_ a=>wpAny (model prog w) A (assign target env v) (λ_ o=>
     wpAny (model prog w) A (forIn ifs true λc r=>if r=true then do let ok<-isTrue c env (eval c env);pure (ForInStep.yield ok)else pure (ForInStep.yield r)) (λok d=>
      if ok=true then wpAny (model prog w) A (eval elt env) (λx i=>wpAny (model prog w) A (call (.builtin "list.append") [acc,x]) (λ_ g=>∃m,m<n/\I m g) (λ_ _=>False) i) (λ_ _=>False) d
      else ∃m,m<n/\I m d) (λ_ _=>False) o) (λ_ _=>False) a) (λ_ _=>False) f) (λ_ _=>False) s)
  (n:Nat) (h:I n s):codeAny (model prog w) A (.compLoop (.ListComp elt [⟨target,jc,ifs,0⟩] scope pos) 0 it acc env) R s:=by
 refine codeAny_loop rfl I (λn s q=>?_) n h;refine wpAny_noted ?_;refine t0 (a1W (t0 (a0O (b n s q) (λr f j=>?_) λ_ _ z=>False.elim z)));cases r with
 |none=>exact S8 j
 |some v=>
  refine t0 (a0O j (λ_ a e=>t0 (a0O e (λ_ o t=>t0 (a0O t (λok d l=>?_) λ_ _ z=>False.elim z)) λ_ _ z=>False.elim z)) λ_ _ z=>False.elim z);cases ok with
  |false=>exact S8 ⟨rfl,l⟩
  |true=>exact t0 (t0 (a0O l (λx i p=>t0 (a0O p (λ_ g u=>S8 (S8 ⟨rfl,u⟩)) λ_ _ z=>False.elim z)) λ_ _ z=>False.elim z))
def si{X:Cx}{pins:Sw}{σ:St}{l:Hp}{f:SE}{elt jc tg:SN}{R:SG}{a:Scope}{pos:Pos}{N:SA}{fr:SW}{it:Addr}{n:To}{tn:Nat->Heap->Prop}{J:It}
  {E:Sz}{RR:Value->Addr->Result->Shared->Prop}
  (hc:X.calm=true) (K:tY X a N fr=true) (I2:Inv X pins σ l f) (T:Turn X.prog X.w X.K tg J n it tn) (st:tn 0 f.heap) (M:∀b∈n,BL X pins l b)
  (k:∀(d:SE)(F:Heap),Inv X pins σ (upd l f.heap.objs.size (.lst [])) d->Inv (qW X a N n (X.pn++pins) d (upd l f.heap.objs.size (.lst [])) d.heap.objs.size) [] (BO σ fr) (upd l f.heap.objs.size (.lst [])) { d with heap:=F,toks:=d.toks+0 }->(∀b o,f.heap.get? b=some o->F.get? b=some o)->(∀b∈n,(upd l f.heap.objs.size (.lst [])) b=none)->(∀U:Hp,(∀b∈n,U b=none)->∀b∈n,BL (qW X a N n (X.pn++pins) d (upd l f.heap.objs.size (.lst [])) d.heap.objs.size) [] U b)->
   codeAny (a32 X) X.A (.compLoop (.ListComp elt [⟨tg,jc,R,0⟩] a pos) 0 (.ref it) (.ref f.heap.objs.size) (oY a (mP X.env.cells a.names []) d.heap.objs.size X.env)) (RR (.ref f.heap.objs.size) d.heap.objs.size) { d with heap:=F,toks:=d.toks+0 }):
  wpAny (a32 X) X.A (newList []) (λQ d=>wpAny (a32 X) X.A (newFunctionEnv a X.env.globals (mP X.env.cells a.names []) [] X.env.qual none .none (some X.env)) (λD s4=>
   codeAny (a32 X) X.A (.compStart (.ListComp elt [⟨tg,jc,R,0⟩] a pos) 0 (.ref it) Q { D with scope:=relabel a X.env }) (RR Q D.locals) s4) E d) E f:=by
 unfold tY at K;simp only[Bool.and_eq_true,beq_iff_eq,List.all_eq_true]at K;obtain⟨⟨⟨⟨⟨k1,k2⟩,k3⟩,k4⟩,k5⟩,k6⟩:=K;have hcf:∀x,(x,NameKind.free)∈a.names->(x,NameKind.cell)∉a.names:=λx hf A=>by have:=k2 _ A;simp only[bne_self_eq_false,Bool.false_or,Bool.not_eq_true',List.contains_eq_mem,decide_eq_false_iff_not]at this;exact this hf
 refine a1T ?_;have g:=I2.OJ (ys:=[]) (its:=[]) (t':=f.toks) .nil (a0y _);refine sg ?_;generalize hs3:({ f with heap:=f.heap.push { cls:=.type "list",data:=.seq ([]:List Value).toArray } }:Shared)=d at g ⊢;have C:=(Heap.Ns.new d.heap (.type "dict")).keeps (a26 a.names _);have r:∀b o,d.heap.get? b=some o->(pushCells (d.heap.push { cls:=.type "dict",data:=.dict #[] }) a.names).get? b=some o:=λb o e=>a26 _ _ b o (S6 _ e);have s:=λx c e=>by have:=F9 (x:=x) (c:=c) a.names (d.heap.push { cls:=.type "dict",data:=.dict #[] }) (mP X.env.cells a.names []) (by rw[a1t];exact e);rw[a1t]at this;exact this.imp (JH _ [] λ_ z=>by simp at z) id
 generalize hh1:pushCells (d.heap.push { cls:=.type "dict",data:=.dict #[] }) a.names=F at C r s ⊢;have L:∀b o,f.heap.get? b=some o->d.heap.get? b=some o:=λb o e=>by rw[<- hs3];exact S6 _ e
 have I:∀b∈n,b<d.heap.objs.size/\(upd l f.heap.objs.size (.lst [])) b=none:=λb h=>by obtain⟨o,ho,_⟩:=T.obj _ _ st b h;refine⟨S9 (L _ _ ho),?_⟩;rw[zh (a0g (S9 ho))];exact(M b h).1
 have t:(qW X a N n (X.pn++pins) d (upd l f.heap.objs.size (.lst [])) d.heap.objs.size).Ok:=by
  refine⟨g.ok.mod,k1,g.ok.glob,g.ok.blt,S5 _,uH _ _ _ (λx y c e1 B=>g.ok.inj x y c (JH _ [] (λ_ z=>by simp at z) e1) (JH _ [] (λ_ z=>by simp at z) B)) (λx c e=>?_),λx hx=>?_,λx c z e=>?_,λ_=>g.ok.hd hc,g.ok.frames,.inl rfl,
   λb h=>⟨a0g (I b h).1,λx c e=>?_⟩,g.bs,T9 g.ok.bsz g.sz,λb o e h=>?_,λb h z=>?_,g.stack,g.eG⟩
  .obtain⟨v,hv⟩:=g.cell x c (JH _ [] (λ_ z=>by simp at z) e);exact a1E hv.lt
  .refine a0G.mp (uI _ _ _ ?_);rcases g5 hx with hf|hf
   .have S:=k4 _ hf;simp only[bne_self_eq_false,Bool.false_or,Bool.or_eq_true,beq_iff_eq]at S;obtain⟨c,hcx⟩:=g.ok.has x S;exact .inl (eS _ [] (.inr ⟨hf,by rw[hcx];rfl⟩))
   .exact .inr hf
  .exact uK a.names (d.heap.objs.size+1) d.heap.objs.size _ (a1s _) (.inl (List.contains_iff_mem.mp z)) e
  .rcases s x c e with z|⟨z,_⟩
   .exact(M b h).2.2.2.2.1 x c z
   .exact λq=>absurd (a0q (a2C z) (show c<d.heap.objs.size by rw[q];exact(I b h).1)) (a0V _)
  .rcases(M b h).2.2.2.1 with z|z
   .exact I2.ok.NL b o e z
   .have:=S9 e;exact absurd (a0c this I2.ok.bsz) (Nat.not_lt.mpr z)
  .rcases T1.mp (g.dr b z)with z|z
   .exact(M b h).2.1 z
   .exact(M b h).2.2.1 z
 have Z:(BO σ fr).length=N.length:=by unfold BO;rw[f8];exact k5.symm
 have J0:Inv (qW X a N n (X.pn++pins) d (upd l f.heap.objs.size (.lst [])) d.heap.objs.size) [] (BO σ fr) (upd l f.heap.objs.size (.lst [])) { d with heap:=F,toks:=d.toks+0 }:=by
  have W:=g.kept (h':=F) (t':=d.toks+0) r;refine⟨t,rfl,g.bare,Un.kept r,⟨_,C,λi x v e1 B _=>?_⟩,λx c e=>(s x c e).elim (W.cell x c) λz=>z.2,g.hok.fresh (S5 _),λx c e=>(s x c e).elim (W.U1 x c) λz=>g.hok.fresh (a2C z.1),λp hp=>?_,W.hok,Z⟩
  .unfold BO at B;rw[a0e]at B;cases H:fr[i]? with
   |none=>rw[H]at B;cases B
   |some o=>
    rw[H]at B;cases o with
    |none=>cases B
    |some j=>
     have P:(σ[j]?).join=some v:=a0H B;have hm:(x,some j)∈N.zip fr:=by refine a0Q (i:=i) ?_;rw[List.getElem?_zip_eq_some];exact⟨e1,H⟩
     have S:=k6 _ hm;simp only[Bool.and_eq_true,Bool.or_eq_true,beq_iff_eq,List.contains_iff_mem]at S;obtain⟨⟨g1,g2⟩,g3⟩:=S;have hσ:σ[j]?=some (some v):=by
      cases q:σ[j]? with
      |none=>rw[q]at P;cases P
      |some w=>rw[q]at P;cases w with
       |none=>cases P
       |some w=>cases P;rfl
     have G:=k4 _ g2;simp only[bne_self_eq_false,Bool.false_or,Bool.or_eq_true,beq_iff_eq]at G;obtain⟨m,_,hl⟩:=W.loc;obtain⟨u,ru,lk⟩:=hl j x v g1 hσ (by rcases G with z|z;exact .inr (.inl z);exact .inr (.inr z));refine⟨u,ru,.inr ⟨g3,?_⟩⟩;rcases lk with⟨z,_⟩|⟨_,c,ec,z⟩
     .rcases G with q|q<;>(rw[z]at q;cases q)
     .obtain⟨c',A⟩:=a0G.mp (eS (cells:=X.env.cells) (x:=x) a.names [] (.inr ⟨g2,by rw[ec];rfl⟩));have:=JH _ [] (λ_ z=>by simp at z) A;rw[ec]at this;cases this;exact⟨c,(uJ _ _ _ (hcf x g2)).trans A,z⟩
  .have Y:p∈X.pn++pins:=by rw[a0m]at hp;exact hp
   obtain⟨q1,q2,q3,q4,q5⟩:=W.pin p Y;refine⟨q1,q2,a0g (S9 (g.pin p Y).1),λz=>?_,q5⟩;rcases T1.mp (g.dr _ z)with z|z
   .exact q3 z
   .exact q4 z
 have O:∀{U:Hp},(∀b∈n,U b=none)->∀b∈n,BL (qW X a N n (X.pn++pins) d (upd l f.heap.objs.size (.lst [])) d.heap.objs.size) [] U b:=λhn b h=>
  ⟨hn b h,(t.exf b h).1,λz=>t.NM b h z,.inl h,(t.exf b h).2,λp hp=>by rw[a0m]at hp;exact(M b h).2.2.2.2.2 p hp⟩
 have loop:=k d F g J0 (λb o e=>r b o (L b o e)) (λb h=>(I b h).2) (λ_ hn=>O hn);exact codeAny_compStart_list loop (T.self _ 0 _ _ _ (T.keep _ _ _ st λb _ o e=>r b o (L b o e)) loop)
def oZ{X:Cx}{pins:Sw}{σ:St}{A:Hp}{w:SE}{elt jc tg:SN}{ifs:SG}{a:Scope}{pos:Pos}{N:SA}{fr:SW}{g:TG}{tc:TT}{te:TE}{it:Addr}{q:To}{tn:Nat->Heap->Prop}{J:It}
  {E:Sz}{RR:Value->Addr->Result->Shared->Prop}{Q:VK}
  (hc:X.calm=true) (hok:tY X a N fr=true) (I2:Inv X pins σ A w) (T:Turn X.prog X.w X.K tg J q it tn) (st:tn 0 w.heap) (f2:∀b∈q,BL X pins A b)
  (hg:∀q pn s H L,PG (qW X a N q pn s H L) tg g) (hi:∀q pn s H L,PTs (qW X a N q pn s H L) ifs tc) (he:∀q pn s H L,PE (qW X a N q pn s H L) elt te)
  (h:∀f,A f=none->∃W:Nat->Nat->St->Hp->Prop,(∃m,W 0 m (BO σ fr) (upd A f (.lst [])))/\∀i m j l,W i m j l->
   (J.stop i l/\Q (.ref f) l)\/(J.go i l/\∃N:St->Hp->Prop,(∀j l,N j l->∃m',m'<m/\W (i+1) m' j l)/\∀x H3,J.yld i l x H3->g x j H3 λK H4=>tc K H4 λb O=>
    if b=true then te K O λv H6=>∃ys,H6 f=some (.lst ys)/\ys.length<sizeLine/\N K (upd H6 f (.lst (ys++[v])))else N K O))
  (hRR:∀f C m U l,Inv X pins σ l U->U.heap.Ns C m->X.s₀.heap.objs.size<=C->l C=none->C≠X.env.locals->(∀x c,X.env.cells.lookup x=some c->c≠C)->(∀p∈X.pn++pins,p.1≠C)->Q (.ref f) l->RR (.ref f) C (.ok .next) U):
  wpAny (a32 X) X.A (newList []) (λf t=>wpAny (a32 X) X.A (newFunctionEnv a X.env.globals (mP X.env.cells a.names []) [] X.env.qual none .none (some X.env)) (λP s4=>
   codeAny (a32 X) X.A (.compStart (.ListComp elt [⟨tg,jc,ifs,0⟩] a pos) 0 (.ref it) f { P with scope:=relabel a X.env }) (RR f P.locals) s4) E t) E w:=by
 have hDf:=I2.hok.fresh (S5 _);obtain⟨W,⟨m0,w0⟩,turn⟩:=h _ hDf;refine si hc hok I2 T st f2 λt h1 I3 J0 kp fpn B=>?_;have hcc:=hc;refine mQ (λn U=>∃i j l,Inv (qW X a N q (X.pn++pins) t (upd A w.heap.objs.size (.lst [])) t.heap.objs.size) [] j l U/\tn i U.heap/\(∀b∈q,l b=none)/\W i n j l) ?_ m0
  ⟨0,_,_,J0,T.keep _ _ _ st λb _ o e=>kp b o e,fpn,w0⟩
 rintro n s5 ⟨i,I,O,I5,st5,fr5,w5⟩
 rcases turn i n I O w5 with⟨stop,qn⟩|⟨go,NN,hNN,step⟩
 .refine thn (T.done (qW X a N q (X.pn++pins) t (upd A w.heap.objs.size (.lst [])) t.heap.objs.size) rfl rfl rfl hcc i [] s5 I O _ I5 (B _ fr5) st5 stop) λr s6 ⟨hr,I6⟩=>?_;subst hr;have I7:=I3.IC I6.os I6.base I6.hok I6.bare λb M=>⟨(f2 b M).2.2.2.1,(f2 b M).2.1,(f2 b M).2.2.2.2.1,(f2 b M).2.2.2.2.2⟩;obtain⟨mm,hmm,_⟩:=I6.loc;refine hRR _ _ mm s6 O I7 hmm I3.sz I6.free (a1g I3.lt) (λx c e z=>?_) (λp hp z=>?_) qn
  .obtain⟨v,hv⟩:=I3.cell x c e;exact absurd hv.lt (by grind)
  .exact absurd (S9 (I3.pin p hp).1) (by grind)
 .refine thn (T.item (qW X a N q (X.pn++pins) t (upd A w.heap.objs.size (.lst [])) t.heap.objs.size) rfl rfl rfl hcc i [] s5 I O _ I5 (B _ fr5) st5 go) λr s6 ⟨u,hr,h6⟩=>?_;subst hr;refine thn h6 λ_ s7 ⟨x,H7,I7,r7,y7,S,fr7⟩=>?_;have I7':=I7.pinned (B _ fr7) (T.obj _ _ S);have F:∀{D:St}{R:Hp}{Z:SE},Inv (qW X a N q (X.pn++pins) t (upd A w.heap.objs.size (.lst [])) t.heap.objs.size) ([]++gI q s7.heap) D R Z->NN D R->
    ∃m,m<n/\∃i j l,Inv (qW X a N q (X.pn++pins) t (upd A w.heap.objs.size (.lst [])) t.heap.objs.size) [] j l Z/\tn i Z.heap/\(∀b∈q,l b=none)/\W i m j l:=λ{D R Z} Y n9=>by
   obtain⟨m',hm,w9⟩:=hNN D R n9;refine⟨m',hm,i+1,D,R,Y.wM,T.keep _ _ _ S λb M o e=>(Y.pin (b,o) (T4 _ (T4 _ (JG M e)))).1,λb M=>?_,w9⟩;obtain⟨o,e,d⟩:=T.obj _ _ S b M;exact(Y.pin (b,o) (T4 _ (T4 _ (JG M e)))).2.1
  refine thn (hg _ _ _ _ _ _ s7 I H7 x u _ I7' r7 (step x H7 y7)) λ_ s8 ⟨G,H8,I8,q8⟩=>?_;refine thn (hi _ _ _ _ _ _ s8 G H8 _ I8 q8) λok Z ⟨R,Y,q9⟩=>?_;cases ok with
  |false=>exact F Y q9
  |true=>refine thn (he _ _ _ _ _ _ Z G R _ Y q9) λy s10 ⟨v,H10,I10,r10,ys,h10,l10,q10⟩=>?_;refine thn (aL _ s10 G H10 (.ref w.heap.objs.size) [v] (.ref w.heap.objs.size) [y] (λ_ H11=>NN G H11) I10 rfl (.cons r10 .nil) ⟨_,ys,v,rfl,rfl,h10,l10,q10⟩) λ_ s11 ⟨_,H11,I11,_,q11⟩=>?_;exact F I11 q11
def tLC(r:TI)(g:TG)(q:TT)(s:TE)(fr:SW):TE:=λl H Q=>r l H λJ p=>∀a,p a=none->∃W:Nat->Nat->St->Hp->Prop,(∃m,W 0 m (BO l fr) (upd p a (.lst [])))/\∀i m c e,W i m c e->
 (J.stop i e/\Q (.ref a) e)\/(J.go i e/\∃N:St->Hp->Prop,(∀c e,N c e->∃n,n<m/\W (i+1) n c e)/\∀x o,J.yld i e x o->g x c o λd t=>q d t λb j=>
  if b=true then s d j λv h=>∃f,h a=some (.lst f)/\f.length<sizeLine/\N d (upd h a (.lst (f++[v])))else N d j)
def o6{X:Cx}{pins:Sw}{σ:St}{H:Hp}{s:SE}{a:Scope}{N:SA}{fr:SW}(b:tY X a N fr=true)(I:Inv X pins σ H s):
  a.kind=.function/\(∀y∈a.names,y.2=.local->a.names.lookup y.1=some .local)/\closureFor a X.env=pure (mP X.env.cells a.names []):=by
 unfold tY at b;simp only[Bool.and_eq_true,beq_iff_eq,List.all_eq_true]at b;obtain⟨⟨⟨⟨⟨h,j⟩,g⟩,i⟩,m⟩,l⟩:=b;refine⟨h,λy e z=>?_,sf λy e z=>?_⟩
 .have:=g y e;rw[z]at this;simpa using this
 .have f:=i y e;rw[z]at f;simp only[bne_self_eq_false,Bool.false_or,Bool.or_eq_true,beq_iff_eq]at f;obtain⟨c,d⟩:=I.ok.has y.1 f;rw[d];rfl
def Gb(N:SA)(fr:SW)(B:X.calm=true)(i:tY X scope N fr=true)(hi:PI X tg jc wi)(z:∀d f s H L,PG (qW X scope N d f s H L) tg g)(M:∀d f s H L,PTs (qW X scope N d f s H L) ifs tc)(he:∀d f s H L,PE (qW X scope N d f s H L) elt te)
  (P:∀x,foldedSetIterable jc X.env x=pure x:=by intro _;rfl):PE X (.ListComp elt [⟨tg,jc,ifs,0⟩] scope pos) (tLC wi g tc te fr):=by
 intro a s r H Q I h;obtain⟨A,R,l⟩:=o6 i I;refine a2P rfl P l A R (thn (hi a s r H _ I h) λv s1 n=>thn n λD s2 j=>?_);obtain⟨it,d,Y,J,Z,e,G,T,p,K,E⟩:=j;subst e;refine oZ B i G T p K z M he E λc C m w y t W n j U u S q=>?_;exact⟨m,W,λh' O=>⟨.ref c,y,t.turned (λb o F e=>(O.2 b F).trans e) j U (.inr n) u S,rfl,q⟩⟩
def Lm(N:SA)(fr:SW)(S:X.N.Nodup)(Z:X.N[i]?=some y)(O:X.env.scope.names.lookup y=some .local)(hc:X.calm=true)(n:tY X scope N fr=true)(hi:PI X tg jc wi)(W:∀f l s H L,PG (qW X scope N f l s H L) tg g)
  (ht:∀f l s H L,PTs (qW X scope N f l s H L) ifs tc) (he:∀f l s H L,PE (qW X scope N f l s H L) elt te) (p:swapsWith (.ListComp elt [⟨tg,jc,ifs,0⟩] scope pos) (some (.Name y py)) t8.line X.env=pure true:=by rfl)
  (hs:∀x,foldedSetIterable jc X.env x=pure x:=by intro _;rfl):PS X (.Assign [.Name y py] (.ListComp elt [⟨tg,jc,ifs,0⟩] scope pos) t8) (FG (tLC wi g tc te fr) (eM i)):=by
 intro c s K H D I h;obtain⟨Y,k3,A⟩:=o6 n I;rw[exec_Assign_Name_used _ _ _ _ p];refine t0 (a1W (t0 ?_));refine t0 (a0O (a2P rfl hs A Y k3
  (thn (hi c s K H _ I h) λv s1 E=>thn E λitv s2 t=>?_)) (λ_ j hq=>S8 (S8 hq)) λ_ _ z=>z)
 obtain⟨it,f,tn,J,H2,e,I2,T,F,f2,hr⟩:=t;subst e;refine oZ (Q:=λv H1=>eM i v K H1 D.nx) hc n I2 T F f2 W ht he hr λd C m j U P hn E t M G h5 q=>?_;refine wpAny_assign_Name (gG (v:=.ref d) P S Z (.inl O) rfl (λr w ⟨a,sb,ha⟩=>?_) (.inr O));have u:C≠a:=λz=>by
  rcases ha with e|e
  .exact M (z.trans e)
  .exact G y a e z.symm
 obtain⟨o,es,ep,ho,R⟩:=id hn;refine⟨m,⟨o,es,ep,(sb.2 C u).trans ho,R⟩,λh' B=>⟨_,U,w.turned (λb o hb e=>(B.2 b hb).trans e) t M (.inr E) G h5,q⟩⟩
section
variable {X:Cx}
def R8:V->Option Int->Option Int->Hp->VK->Prop:=λx b a H Q=>∃z,x=.str z/\z.length<=sizeLine/\Q (.str (Txt.slice z b a)) H
def Ln:SlR X R8:=by
 intro c s r H x v n A B w y Q I i f e g h;obtain⟨z,rfl,hz,q⟩:=h;obtain⟨t,rfl⟩:=i;have b:∀{a:Value}{o:Tz},IsPart a o->∃p:Option (Int×Tok),a=partValue p/\p.map (·.1)=o:=by
  intro a o h;cases h
  .exact⟨none,rfl,rfl⟩
  .exact⟨some (_,_),rfl,rfl⟩
 obtain⟨d,rfl,rfl⟩:=b e;obtain⟨m,rfl,rfl⟩:=b g;refine⟨"str",_,F.slot_str_getitem.lookup,typeIs_str _ _ _,wpAny_getItem_str_slice (l:=d) (u:=m) (st:=none) ?_ rfl ?_⟩
 .exact f
 .exact post_val_or_str ⟨T9 (Txt.slice_le z _ _) hz,λj k=>⟨.str _,H,I.tok _,⟨j,rfl⟩,q⟩⟩
end
def Its(x:Str):It:=⟨λi _=>i<x.cps.size,λi H v a=>a=H/\∃c,x.cps[i]?=some c/\v=.str ⟨#[c]⟩,λi _=>x.cps.size<=i⟩
def Gd(a:Addr)(x:Str)(i:Nat)(h:Heap):Prop:=∃t,h.IsStrIter a "str_ascii_iterator" x t i\/h.IsStrIter a "str_iterator" x t i
def Ck{P:SV}{w:S_}{K:Tj}{y:Str}{N:Pos}(f:Addr)(x:Str):Turn P w K (.Name y N) (Its x) [f] f (λi h=>i<=x.cps.size/\Gd f x i h)where
 mem:=by simp
 obj:=λi h st b a=>by
  obtain rfl:b=f:=by simpa using a
  obtain⟨_,t,⟨o,e,_,d⟩|⟨o,e,_,d⟩⟩:=st<;>exact⟨o,e,λv z=>by rw[d]at z;cases z⟩
 keep:=λi h A st k=>by
  obtain⟨L,t,⟨o,e,r⟩|⟨o,e,r⟩⟩:=st
  .exact⟨L,t,.inl ⟨o,k f (by simp) o e,r⟩⟩
  .exact⟨L,t,.inr ⟨o,k f (by simp) o e,r⟩⟩
 item:=by
  intro X hP C B F i q s M H E I hf st D;have c:=D;have g:=a2G c;obtain⟨n,u,O,l,p,m⟩:=hf f (by simp);obtain⟨_,t,st|st⟩:=st
  .refine wpAny_pyNext_ascii_item st g λA j G=>⟨_,rfl,S8 ⟨.str ⟨#[x.cps[i]]⟩,H,I.turned (λb o a e=>(G.2 b a).trans e) n u l p m,⟨_,rfl⟩,⟨rfl,_,g,rfl⟩,⟨c,t,.inl j⟩,λb a=>(hf b a).1⟩⟩
  .refine wpAny_pyNext_wide_item st g λA j G=>⟨_,rfl,S8 ⟨.str ⟨#[x.cps[i]]⟩,H,I.turned (λb o a e=>(G.2 b a).trans e) n u l p m,⟨_,rfl⟩,⟨rfl,_,g,rfl⟩,⟨c,t,.inr j⟩,λb a=>(hf b a).1⟩⟩
 done:=by
  intro X hP C B F i q s M H E I hf st D;have c:=D;have g:=a3c c;obtain⟨n,u,O,l,p,m⟩:=hf f (by simp);obtain⟨_,t,st|st⟩:=st
  .exact wpAny_pyNext_ascii_end (I.ok.hd F) st g λA J=>⟨rfl,I.turned (λb o a e=>J b o a e) n u l p m⟩
  .exact wpAny_pyNext_wide_end (I.ok.hd F) st g λA J=>⟨rfl,I.turned (λb o a e=>J b o a e) n u l p m⟩
 self:=λ_ _ _ _ _ st h=>by
  obtain⟨_,t,st|st⟩:=st
  .exact wpAny_pyIter_striter_ascii st h
  .exact wpAny_pyIter_striter_wide st h
def R9(a:TE):TI:=λc H R=>a c H λx b=>∃z,x=.str z/\R (Its z) b
def Lo(w:PE X l tl):PI X (.Name y py) l (R9 tl):=by
 intro c s d H R I h;refine thn (w c s d H _ I h) λv a ⟨x,i,f,m,z,e,q⟩=>?_;subst e;obtain⟨t,rfl⟩:=m;have j:∀o:Obj,(∀h,h.get? a.heap.objs.size=some o->Gd a.heap.objs.size z 0 h)->PIE X c d (.Name y py) R (.ref a.heap.objs.size) { a with heap:=a.heap.push o }->PIE X c d (.Name y py) R (.ref a.heap.objs.size) { a with heap:=a.heap.push o }:=λ_ _ h=>h;have mk:∀o:Obj,o.isFreed=false->(∀h:Heap,h.get? a.heap.objs.size=some o->Gd a.heap.objs.size z 0 h)->PIE X c d (.Name y py) R (.ref a.heap.objs.size) { a with heap:=a.heap.push o }:=λo hf n=>by
  have r:Inv X c d i { a with heap:=a.heap.push o }:=f.kept (t':=a.toks) λb u e=>S6 _ e;refine⟨a.heap.objs.size,[a.heap.objs.size],_,Its z,i,rfl,r,Ck _ z,⟨a0y _,n _ (a0k _ hf)⟩,λb p=>?_,q⟩;obtain rfl:b=a.heap.objs.size:=by simpa using p
  exact f.Ij (S5 _) (f.hok.fresh (S5 _))
 cases g:z.cps.all (·<128)
 .exact wpAny_pyIter_wide g (mk _ rfl λh e=>⟨t,.inr ⟨_,e,rfl,rfl⟩⟩)
 .exact wpAny_pyIter_ascii g (mk _ rfl λh e=>⟨t,.inl ⟨_,e,rfl,rfl⟩⟩)
abbrev TJ:=St->Hp->Str->(Str->Hp->Prop)->Prop
section
variable {X:Cx}
def Lp:R2:=λx y H Q=>∃z i,x=.str z/\y=.int i/\z.length<=16/\-2 ^ 63<=i/\i<=1048576/\Q (.str (Txt.mul z i)) H
def sj:OpR X (binaryOp .Mult) Lp:=by intro a s g H x y v u Q I e d h;obtain⟨z,i,rfl,rfl,hz,c,b,q⟩:=h;obtain⟨t,rfl⟩:=e;obtain⟨f,rfl⟩:=d;exact PySem.W.KXi.mul rfl hz c b λf k _ _=>⟨.str _,H,I.tok _,⟨_,rfl⟩,q⟩
def Lq(i j:Int):Prop:=j≠0/\j.natAbs<2 ^ 8192
def Cm:OpR X (binaryOp .FloorDiv) (rI Lq λi j=>.int (i.fdiv j)):=opI λ_ j _ _ _ _ _ a q=>floordiv_int a.1 q (.inl (PyProof.noPylong_of_log2 (by
 have b:j.natAbs≠0:=by have:=a.1;omega
 have:=(Nat.log2_lt b).mpr a.2;omega)))
theorem uL:∀{b:Th}{c:SO},Vals (b.map V.int) c->∃a:List (Int×Tok),c=a.map (λz=>Value.int z.1 z.2)/\a.map Prod.fst=b
 |[],_,.nil=>⟨[],rfl,rfl⟩
 |n::b,_,.cons ⟨t,e⟩ r=>by subst e;obtain⟨a,rfl,rfl⟩:=uL r;exact⟨(n,t)::a,rfl,rfl⟩
def Lr(K:Tj):List V->Hp->VK->Prop:=λc H Q=>∃(p:Addr)(b:Th),c=[.ref p]/\SqL K H p (b.map V.int)/\b≠[]/\∀M,M∈b->(∀a∈b,a<=M)->Q (.int M) H
def uM(n:X.calm=true):Qb X (.builtin "max") (Lr X.K):=by
 intro f s F H m E Q I r h;obtain⟨p,G,rfl,C,c,q⟩:=h;obtain⟨u,rfl,y⟩:=vals1 r;cases y;obtain⟨w,x,B,_⟩:=I.list C;obtain⟨b,rfl,rfl⟩:=uL x;have e:(b.map (λz=>Value.int z.1 z.2)).toArray=intItems b.toArray:=by unfold intItems;simp
 have d:0<b.toArray.size:=by
  cases b with
  |nil=>exact absurd rfl c
  |cons a r=>simp
 refine max_intList (I.ok.hd n) (by rw[<- e];exact B.isList) d λv K g A i=>?_;obtain⟨t,rfl⟩:=intItems_at A;obtain⟨J,o⟩:=argBest_gt (numAt b.toArray) (b.toArray.size-1);refine⟨.int _,H,I.kept i,⟨t,rfl⟩,q _ ?_ λa D=>?_⟩
 .rw[numAt_eq];exact getD_mem (by grind)
 .obtain⟨j,l,rfl⟩:=mem_getD D;rw[f8]at l;have:=o j (by grind);rw[numAt_eq]at this;exact this
end
def Io(P:SV)(w:S_)(K:Tj)(d:Sx)(a:Heap)(A:Tf)(m:Str)(C:Addr)(sp:Sp):Prop:=
 ∃k f b c,Cls K C/\Meth K C m f/\yz P w K d a (CXe P w) k f b c sp/\vF k A/\Binds K b c []
def Er(b:Addr->Sp->Prop)(m:Str)(E:XK)(f:TE)(t:TA):TE:=λe H Q=>f e H λx d=>∃a i fs C c,b C c/\x=.ref a/\d a=some (.ins C i fs)/\fs.lookup m=none/\t e d λg h=>c (x::g) h Q E
def Cn(he:PE X o ta)(i:∀C d,alts C d->Io X.prog X.w X.K X.mg X.base X.A m C d)(A:Passes (CXe X.prog X.w) X E)(N:PA X (e::es) t)
  (g:starEach (e::es) X.env=(false,eval e X.env)::starEach es X.env:=by rfl) (hpl:(backTo pos (starEach es X.env)).any (·.1)=false:=by rfl)
  (K:eval (.Call (.Attribute o m jK) (e::es) [] pos) X.env=(do
   let ov<-eval o X.env
   standAt jK.atName
   let(f,first)<-holding [ov] (getMethod ov m pl)
   callWith pos f first (backTo pos (starEach (e::es) X.env)) (backToKw pos (keywordEach [] X.env))):=by rfl):
  PE X (.Call (.Attribute o m jK) (e::es) [] pos) (Er alts m E ta t):=by
 intro b s p H Q I h;refine a3h (thn (he b s p H _ I h) λu G ⟨x,O,z,M,a,P,fs,C,d,j,L,B,l,q⟩=>?_) K;obtain⟨k,f,S,W,c,v,F,D,J⟩:=i C d j;subst L;obtain rfl:u=Value.ref a:=M;refine dw z B c v l ?_;refine a1Q I.ok.mod.kin v.kp (thn (N pos b G p O _ z q) λn U ⟨w,T,y,r,R⟩=>⟨y.kIn,?_⟩) g hpl;exact uo (vs:=.ref a::w) F D J .nil A y (.cons rfl r) (by rwa [a0m])
def uN(he:PE X o ta)(e:∀C d,alts C d->Io X.prog X.w X.K X.mg X.base X.A m C d)(n:Passes (CXe X.prog X.w) X E)
  (w:eval (.Call (.Attribute o m jK) [] [] pos) X.env=(do
   let ov<-eval o X.env
   standAt jK.atName
   let(f,first)<-holding [ov] (getMethod ov m pl)
   callWith pos f first (backTo pos (starEach [] X.env)) (backToKw pos (keywordEach [] X.env))):=by rfl):
  PE X (.Call (.Attribute o m jK) [] [] pos) (Er alts m E ta OD):=by
 intro b s p H Q I h;refine a3h (thn (he b s p H _ I h) λu D ⟨x,J,i,z,a,A,fs,C,d,g,y,r,l,q⟩=>?_) w;obtain⟨k,f,B,G,c,j,F,t,v⟩:=e C d g;subst y;obtain rfl:u=Value.ref a:=z;refine dw i r c j l ?_;exact PySem.W.callWith_K0 i.kIn j.kp (uo (vs:=[.ref a]) F t v .nil n i (.cons rfl .nil) q)
def o7{A:Tf}{xs ys:SR}{us ws:SO}{e:Nat->Bool}(r1:Vals xs us)(r2:Vals ys ws)(he:∀j x y u v,xs[j]?=some x->ys[j]?=some y->RelV x u->RelV y v->SeqAt.EqAt A s u v (e j)):
  ∀j (b:j<us.toArray.size) (a:j<ws.toArray.size),SeqAt.EqAt A s us.toArray[j] ws.toArray[j] (e j):=by
 intro j b a;have g:j<xs.length:=by rw[r1.length];exact b
 have n:j<ys.length:=by rw[r2.length];exact a
 have f:=T7 g;have d:=T7 n;obtain⟨u,h,l⟩:=r1.get f;obtain⟨w,m,c⟩:=r2.get d;have i:us.toArray[j]=u:=by have:=T7 b;rw[h]at this;simpa using(a0H this).symm
 have o:ws.toArray[j]=w:=by have:=T7 a;rw[m]at this;simpa using(a0H this).symm
 rw[i,o];exact he j _ _ _ _ f d l c
def zr.none(s:zr H H')(h:H' q=Option.none):H q=Option.none:=by
 cases e:H q with
 |none=>rfl
 |some o=>rw[s _ _ e]at h;cases h
inductive PV where
 |i (n:Int)|s (x:Str)|b (c:Bool)|n
 |l (xs:List PV)|t (xs:List PV)|d (kvs:List (Key×PV))|o (c:Nat) (fs:List (Str×PV))|x (c:Nat) (fs:List (Str×PV))|sc (ns:Th)|dt (kvs:List (List Key×Int))
abbrev SX:=List PV
abbrev SY:=(List (Key×PV))
abbrev Tc:=(List (Str×PV))
abbrev Te:=Option PV
abbrev TK:=List (Option PV)
abbrev TL:=(PV->PV->Option Bool)
def dtV(kvs:List (List Key×Int)):List (List Key×V):=kvs.map λq=>(q.1,V.int q.2)
inductive Out(α:Type)where
 |ok (a:α)|exc (c:Nat) (fs:Tc)|wall
abbrev SU:=(List PV->Out PV)
def Out.bind{d b:Type}:Out d->(d->Out b)->Out b
 |.ok a,f=>f a
 |.exc c fs,_=>.exc c fs
 |.wall,_=>.wall
structure RC where
 K:Frag
 cls:Nat->Addr
def KL(K:Tj)(a:Addr)(xs:SR):Prop:=∃(o:Obj)(b:Tu)(n:Nat),K.lookup a=some o/\o.cls=.type "list"/\o.dict=none/\o.data=.seq b n/\b.size<=sizeLine/\Vals xs b.toList
def mR(K:Tj)(N:SD)(H:Hp)(p:Addr)(vs:SR):Prop:=(N p/\Rd H p (.lst vs))\/KL K p vs
def mR.sq{K:Tj}{N:SD}{H:Hp}{p:Addr}{vs:SR}(h:mR K N H p vs):SqL K H p vs:=h.elim (λz=>.inl z.2) .inr
mutual
def Rep(W:RC)(M:SD)(H:Hp):PV->V->Prop
 |.i n,v=>v=.int n
 |.s x,v=>v=.str x
 |.b c,v=>v=.bl c
 |.n,v=>v=.non
 |.l f,v=>∃p d,v=.ref p/\M p/\H p=some (.lst d)/\zU W M H f d
 |.t f,v=>∃p d,v=.ref p/\SqT W.K H p d/\zU W M H f d
 |.d b,v=>∃p a,v=.ref p/\M p/\Rd H p (.dK a)/\qY W M H b a
 |.sc g,v=>∃p,v=.ref p/\mR W.K M H p (g.map V.int)
 |.dt b,v=>∃p,v=.ref p/\M p/\Rd H p (.dT (dtV b))
 |.o c fs,v=>∃p e a,v=.ref p/\M p/\H p=some (.ins (W.cls c) e a)/\j5 W M H fs a
 |.x c fs,v=>∃p e a,v=.ref p/\H p=some (XC p (W.cls c) e)/\H e=some (XD e a)/\j5 W M H fs a
def zU(W:RC)(M:SD)(H:Hp):List PV->List V->Prop
 |[],a=>a=[]
 |x::b,a=>∃v r,a=v::r/\Rep W M H x v/\zU W M H b r
def qY(W:RC)(M:SD)(H:Hp):List (Key×PV)->List (Key×V)->Prop
 |[],a=>a=[]
 |b::r,a=>∃v q,a=(b.1,v)::q/\Rep W M H b.2 v/\qY W M H r q
def j5(W:RC)(M:SD)(H:Hp):List (Str×PV)->List (Str×V)->Prop
 |[],a=>a=[]
 |b::r,a=>∃v q,a=(b.1,v)::q/\Rep W M H b.2 v/\j5 W M H r q
end
def Imm:HO->Prop
 |.lst _=>False | .dK _=>False | .dT _=>False | .set _ _=>False | .ins _ _ _=>False | .tbl _=>False
 |_=>True
def Fr(M:SD)(H H':Hp):Prop:=∀a o,H a=some o->(M a\/Imm o)->H' a=some o
def Fr.rd(f:Fr M H H')(h:Rd H p u)(m:M p):Rd H' p u:=
 h.elim (λz=>.inl (f _ _ z (.inl m))) λ⟨o,z⟩=>.inr ⟨o,f _ _ z (.inl m)⟩
def Fr.sqT{M:SD}{K:Tj}{H H':Hp}(f:Fr M H H'){p:Addr}{u:SR}(h:SqT K H p u):SqT K H' p u:=
 h.elim (λh=>.inl (h.elim (λz=>.inl (f _ _ z (.inr trivial))) λ⟨o,z⟩=>.inr ⟨o,f _ _ z (.inr trivial)⟩)) .inr
def mR.frame{K:Tj}{N:SD}{H H':Hp}(f:Fr N H H'){p:Addr}{vs:SR}(h:mR K N H p vs):mR K N H' p vs:=h.elim (λz=>.inl ⟨z.1,f.rd z.2 z.1⟩) .inr
def jM(h:Rd H p u):H p≠none:=by rcases h with z|⟨_,z⟩<;>rw[z]<;>intro e<;>cases e
section
variable {W:RC}{M M':SD}{H H':Hp}
mutual
theorem Rep.gen(f:Fr M H H')(s:∀a,M a->H a≠none->M' a):∀{x:PV}{v:V},Rep W M H x v->Rep W M' H' x v
 |.i n,v,h=>h
 |.s x,v,h=>h
 |.b c,v,h=>h
 |.n,v,h=>h
 |.l j,v,h=>by obtain⟨p,b,e,m,r,q⟩:=h;exact⟨p,b,e,s p m (by grind),f _ _ r (.inl m),zU.gen f s q⟩
 |.sc o,v,h=>by obtain⟨p,e,r⟩:=h;exact⟨p,e,r.elim (λz=>.inl ⟨s p z.1 (by rcases z.2 with z|⟨_,z⟩<;>rw[z]<;>intro e<;>cases e),f.rd z.2 z.1⟩) .inr⟩
 |.dt d,v,h=>by obtain⟨p,e,m,r⟩:=h;exact⟨p,e,s p m (jM r),f.rd r m⟩
 |.t j,v,h=>by obtain⟨p,b,e,r,q⟩:=h;exact⟨p,b,e,f.sqT r,zU.gen f s q⟩
 |.d d,v,h=>by obtain⟨p,b,e,m,r,q⟩:=h;exact⟨p,b,e,s p m (jM r),f.rd r m,qY.gen f s q⟩
 |.o c fs,v,h=>by obtain⟨p,g,i,e,m,r,q⟩:=h;exact⟨p,g,i,e,s p m (by rw[r];intro e;cases e),f _ _ r (.inl m),j5.gen f s q⟩
 |.x c fs,v,h=>by obtain⟨p,g,i,e,r,l,q⟩:=h;exact⟨p,g,i,e,f _ _ r (.inr trivial),f _ _ l (.inr trivial),j5.gen f s q⟩
theorem zU.gen(f:Fr M H H')(s:∀a,M a->H a≠none->M' a):∀{x:SX}{v:SR},zU W M H x v->zU W M' H' x v
 |[],v,h=>h
 |x::d,g,h=>by unfold zU at h ⊢;obtain⟨v,r,e,c,b⟩:=h;exact⟨v,r,e,Rep.gen f s c,zU.gen f s b⟩
theorem qY.gen(f:Fr M H H')(s:∀a,M a->H a≠none->M' a):∀{x:SY}{v:SH},qY W M H x v->qY W M' H' x v
 |[],v,h=>h
 | (k,x)::d,g,h=>by unfold qY at h ⊢;obtain⟨v,r,e,c,b⟩:=h;exact⟨v,r,e,Rep.gen f s c,qY.gen f s b⟩
theorem j5.gen(f:Fr M H H')(s:∀a,M a->H a≠none->M' a):∀{x:Tc}{v:Tg},j5 W M H x v->j5 W M' H' x v
 |[],v,h=>h
 | (k,x)::d,g,h=>by unfold j5 at h ⊢;obtain⟨v,r,e,c,b⟩:=h;exact⟨v,r,e,Rep.gen f s c,j5.gen f s b⟩
end
end
def Fr.refl:Fr M H H:=λ_ _ h _=>h
def zr.fr(s:zr H H'):Fr M H H':=λa o h _=>s a o h
def Rep.same(h:Rep W M H x v)(s:zr H H'):Rep W M H' x v:=Rep.gen s.fr (λ_ m _=>m) h
def zU.same(h:zU W M H x v)(s:zr H H'):zU W M H' x v:=zU.gen s.fr (λ_ m _=>m) h
def qY.same(h:qY W M H x v)(s:zr H H'):qY W M H' x v:=qY.gen s.fr (λ_ m _=>m) h
def Rep.sub(h:Rep W M H x v)(s:∀a,M a->H a≠none->M' a):Rep W M' H x v:=Rep.gen Fr.refl s h
def zU.sub(h:zU W M H x v)(s:∀a,M a->H a≠none->M' a):zU W M' H x v:=zU.gen Fr.refl s h
def qY.sub(h:qY W M H x v)(s:∀a,M a->H a≠none->M' a):qY W M' H x v:=qY.gen Fr.refl s h
def j5.sub(h:j5 W M H x v)(s:∀a,M a->H a≠none->M' a):j5 W M' H x v:=j5.gen Fr.refl s h
def yK(W:RC)(N M:SD)(H:Hp):PV->V->Prop
 |.l f,v=>∃p d,v=.ref p/\N p/\H p=some (.lst d)/\zU W M H f d
 |.d a,v=>∃p b,v=.ref p/\N p/\Rd H p (.dK b)/\qY W M H a b
 |.sc e,v=>∃p,v=.ref p/\mR W.K N H p (e.map V.int)
 |.dt a,v=>∃p,v=.ref p/\N p/\Rd H p (.dT (dtV a))
 |.o c fs,v=>∃p g b,v=.ref p/\N p/\H p=some (.ins (W.cls c) g b)/\j5 W M H fs b
 |x,v=>Rep W M H x v
def yK.iff:yK W M M H x v↔Rep W M H x v:=by cases x<;>simp only[yK,Rep]
def yK.gen{W:RC}{N M y M':SD}{H H':Hp}{x:PV}{v:V}(g:Fr N H H')(f:Fr M H H')(j:∀a,N a->H a≠none->y a)(s:∀a,M a->H a≠none->M' a)(h:yK W N M H x v):yK W y M' H' x v:=by
 cases x with
 |l D=>obtain⟨p,A,e,m,r,q⟩:=h;exact⟨p,A,e,j p m (by grind),g _ _ r (.inl m),q.gen f s⟩
 |d u=>obtain⟨p,w,e,m,r,q⟩:=h;exact⟨p,w,e,j p m (jM r),g.rd r m,q.gen f s⟩
 |sc C=>obtain⟨p,e,r⟩:=h;exact⟨p,e,r.elim (λz=>.inl ⟨j p z.1 (jM z.2),g.rd z.2 z.1⟩) .inr⟩
 |dt u=>obtain⟨p,e,m,r⟩:=h;exact⟨p,e,j p m (jM r),g.rd r m⟩
 |o c fs=>obtain⟨p,B,w,e,m,r,q⟩:=h;exact⟨p,B,w,e,j p m (by grind),g _ _ r (.inl m),q.gen f s⟩
 |i n=>exact Rep.gen f s h
 |s n=>exact Rep.gen f s h
 |b n=>exact Rep.gen f s h
 |n=>exact Rep.gen f s h
 |t n=>exact Rep.gen f s h
 |x c n=>exact Rep.gen f s h
def yK.same(h:yK W N M H x v)(s:zr H H'):yK W N M H' x v:=yK.gen s.fr s.fr (λ_ m _=>m) (λ_ m _=>m) h
def yK.sub(h:yK W N M H x v)(b:∀a,N a->H a≠none->N' a)(s:∀a,M a->H a≠none->M' a):yK W N' M' H x v:=yK.gen Fr.refl Fr.refl b s h
def Rep.weak(h:Rep W M H x v):yK W (λ_=>True) M H x v:=yK.sub (yK.iff.mpr h) (λ_ _ _=>trivial) (λ_ m _=>m)
def aP(W:RC)(M:SD)(H:Hp)(p:Addr):PV->Prop
 |.l e=>∃d,H p=some (.lst d)/\zU W M H e d
 |.d a=>∃b,H p=some (.dK b)/\qY W M H a b
 |.dt a=>H p=some (.dT (dtV a))
 |.o c fs=>∃f b,H p=some (.ins (W.cls c) f b)/\j5 W M H fs b
 |_=>False
def aP.NU(h:aP W M H p x)(n:N p):yK W N M H x (.ref p):=by
 cases x with
 |l m=>obtain⟨g,e,q⟩:=h;exact⟨p,g,rfl,n,e,q⟩
 |d a=>obtain⟨f,e,q⟩:=h;exact⟨p,f,rfl,n,.inl e,q⟩
 |dt a=>exact⟨p,rfl,n,.inl h⟩
 |o c fs=>obtain⟨j,f,e,q⟩:=h;exact⟨p,j,f,rfl,n,e,q⟩
 |i n=>exact h.elim
 |s n=>exact h.elim
 |b n=>exact h.elim
 |n=>exact h.elim
 |t n=>exact h.elim
 |x c n=>exact h.elim
 |sc n=>exact h.elim
def aP.gen(h:aP W M H p x)(hp:H' p=H p)(f:Fr M H H')(s:∀a,M a->H a≠none->M' a):aP W M' H' p x:=by
 cases x with
 |l u=>obtain⟨m,e,q⟩:=h;exact⟨m,hp.trans e,q.gen f s⟩
 |d g=>obtain⟨j,e,q⟩:=h;exact⟨j,hp.trans e,q.gen f s⟩
 |dt g=>exact hp.trans h
 |o c fs=>obtain⟨r,j,e,q⟩:=h;exact⟨r,j,hp.trans e,q.gen f s⟩
 |i n=>exact h.elim
 |s n=>exact h.elim
 |b n=>exact h.elim
 |n=>exact h.elim
 |t n=>exact h.elim
 |x c n=>exact h.elim
 |sc n=>exact h.elim
def aP.some{W:RC}{M:SD}{H:Hp}{p:Addr}{x:PV}(h:aP W M H p x):∃o,H p=some o/\¬Imm o:=by
 cases x with
 |l g=>obtain⟨j,e,q⟩:=h;exact⟨_,e,id⟩
 |d a=>obtain⟨f,e,q⟩:=h;exact⟨_,e,id⟩
 |dt a=>exact⟨_,h,id⟩
 |o c fs=>obtain⟨m,f,e,q⟩:=h;exact⟨_,e,id⟩
 |i n=>exact h.elim
 |s n=>exact h.elim
 |b n=>exact h.elim
 |n=>exact h.elim
 |t n=>exact h.elim
 |x c n=>exact h.elim
 |sc n=>exact h.elim
def aP.same(h:aP W M H p x)(s:zr H H'):aP W M H' p x:=by obtain⟨o,e,_⟩:=h.some;exact h.gen ((s _ _ e).trans e.symm) s.fr λ_ m _=>m
structure Bs where
 H0:Hp
 M0:Addr->Prop
 N0:Addr->Prop
 nz:∀a,N0 a->H0 a≠none
 pin:Option Addr
 xc:Addr->Prop
structure LC where
 W:RC
 E:XK
 fr:Bool
abbrev Sto:=List (Option PV)
def Bs.Mt(B:Bs):Addr->Prop:=λa=>B.M0 a\/B.H0 a=none
def Mof(B:Bs)(S:Sy)(P:SJ):Addr->Prop:=λa=>(B.Mt a/\¬B.xc a)/\∀i,S[i]?=some 2->P i≠a
structure Rel(W:RC)(B:Bs)(S:Sy)(P:SJ)(H:Hp)(σ:St)(ρ:Sto):Prop where
 same:zr B.H0 H
 len:σ.length=ρ.length
 var:∀(i:Nat) x,ρ[i]?=some (some x)->∃v,σ[i]?=some (some v)/\(S[i]?=some 2->v=.ref (P i)/\aP W (Mof B S P) H (P i) x)/\(S[i]?=some 1->yK W B.N0 (Mof B S P) H x v)/\(S[i]?≠some 2->S[i]?≠some 1->Rep W (Mof B S P) H x v)
 act:∀i,S[i]?=some 2->B.H0 (P i)=none/\∃o,H (P i)=some o/\¬Imm o
 inj:∀i j,S[i]?=some 2->S[j]?=some 2->P i=P j->i=j
 pin:S[0]?=some 2->∀p,B.pin=some p->P 0=p
 exc:∀a,B.xc a->∃o,H a=some o/\¬Imm o/\B.H0 a=none
 axc:∀i,S[i]?=some 2->¬B.xc (P i)
def Rel.keep{W:RC}{B:Bs}{S:Sy}{P:SJ}{H H':Hp}{σ:St}{ρ:Sto}(R:Rel W B S P H σ ρ)(s:zr H H'):Rel W B S P H' σ ρ where
 same:=R.same.trans s
 len:=R.len
 var:=λi x e=>by obtain⟨v,g,b,f,c⟩:=R.var i x e;exact⟨v,g,λz=>⟨(b z).1,(b z).2.same s⟩,λz=>(f z).same s,λz d=>(c z d).same s⟩
 act:=λi h=>⟨(R.act i h).1,let⟨o,e,n⟩:=(R.act i h).2;⟨o,s _ _ e,n⟩⟩
 inj:=R.inj
 pin:=R.pin
 exc:=λa h=>let⟨o,e,n⟩:=R.exc a h;⟨o,s _ _ e,n⟩
 axc:=R.axc
def Rel.wr(R:Rel W B S P H σ ρ)(hi:S[i]?=some 2)(G:i<ρ.length)(d:σ[i]?=some (some (.ref (P i))))(u:¬Imm o)(A:aP W (Mof B S P) (upd H (P i) o) (P i) x'):Rel W B S P (upd H (P i) o) σ (ρ.set i (some x')):=by
 obtain⟨l,I,t,r⟩:=R.act i hi;have g:Fr (Mof B S P) H (upd H (P i) o):=λa q e m=>by
  have:a≠P i:=λz=>by
   rcases m with m|m
   .exact m.2 i hi z.symm
   .rw[z,t]at e;cases e;exact r m
  rw[zh this];exact e
 have w:Fr B.N0 H (upd H (P i) o):=λa q e m=>by
  have:a≠P i:=λz=>by
   rcases m with m|m
   .exact B.nz a m (z▸l)
   .rw[z,t]at e;cases e;exact r m
  rw[zh this];exact e
 refine⟨λa q e=>?_,by rw[a0L];exact R.len,λj x e=>?_,λj p=>?_,R.inj,R.pin,λa h=>?_,R.axc⟩
 .have:a≠P i:=λz=>by rw[z,l]at e;cases e
  rw[zh this];exact R.same a q e
 .by_cases b:i=j
  .subst b;rw[a0v G]at e;cases e;exact⟨_,d,λ_=>⟨rfl,A⟩,(λz=>by rw[hi]at z;cases z),λz=>absurd hi z⟩
  .rw[a0s b]at e;obtain⟨v,E,s,F,y⟩:=R.var j x e;refine⟨v,E,λz=>⟨(s z).1,?_⟩,λz=>yK.gen w g (λ_ m _=>m) (λ_ m _=>m) (F z),λz D=>Rep.gen g (λ_ m _=>m) (y z D)⟩;have:P j≠P i:=λq=>b (R.inj i j hi z q.symm);exact(s z).2.gen (zh this) g λ_ m _=>m
 .by_cases b:j=i
  .subst b;exact⟨l,o,ze,u⟩
  .obtain⟨C,f,n,c⟩:=R.act j p;have:P j≠P i:=λq=>b (R.inj j i p hi q);exact⟨C,f,by rw[zh this];exact n,c⟩
 .obtain⟨f,n,c⟩:=R.exc a h;by_cases e:a=P i
  .subst e;exact⟨o,ze,u,c.2⟩
  .exact⟨f,by rw[zh e];exact n,c⟩
def yZ{S:Sy}{i j c:Nat}(h:(S.set i 0)[j]?=some 2):S[j]?=some 2/\j≠i:=by grind
def Rel.set(R:Rel W B S P H σ ρ)(n:Rep W (Mof B S P) H x v):Rel W B (S.set i 0) P H (σ.set i (some v)) (ρ.set i (some x)):=by
 have sM:∀a,Mof B S P a->H a≠none->Mof B (S.set i 0) P a:=λa m _=>⟨m.1,λj d=>m.2 j (yZ (c:=0) d).1⟩;refine⟨R.same,by rw[a0L,a0L];exact R.len,λj y e=>?_,λj d=>R.act j (yZ (c:=0) d).1,λj k d q=>R.inj j k (yZ (c:=0) d).1 (yZ (c:=0) q).1,λh=>R.pin (yZ (c:=0) h).1,R.exc,λj d=>R.axc j (yZ (c:=0) d).1⟩;by_cases b:i=j
 .subst b;have g:=by
   have:=(S7.mp e).1
   rwa [a0L]at this
  rw[a0v g]at e;cases e;refine⟨v,by rw[a0v (by rw[R.len];exact g)],λz=>absurd rfl (yZ (c:=0) z).2,λz=>?_,λ_ _=>n.sub sM⟩;rw[List.getElem?_set,if_pos rfl]at z;split at z<;>cases z
 .rw[a0s b]at e;obtain⟨w,r,f,p,l⟩:=R.var j y e;rw[a0s b,a0s b];exact⟨w,r,λz=>⟨(f z).1,(f z).2.gen rfl Fr.refl sM⟩,λz=>(p z).sub (λ_ m _=>m) sM,λz o=>(l z o).sub sM⟩
def Rel.R_(R:Rel W B S P H σ ρ)(s:zr H H')(hp:H p=none)(hi:i<S.length)(r:i≠0)(v:aP W (λa=>Mof B S P a/\a≠p) H' p x):Rel W B (S.set i 2) (λj=>if j=i then p else P j) H' (σ.set i (some (.ref p))) (ρ.set i (some x)):=by
 have L:=zr.none R.same hp;have l:∀{j},(S.set i 2)[j]?=some 2->j≠i->S[j]?=some 2:=λ{j} h n=>by rwa [a0s (λz=>n z.symm)]at h
 have sM:∀a,Mof B S P a->a≠p->Mof B (S.set i 2) (λj=>if j=i then p else P j) a:=λa m u=>⟨m.1,λj c=>by
  by_cases e:j=i
  .simp only[e];exact λz=>u z.symm
  .simp only[e];exact m.2 j (l c e)⟩
 have g:∀a,Mof B S P a->H a≠none->Mof B (S.set i 2) (λj=>if j=i then p else P j) a:=λa m u=>sM a m λz=>u (z▸hp);have D:∀{j},S[j]?=some 2->P j≠p:=λ{j} c z=>by obtain⟨_,o,e,_⟩:=R.act j c;rw[z,hp]at e;cases e
 refine⟨R.same.trans s,by rw[a0L,a0L];exact R.len,λj y e=>?_,λj c=>?_,λj k c A e=>?_,λC q G=>?_,λa h=>let⟨o,e,n⟩:=R.exc a h;⟨o,s _ _ e,n⟩,λj c=>?_⟩
 .by_cases b:i=j
  .subst b;have E:=by
    have:=(S7.mp e).1
    rwa [a0L]at this
   rw[a0v E]at e;cases e;rw[a0v (by rw[R.len];exact E),a0v hi];refine⟨.ref p,rfl,λ_=>⟨by simp,?_⟩,(λz=>by cases z),λz=>absurd rfl z⟩;simp only[if_true];exact v.gen rfl Fr.refl λa m _=>sM a m.1 m.2
  .rw[a0s b]at e;obtain⟨w,f,d,K,F⟩:=R.var j y e;rw[a0s b,a0s b];have t:¬j=i:=λz=>b z.symm;simp only[t];exact⟨w,f,λz=>⟨(d z).1,((d z).2.gen rfl Fr.refl g).same s⟩,λz=>((K z).sub (λ_ m _=>m) g).same s,λz J=>((F z J).sub g).same s⟩
 .by_cases b:j=i
  .subst b;simp only[if_true];exact⟨L,v.some⟩
  .simp only[b];obtain⟨I,o,e,n⟩:=R.act j (l c b);exact⟨I,o,s _ _ e,n⟩
 .by_cases f:j=i
  .by_cases d:k=i
   .rw[f,d]
   .simp only[f,d,if_true]at e;exact absurd e.symm (D (l A d))
  .by_cases d:k=i
   .simp only[f,d,if_true]at e;exact absurd e (D (l c f))
   .simp only[f,d]at e;exact R.inj j k (l c f) (l A d) e
 .rw[a0s r]at C;rw[if_neg (λz=>r z.symm)];exact R.pin C q G
 .by_cases e:j=i
  .rw[if_pos e];exact λz=>by obtain⟨o,q,_⟩:=R.exc p z;rw[hp]at q;cases q
  .rw[if_neg e];exact R.axc j (l c e)
def Rel.freeze(R:Rel W B S P H σ ρ)(hi:S[i]?=some 2):Rel W B (S.set i 0) P H σ ρ:=by
 have sM:∀a,Mof B S P a->H a≠none->Mof B (S.set i 0) P a:=λa m _=>⟨m.1,λj b=>m.2 j (yZ (c:=0) b).1⟩;refine⟨R.same,R.len,λj y e=>?_,λj b=>R.act j (yZ (c:=0) b).1,λj k b n=>R.inj j k (yZ (c:=0) b).1 (yZ (c:=0) n).1,λo=>R.pin (yZ (c:=0) o).1,R.exc,λj b=>R.axc j (yZ (c:=0) b).1⟩;obtain⟨w,g,f,r,l⟩:=R.var j y e;by_cases d:i=j
 .subst d;obtain⟨rfl,s⟩:=f hi;have t:=(S7.mp hi).1;rw[a0v t];refine⟨_,g,(λz=>by cases z),(λz=>by cases z),λ_ _=>yK.iff.mp ((s.gen rfl Fr.refl sM).NU ⟨⟨.inr (R.act i hi).1,λz=>?_⟩,λj b e=>?_⟩)⟩
  .exact R.axc i hi z
  obtain⟨q,h⟩:=yZ (c:=0) b;exact h (R.inj j i q hi e)
 .rw[a0s d];exact⟨w,g,λz=>⟨(f z).1,(f z).2.gen rfl Fr.refl sM⟩,λz=>(r z).sub (λ_ m _=>m) sM,λz p=>(l z p).sub sM⟩
def Rel.wrx(R:Rel W B S P H σ ρ)(l:B.xc a)(G:¬Imm o):Rel W B S P (upd H a o) σ ρ:=by
 obtain⟨I,u,s,g⟩:=R.exc a l;have f:Fr (Mof B S P) H (upd H a o):=λc q e m=>by
  have:c≠a:=λz=>by
   rcases m with m|m
   .exact m.1.2 (z▸l)
   .rw[z,u]at e;cases e;exact s m
  rw[zh this];exact e
 have w:Fr B.N0 H (upd H a o):=λc q e m=>by
  have:c≠a:=λz=>by
   rcases m with m|m
   .exact B.nz c m (z▸g)
   .rw[z,u]at e;cases e;exact s m
  rw[zh this];exact e
 have p:∀{i},S[i]?=some 2->P i≠a:=λ{i} A z=>R.axc i A (z▸l);refine⟨λc q e=>?_,R.len,λj x e=>?_,λj r=>?_,R.inj,R.pin,λc h=>?_,R.axc⟩
 .have:c≠a:=λz=>by rw[z,g]at e;cases e
  rw[zh this];exact R.same c q e
 .obtain⟨v,E,t,F,y⟩:=R.var j x e;exact⟨v,E,λz=>⟨(t z).1,(t z).2.gen (zh (p z)) f λ_ m _=>m⟩,λz=>yK.gen w f (λ_ m _=>m) (λ_ m _=>m) (F z),λz D=>Rep.gen f (λ_ m _=>m) (y z D)⟩
 .obtain⟨C,b,n,d⟩:=R.act j r;exact⟨C,b,by rw[zh (p r)];exact n,d⟩
 .by_cases e:c=a
  .subst e;exact⟨o,ze,G,g⟩
  .obtain⟨b,n,d⟩:=R.exc c h;exact⟨b,by rw[zh e];exact n,d⟩
abbrev ME:=Sto->Out PV
abbrev MT:=Sto->Out Bool
abbrev MA:=Sto->Out (List PV)
inductive Fw where
 |nx (ρ:Sto)|rt (x:PV)|bk (ρ:Sto)|ct (ρ:Sto)
abbrev MS:=Sto->Out Fw
def XPo(C:LC)(B:Bs)(c:Nat)(fs:Tc):Prop:=∀e b d a,zr B.H0 a->a e=some (XC e (C.W.cls c) b)->a b=some (XD b d)->j5 C.W B.Mt a fs d->C.E (.ref e) (some b) a
def zF(C:LC)(B:Bs)(H:Hp)(R:Hp->PV->V->Prop)(Q:VK):Out PV->Prop
 |.ok r=>∀v a,zr H a->R a r v->Q v a
 |.exc c fs=>XPo C B c fs
 |.wall=>False
def g6(C:LC)(B:Bs)(H:Hp)(Q:Bool->Hp->Prop):Out Bool->Prop
 |.ok r=>∀a,zr H a->Q r a
 |.exc c fs=>XPo C B c fs
 |.wall=>False
def RV(C:LC)(B:Bs)(S:Sy)(P:SJ)(w:Bool)(H:Hp)(x:PV)(v:V):Prop:=yK C.W (if w=true then λ_=>True else Mof B S P) (Mof B S P) H x v
def RV.rep(h:RV C B S P false H x v):Rep C.W (Mof B S P) H x v:=yK.iff.mp h
def RV.of(h:Rep C.W (Mof B S P) H x v):RV C B S P false H x v:=yK.iff.mpr h
def RV.weak(h:RV C B S P w H x v):yK C.W (λ_=>True) (Mof B S P) H x v:=yK.sub h (λ_ _ _=>trivial) λ_ m _=>m
def RV.same(h:RV C B S P w H x v)(s:zr H H'):RV C B S P w H' x v:=yK.same h s
def LE(C:LC)(S:Sy)(w:Bool)(c:TE)(m:ME):Prop:=∀B P H b a,Rel C.W B S P H b a->∀Q,zF C B H (RV C B S P w) Q (m a)->c b H Q
def LT(C:LC)(S:Sy)(c:TT)(m:MT):Prop:=∀B P H b a,Rel C.W B S P H b a->∀Q,g6 C B H Q (m a)->c b H Q
def EM(X:Cx)(C:LC)(S:Sy)(w:Bool)(e:SN)(m:ME):Prop:=X.K=C.W.K->∃a,PE X e a/\LE C S w a m
def TM(X:Cx)(C:LC)(S:Sy)(e:SN)(m:MT):Prop:=X.K=C.W.K->∃a,PT X e a/\LT C S a m
def TWM(X:Cx)(C:LC)(S:Sy)(e:SN)(m:MT):Prop:=X.K=C.W.K->∃a,PW X e a/\LT C S a m
def zF.bind(h:zF C B H R Q (o.bind f))(k:∀r,o=.ok r->∀v a,zr H a->R0 a r v->zF C B a R Q (f r)->Q' v a)(i:∀a,zr H a->∀x v,R a x v->R a x v):zF C B H R0 Q' o:=by
 cases o with
 |ok r=>exact λv a s g=>k r rfl v a s g (by
   have h:zF C B H R Q (f r):=h;revert h;cases f r with
   |ok x=>exact λh v e b d=>h v e (s.trans b) d
   |exc c fs=>exact id
   |wall=>exact id)
 |exc c fs=>exact h
 |wall=>exact h
def jd(h:zF C B H R Q (o.bind f))(k:∀r v a,zr H a->R0 a r v->zF C B a R Q (f r)->Q' v a):zF C B H R0 Q' o:=
 zF.bind h (λr _ v a s b hp=>k r v a s b hp) λ_ _ _ _ h=>h
def Xi(h:zF C B H R Q o)(s:zr H H2):zF C B H2 R Q o:=by
 cases o with
 |ok x=>exact λv d a b=>h v d (s.trans a) b
 |exc c fs=>exact h
 |wall=>exact h
def aQ(h:g6 C B H Q o)(s:zr H H2):g6 C B H2 Q o:=by
 cases o with
 |ok x=>exact λb a=>h b (s.trans a)
 |exc c fs=>exact h
 |wall=>exact h
def so(h:g6 C B H Q (o.bind f))(k:∀r v a,zr H a->R0 a r v->g6 C B a Q (f r)->Q' v a):zF C B H R0 Q' o:=by
 cases o with
 |ok r=>exact λv a s b=>k r v a s b (aQ h s)
 |exc c fs=>exact h
 |wall=>exact h
def Vl(h:g6 C B H Q (o.bind f))(k:∀r a,zr H a->g6 C B a Q (f r)->Q' r a):g6 C B H Q' o:=by
 cases o with
 |ok r=>exact λa s=>k r a s (aQ h s)
 |exc c fs=>exact h
 |wall=>exact h
def zb(i:Nat):ME:=λa=>match a[i]? with|some (some x)=>.ok x|_=>.wall
def mC(x:PV):ME:=λ_=>.ok x
section
variable {X:Cx}{C:LC}{S:Sy}{e a b:SN}{w w1 w2:Bool}{m m1 m2:ME}
def EM.weak(h:EM X C S w e m):EM X C S true e m:=λi=>by
 obtain⟨f,n,l⟩:=h i;refine⟨f,n,λB P H o d R Q q=>l B P H o d R Q ?_⟩;revert q;cases m d with
 |ok r=>exact λq v j s g=>q v j s (by unfold RV;exact g.weak)
 |exc c fs=>exact id
 |wall=>exact id
def lv(R:Rel C.W B S P H σ ρ)(q:zF C B H R' Q (zb i ρ))(k:∀x v,σ[i]?=some (some v)->ρ[i]?=some (some x)->R' H x v):cE i σ H Q:=by
 unfold zb at q;cases e:ρ[i]? with
 |none=>rw[e]at q;exact q.elim
 |some o=>
  cases o with
  |none=>rw[e]at q;exact q.elim
  |some x=>rw[e]at q;obtain⟨v,c,_⟩:=R.var i x e;exact⟨v,c,q v H (zr.refl _) (k x v c e)⟩
def zu(h:PE X e (cE i))(d:S[i]?≠some 2/\S[i]?≠some 1:=by decide):EM X C S false e (zb i):=λ_=>⟨_,h,λB P H l j R Q q=>lv R q λx v g e=>by
 obtain⟨n,c,_,_,f⟩:=R.var i x e;rw[g]at c;cases c;exact RV.of (f d.1 d.2)⟩
def Ls(h:PE X e (cE i)):EM X C S true e (zb i):=λ_=>⟨_,h,λB P H o r R Q q=>lv R q λx v l e=>by
 obtain⟨p,c,j,n,g⟩:=R.var i x e;rw[l]at c;cases c;show yK C.W (if true=true then _ else _) _ _ _ _;by_cases f:S[i]?=some 2
 .obtain⟨rfl,z⟩:=j f;exact z.NU trivial
 .by_cases d:S[i]?=some 1
  .exact(n d).sub (λ_ _ _=>trivial) λ_ m _=>m
  .exact(g f d).weak⟩
def NV(h:PE X e (tC v))(c:∀M H,Rep C.W M H x v):EM X C S false e (mC x):=λ_=>⟨_,h,λB P H f d R Q q=>q v H (zr.refl _) (RV.of (c _ _))⟩
def yt(h:PE X e (tC (.int i))):EM X C S false e (mC (.i i)):=NV h λ_ _=>rfl
def uO(h:PE X e (tC (.str i))):EM X C S false e (mC (.s i)):=NV h λ_ _=>rfl
def kO(h:PE X e (tC (.bl i))):EM X C S false e (mC (.b i)):=NV h λ_ _=>rfl
def o8(h:PE X e (tC .non)):EM X C S false e (mC .n):=NV h λ_ _=>rfl
def mOp(p:PV->PV->Out PV)(m1 m2:ME):ME:=λc=>(m1 c).bind λx=>(m2 c).bind λy=>p x y
def mUn(p:PV->Out PV)(m1:ME):ME:=λc=>(m1 c).bind p
def New(M:SD)(H:Hp):Prop:=∀p,H p=none->M p
def Rel.new(R:Rel W B S P H σ ρ):New (Mof B S P) H:=λp h=>⟨⟨.inr (zr.none R.same h),λz=>by obtain⟨o,q,_⟩:=R.exc p z;rw[h]at q;cases q⟩,λi c e=>by obtain⟨_,o,q,_⟩:=R.act i c;rw[e,h]at q;cases q⟩
def RV.eq:RV C B S P false=Rep C.W (Mof B S P):=by
 funext H x v;exact propext yK.iff
def Lf2(W:RC)(r:R2)(p:PV->PV->Out PV):Prop:=∀(M:SD)(C:LC)(B:Bs) H x y v u Q,New M H->yK W (λ_=>True) M H x v->yK W (λ_=>True) M H y u->zF C B H (Rep W M) Q (p x y)->r v u H Q
def Lf1(W:RC)(r:V->Hp->VK->Prop)(p:PV->Out PV):Prop:=∀(M:SD)(C:LC)(B:Bs) H x v Q,New M H->yK W (λ_=>True) M H x v->zF C B H (Rep W M) Q (p x)->r v H Q
def Co(L:Lf2 C.W r p)(s:LE C S w1 ta m1)(l:LE C S w2 tb m2):LE C S false (tOp r ta tb) (mOp p m1 m2):=λB P H c d R Q q=>
 s B P H c d R _ (jd q λx v t f i n=>l B P t c d (R.keep f) _ (jd n λy u j g o h=>L _ C B j x y v u Q ((R.keep f).keep g).new (i.same g).weak o.weak (RV.eq▸h)))
def zG(o:OpR X (binaryOp op) r)(L:Lf2 C.W r p)(j:EM X C S w1 a m1)(i:EM X C S w2 b m2):EM X C S false (.BinOp a op b pos) (mOp p m1 m2):=λc=>by obtain⟨l,g,d⟩:=j c;obtain⟨n,f,h⟩:=i c;exact⟨_,Oz o g f,Co L d h⟩
def g7(o:UnR X (unaryOp op) r)(L:Lf1 C.W r p)(l:EM X C S w1 a m1):EM X C S false (.UnaryOp op a pos) (mUn p m1):=λc=>by obtain⟨t,n,h⟩:=l c;exact⟨_,OA o n,λB P H f g R Q q=>h B P H f g R _ (jd q λx v s i d j=>L _ C B s x v Q (R.keep i).new d.weak (RV.eq▸j))⟩
def g8(o:OpR X (compareOp op) r)(L:Lf2 C.W r p)(l:EM X C S w1 a m1)(j:EM X C S w2 b m2)(h:behindInMarks op b=false):EM X C S false (.Compare a [op] [b] pos) (mOp p m1 m2):=λc=>by obtain⟨n,g,d⟩:=l c;obtain⟨q,f,i⟩:=j c;exact⟨_,FL o g f h,Co L d i⟩
def asB:PV->Out Bool
 |.b c=>.ok c
 |_=>.wall
def z9(m:ME):MT:=λc=>(m c).bind asB
def uP(h:LE C S w te m):LT C S (IT te) (z9 m):=λB P H j f R Q q=>
 h B P H j f R _ (so q λx v g l i d=>by
  cases x with
  |b c=>exact⟨c,i,d g (zr.refl _)⟩
  |_=>exact d.elim)
def qv(o:OpR X (compareOp op) r)(L:Lf2 C.W r p)(l:EM X C S w1 a m1)(j:EM X C S w2 b m2)(h:behindInMarks op b=false):TM X C S (.Compare a [op] [b] pos) (z9 (mOp p m1 m2)):=λc=>by obtain⟨n,g,d⟩:=l c;obtain⟨q,f,i⟩:=j c;exact⟨_,FN o g f h,uP (Co L d i)⟩
end
def pI(g:Int->Int->PV):PV->PV->Out PV
 |.i a,.i b=>.ok (g a b)
 |_,_=>.wall
def pU(g:Int->PV):PV->Out PV
 |.i a=>.ok (g a)
 |_=>.wall
def Lu(c:∀a b M H,Rep W M H (g a b) (gv a b)):Lf2 W (rI0 gv) (pI g):=λM C B H x y v u Q f e d q=>by
 cases x with
 |i a=>
  cases y with
  |i b=>exact⟨a,b,e,d,q _ H (zr.refl _) (c a b _ _)⟩
  |_=>exact q.elim
 |_=>exact q.elim
def Sa(b:∀a M H,Rep W M H (g a) (gv a)):Lf1 W (rU gv) (pU g):=λM C B H x v Q d c q=>by
 cases x with
 |i a=>exact⟨a,c,q _ H (zr.refl _) (b a _ _)⟩
 |_=>exact q.elim
abbrev Cp:=pI λa b=>.i (a-b)
abbrev pLt:=pI λa b=>.b (decide (a<b))
abbrev pLe:=pI λa b=>.b (decide (a<=b))
abbrev pGt:=pI λa b=>.b (decide (b<a))
abbrev pGe:=pI λa b=>.b (decide (b<=a))
abbrev mq:=pU λa=>.i (-a)
def dC:Lf2 W (rI0 λi j=>.int (i-j)) Cp:=Lu λ_ _ _ _=>rfl
def X4:Lf1 W (rU λi=>.int (-i)) mq:=Sa λ_ _ _=>rfl
section
variable {W:RC}{M:SD}{H:Hp}
def zU.nil:zU W M H [] []:=rfl
def zU.cons(h:Rep W M H x v)(t:zU W M H xs vs):zU W M H (x::xs) (v::vs):=⟨v,vs,rfl,h,t⟩
theorem zU.len:∀{a:SX}{b:SR},zU W M H a b->b.length=a.length
 |[],_,h=>by cases h;rfl
 |x::a,_,h=>by obtain⟨v,r,rfl,_,c⟩:=h;rw[v4,v4,zU.len c]
theorem zU.get:∀{a:SX}{b:SR}{i:Nat}{x:PV},zU W M H a b->a[i]?=some x->∃v,b[i]?=some v/\Rep W M H x v
 |[],_,_,_,_,e=>by simp at e
 |x::a,_,0,y,h,e=>by obtain⟨v,r,rfl,d,c⟩:=h;simp at e;subst e;exact⟨v,rfl,d⟩
 |x::a,_,i+1,y,h,e=>by obtain⟨v,r,rfl,d,c⟩:=h;simp only[List.getElem?_cons_succ]at e ⊢;exact zU.get c e
theorem zU.Ip:∀{a:SX}{b:SR}{i:Nat}{v:V},zU W M H a b->b[i]?=some v->∃x,a[i]?=some x/\Rep W M H x v
 |[],_,_,_,h,e=>by cases h;simp at e
 |x::a,_,0,y,h,e=>by obtain⟨v,r,rfl,d,c⟩:=h;simp at e;subst e;exact⟨x,rfl,d⟩
 |x::a,_,i+1,y,h,e=>by obtain⟨v,r,rfl,d,c⟩:=h;simp only[List.getElem?_cons_succ]at e ⊢;exact zU.Ip c e
theorem zU.append:∀{a c:SX}{d b:SR},zU W M H a d->zU W M H c b->zU W M H (a++c) (d++b)
 |[],_,_,_,h,k=>by cases h;exact k
 |x::a,_,_,_,h,k=>by obtain⟨v,r,rfl,f,e⟩:=h;exact⟨v,_,rfl,f,zU.append e k⟩
theorem zU.take:∀{a:SX}{b:SR}(n:Nat),zU W M H a b->zU W M H (a.take n) (b.take n)
 |[],_,_,h=>by cases h;simp;exact zU.nil
 |x::a,_,0,h=>zU.nil
 |x::a,_,n+1,h=>by obtain⟨v,r,rfl,d,c⟩:=h;exact⟨v,_,rfl,d,zU.take n c⟩
theorem zU.drop:∀{a:SX}{b:SR}(n:Nat),zU W M H a b->zU W M H (a.drop n) (b.drop n)
 |[],_,_,h=>by cases h;simp;exact zU.nil
 |x::a,_,0,h=>h
 |x::a,_,n+1,h=>by obtain⟨v,r,rfl,d,c⟩:=h;exact zU.drop n c
theorem zU.ints:∀{a:Th},zU W M H (a.map PV.i) (a.map V.int)
 |[]=>rfl
 |n::a=>⟨_,_,rfl,rfl,zU.ints⟩
def zU.at(h:zU W M H xs vs)(e:atI xs i=some x):∃v,atI vs i=some v/\Rep W M H x v:=by
 unfold atI at e ⊢;rw[h.len];cases q:ixN xs.length i with
 |none=>rw[q]at e;cases e
 |some j=>rw[q]at e;exact h.get e
def zU.cut{xs:SX}{vs:SR}{lo hi:Tz}(h:zU W M H xs vs):zU W M H ((xs.drop (HT.sIx xs.length 0 lo)).take (HT.sIx xs.length xs.length hi-HT.sIx xs.length 0 lo)) (Eh vs lo hi):=by unfold Eh;rw[h.len];exact(h.drop _).take _
theorem qY.iff:∀{c:SY}{b:SH},qY W M H c b↔b.map (·.1)=c.map (·.1)/\zU W M H (c.map (·.2)) (b.map (·.2))
 |[],b=>⟨λh=>by cases h;exact⟨rfl,rfl⟩,λh=>by cases b with|nil=>rfl|cons a r=>cases h.1⟩
 |i::r,b=>by
  constructor
  .rintro ⟨v,q,rfl,g,f⟩
   obtain⟨e,t⟩:=qY.iff.mp f;exact⟨by simp only[List.map_cons,e],v,_,rfl,g,t⟩
  .rintro ⟨e,v,q,d,g,f⟩
   cases b with
   |nil=>cases d
   |cons a b=>simp only[List.map_cons,List.cons.injEq]at e d;refine⟨a.2,b,by rw[<- e.1],by rw[d.1];exact g,qY.iff.mpr ⟨e.2,by rw[d.2];exact f⟩⟩
theorem j5.iff:∀{c:Tc}{b:Tg},j5 W M H c b↔b.map (·.1)=c.map (·.1)/\zU W M H (c.map (·.2)) (b.map (·.2))
 |[],b=>⟨λh=>by cases h;exact⟨rfl,rfl⟩,λh=>by cases b with|nil=>rfl|cons a r=>cases h.1⟩
 |i::r,b=>by
  constructor
  .rintro ⟨v,q,rfl,g,f⟩
   obtain⟨e,t⟩:=j5.iff.mp f;exact⟨by simp only[List.map_cons,e],v,_,rfl,g,t⟩
  .rintro ⟨e,v,q,d,g,f⟩
   cases b with
   |nil=>cases d
   |cons a b=>simp only[List.map_cons,List.cons.injEq]at e d;refine⟨a.2,b,by rw[<- e.1],by rw[d.1];exact g,j5.iff.mpr ⟨e.2,by rw[d.2];exact f⟩⟩
theorem j5.lookup:∀{a:Tc}{b:Tg}{f:Str}{x:PV},j5 W M H a b->a.lookup f=some x->∃v,b.lookup f=some v/\Rep W M H x v
 |[],_,_,_,_,e=>by cases e
 |d::r,_,f,x,h,e=>by
  obtain⟨v,q,rfl,i,g⟩:=h;rw[a0z]at e ⊢;by_cases c:(f==d.1)=true
  .simp only[c]at e ⊢;cases e;exact⟨v,rfl,i⟩
  .simp only[c]at e ⊢;exact j5.lookup g e
theorem j5.uQ:∀{a:Tc}{b:Tg}{f:Str},j5 W M H a b->a.lookup f=none->b.lookup f=none
 |[],_,_,h,_=>by cases h;rfl
 |d::r,_,f,h,e=>by
  obtain⟨v,q,rfl,i,g⟩:=h;rw[a0z]at e ⊢;by_cases c:(f==d.1)=true
  .simp only[c]at e;cases e
  .simp only[c]at e ⊢;exact j5.uQ g e
def uR(n:New M H)(hp:H p=none)(h:zU W M H xs vs):Rep W M (upd H p (.lst vs)) (.l xs) (.ref p):=⟨p,vs,rfl,n p hp,ze,h.same (zr.upd hp)⟩
def Ge(hp:H p=none)(h:zU W M H xs vs):Rep W M (upd H p (.tup vs)) (.t xs) (.ref p):=⟨p,vs,rfl,SqT.of ze,h.same (zr.upd hp)⟩
end
def Lv:R2:=λx y H Q=>(rI0 (λi j=>.int (i+j)) x y H Q\/∃i j,x=.str i/\y=.str j/\i.length+j.length<=sizeLine/\Q (.str (i++j)) H)\/Rg x y H Q
def yO:OpR X (binaryOp .Add) Lv:=(IP.or rV).or I_
def qZ:PV->PV->Out PV
 |.i a,.i b=>.ok (.i (a+b))
 |.s a,.s b=>if a.length+b.length<=sizeLine then .ok (.s (a++b))else .wall
 |.l a,.l b=>if a.length+b.length<=sizeLine then .ok (.l (a++b))else .wall
 |_,_=>.wall
def yP:Lf2 W Lv qZ:=λM C B H x y v u Q n a b q=>by
 unfold qZ at q;split at q
 .exact .inl (.inl ⟨_,_,a,b,q _ H (zr.refl _) rfl⟩)
 .split at q
  .rename_i h;exact .inl (.inr ⟨_,_,a,b,h,q _ H (zr.refl _) rfl⟩)
  .exact q.elim
 .split at q
  .rename_i h;obtain⟨p,f,rfl,_,e,r⟩:=a;obtain⟨g,c,rfl,_,i,d⟩:=b;exact .inr ⟨p,g,f,c,rfl,rfl,e,i,by rw[r.len,d.len];exact h,λz hz=>q _ _ (zr.upd hz) (uR n hz (r.append d))⟩
  .exact q.elim
 .exact q.elim
def Lw:R2:=λx y H Q=>(rI Eb (λi j=>.int (i*j)) x y H Q\/rI Cj (λi j=>.int (i*j)) x y H Q)\/(Lp x y H Q\/Rh x y H Q)
def aR:OpR X (binaryOp .Mult) Lw:=(IQ.or F8).or (sj.or La)
instance{i j:Int}:Decidable (Eb i j):=by unfold Eb;infer_instance
instance{i j:Int}:Decidable (Il i j):=by unfold Il;infer_instance
instance{i j:Int}:Decidable (P8 i j):=by unfold P8;infer_instance
def cJ:PV->PV->Out PV
 |.i a,.i b=>if Eb a b\/(a.natAbs<2 ^ 8192/\b.natAbs<2 ^ 8192)then .ok (.i (a*b))else .wall
 |.s a,.i b=>if a.length<=16/\-2 ^ 63<=b/\b<=1048576 then .ok (.s (Txt.mul a b))else .wall
 |.l a,.i b=>if -(2 ^ 63)<=b/\b<2 ^ 63/\a.length*b.toNat<=sizeLine then .ok (.l (List.replicate b.toNat a).flatten)else .wall
 |_,_=>.wall
theorem zU.rep{W:RC}{M:SD}{H:Hp}{xs:SX}{vs:SR}(h:zU W M H xs vs):∀n,zU W M H (List.replicate n xs).flatten (List.replicate n vs).flatten
 |0=>rfl
 |n+1=>by exact h.append (h.rep n)
def aS:Lf2 W Lw cJ:=λM C B H x y v u Q n b a q=>by
 unfold cJ at q;split at q
 .split at q
  .rename_i h;rcases h with h|h
   .exact .inl (.inl ⟨_,_,b,a,h,q _ H (zr.refl _) rfl⟩)
   .exact .inl (.inr ⟨_,_,b,a,h,q _ H (zr.refl _) rfl⟩)
  .exact q.elim
 .split at q
  .rename_i h;exact .inr (.inl ⟨_,_,b,a,h.1,h.2.1,h.2.2,q _ H (zr.refl _) rfl⟩)
  .exact q.elim
 .split at q
  .rename_i h;obtain⟨p,c,rfl,_,e,r⟩:=b;exact .inr (.inr ⟨p,_,c,rfl,a,e,h.1,h.2.1,by rw[r.len];exact h.2.2,λz hz=>q _ _ (zr.upd hz) (uR n hz (r.rep _))⟩)
  .exact q.elim
 .exact q.elim
def Lx:R2:=λx y H Q=>rI Il (λi j=>.int (i / j)) x y H Q\/rI Lq (λi j=>.int (i.fdiv j)) x y H Q
def vN:OpR X (binaryOp .FloorDiv) Lx:=FH.or Cm
def Yb:PV->PV->Out PV
 |.i a,.i b=>if Il a b then .ok (.i (a / b))else if b≠0/\b.natAbs<2 ^ 8192 then .ok (.i (a.fdiv b))else .wall
 |_,_=>.wall
def vO:Lf2 W Lx Yb:=λM C B H x y v u Q n b a q=>by
 unfold Yb at q;split at q
 .split at q
  .rename_i h;exact .inl ⟨_,_,b,a,h,q _ H (zr.refl _) rfl⟩
  .split at q
   .rename_i h;exact .inr ⟨_,_,b,a,h,q _ H (zr.refl _) rfl⟩
   .exact q.elim
 .exact q.elim
def Ly:R2:=λx y H Q=>rI (λ_ j=>0<j) (λi j=>.int (i % j)) x y H Q\/rI (λ_ j=>j≠0) (λi j=>.int (i.fmod j)) x y H Q
def z5:OpR X (binaryOp .Mod) Ly:=IS.or FI
def qf:PV->PV->Out PV
 |.i a,.i b=>if 0<b then .ok (.i (a % b))else if b≠0 then .ok (.i (a.fmod b))else .wall
 |_,_=>.wall
def z6:Lf2 W Ly qf:=λM C B H x y v u Q n b a q=>by
 unfold qf at q;split at q
 .split at q
  .rename_i h;exact .inl ⟨_,_,b,a,h,q _ H (zr.refl _) rfl⟩
  .split at q
   .rename_i h;exact .inr ⟨_,_,b,a,h,q _ H (zr.refl _) rfl⟩
   .exact q.elim
 .exact q.elim
def eT:Lf2 W (rI0 λi j=>.bl (decide (i<j))) pLt:=Lu λ_ _ _ _=>rfl
def Gf:Lf2 W (rI0 λi j=>.bl (decide (i<=j))) pLe:=Lu λ_ _ _ _=>rfl
def su:Lf2 W (rI0 λi j=>.bl (decide (j<i))) pGt:=Lu λ_ _ _ _=>rfl
def OY:Lf2 W (rI0 λi j=>.bl (decide (j<=i))) pGe:=Lu λ_ _ _ _=>rfl
def isN:PV->Bool
 |.n=>true
 |_=>false
def Es(a:Bool):PV->PV->Out PV
 |x,.n=>.ok (.b (xor a (isN x)))
 |_,_=>.wall
def Lz(h:yK W N M H x v):decide (v=.non)=isN x:=by
 cases x with
 |n=>cases h;rfl
 |i a=>cases h;rfl
 |s a=>cases h;rfl
 |b a=>cases h;rfl
 |l a=>obtain⟨p,_,rfl,_⟩:=h;rfl
 |t a=>obtain⟨p,_,rfl,_⟩:=h;rfl
 |d a=>obtain⟨p,_,rfl,_⟩:=h;rfl
 |o c a=>obtain⟨p,_,_,rfl,_⟩:=h;rfl
 |x c a=>obtain⟨p,_,_,rfl,_⟩:=h;rfl
 |sc a=>obtain⟨p,rfl,_⟩:=h;rfl
 |dt a=>obtain⟨p,rfl,_⟩:=h;rfl
def Et:Lf2 W (λx y H Q=>y=.non/\Q (.bl (decide (x=.non))) H) (Es false):=λM C B H x y v u Q n b a q=>by
 unfold Es at q;split at q
 .refine⟨a,?_⟩;rw[Lz b];exact q _ H (zr.refl _) (by rw[a1u];rfl)
 .exact q.elim
def Gg:Lf2 W (λx y H Q=>y=.non/\Q (.bl (!decide (x=.non))) H) (Es true):=λM C B H x y v u Q n b a q=>by
 unfold Es at q;split at q
 .refine⟨a,?_⟩;rw[Lz b];exact q _ H (zr.refl _) (by rw[a1Y];rfl)
 .exact q.elim
def oQ.rk(e:Rd H a (.dK kvs)):oQ H a (kV k) (dz kvs k):=.inl ⟨kvs,k,e,rfl,rfl⟩
def RFr(W:RC)(M:SD)(H:Hp)(b:Hp)(x:PV)(v:V):Prop:=∃p,v=.ref p/\H p=none/\aP W (λa=>M a/\a≠p) b p x
def RFr.rep(n:New M H)(h:RFr W M H H2 x v):Rep W M H2 x v:=by obtain⟨p,rfl,hp,h⟩:=h;exact yK.iff.mp ((h.NU (n p hp)).sub (λ_ m _=>m) λ_ m _=>m.1)
def LFr(C:LC)(S:Sy)(c:TE)(m:ME):Prop:=∀B P H b a,Rel C.W B S P H b a->∀Q,zF C B H (RFr C.W (Mof B S P) H) Q (m a)->c b H Q
def FM(X:Cx)(C:LC)(S:Sy)(e:SN)(m:ME):Prop:=X.K=C.W.K->∃a,PE X e a/\LFr C S a m
def VM(h:zF C B H R Q o)(k:∀x v a,zr H a->R' a x v->R a x v):zF C B H R' Q o:=by
 cases o with
 |ok r=>exact λv a s b=>h v a s (k _ _ _ s b)
 |exc c fs=>exact h
 |wall=>exact h
def FM.em(h:FM X C S e m):EM X C S false e m:=λc=>by obtain⟨a,g,f⟩:=h c;exact⟨a,g,λB P H d b R Q q=>f B P H d b R Q (VM q λx v j s i=>RV.of (i.rep R.new))⟩
def RVs(C:LC)(B:Bs)(S:Sy)(P:SJ)(H:Hp):List Bool->List PV->List V->Prop
 |[],a,b=>a=[]/\b=[]
 |w::ws,a,b=>∃x v d c,a=x::d/\b=v::c/\RV C B S P w H x v/\RVs C B S P H ws d c
def sA(C:LC)(B:Bs)(H:Hp)(R:Hp->List PV->List V->Prop)(Q:List V->Hp->Prop):Out (List PV)->Prop
 |.ok r=>∀v a,zr H a->R a r v->Q v a
 |.exc c fs=>XPo C B c fs
 |.wall=>False
def LA(C:LC)(S:Sy)(ws:SI)(c:TA)(m:MA):Prop:=∀B P H b a,Rel C.W B S P H b a->∀Q,sA C B H (λd=>RVs C B S P d ws) Q (m a)->c b H Q
def AM(X:Cx)(C:LC)(S:Sy)(ws:SI)(es:SG)(m:MA):Prop:=X.K=C.W.K->∃a,PA X es a/\LA C S ws a m
def zq:MA:=λ_=>.ok []
def zc(m:ME)(ms:MA):MA:=λa=>(m a).bind λx=>(ms a).bind λb=>.ok (x::b)
def sC{b:Type}{f:PV->Out b}{T:Hp->Out b->Prop}(g:∀H a o,zr H a->T H o->T a o)(e:∀c fs,T H (.exc c fs)->XPo C B c fs)(d:T H .wall->False)
  (h:T H (o.bind f)) (k:∀r v a,zr H a->R a r v->T a (f r)->Q' v a):zF C B H R Q' o:=by
 cases o with
 |ok r=>exact λv a s i=>k r v a s i (g _ _ _ s h)
 |exc c fs=>exact e _ _ h
 |wall=>exact d h
def mS(s:zr H H2)(h:sA C B H R Q o):sA C B H2 R Q o:=by
 cases o with
 |ok x=>exact λv d a b=>h v d (s.trans a) b
 |exc c fs=>exact h
 |wall=>exact h
def j8(h:zF C B H R Q (o.bind f))(k:∀r v a,zr H a->R' a r v->zF C B a R Q (f r)->Q' v a):sA C B H R' Q' o:=by
 cases o with
 |ok r=>exact λv a s b=>k r v a s b (Xi h s)
 |exc c fs=>exact h
 |wall=>exact h
section
variable {X:Cx}{C:LC}{S:Sy}{e a b:SN}{es:SG}{w w1:Bool}{ws:SI}{m m1 m2:ME}{ms:MA}{t1 t2:MT}{pos:Pos}
def zf:AM X C S [] [] zq:=λ_=>⟨_,dy,λB P H d c R Q q=>q [] H (zr.refl _) ⟨rfl,rfl⟩⟩
def za(h:EM X C S w e m)(u:AM X C S ws es ms)(E:starEach (e::es) X.env=(false,eval e X.env)::starEach es X.env:=by rfl):AM X C S (w::ws) (e::es) (zc m ms):=λi=>by
 obtain⟨I,F,y⟩:=h i;obtain⟨J,z,p⟩:=u i;refine⟨_,Vi F z E,λB P H j d R Q q=>y B P H j d R _ (sC (T:=λH o=>sA C B H (λf=>RVs C B S P f (w::ws)) Q o) (λ_ _ _ s h=>mS s h) (λ_ _ h=>h) (λh=>h) q λx v G A r g=>?_)⟩;refine p B P G j d (R.keep A) _ ?_;revert g;cases ms d with
 |ok t=>exact λg l f n D=>g (v::l) f n ⟨x,v,t,l,rfl,rfl,r.same n,D⟩
 |exc c fs=>exact id
 |wall=>exact id
theorem RVs.NW{B:Bs}{P:SJ}{H:Hp}:∀{ws:SI}{g:SX}{h:SR},RVs C B S P H ws g h->ws.all (!·)=true->zU C.W (Mof B S P) H g h
 |[],_,_,⟨f,c⟩,_=>by subst f;subst c;rfl
 |w::ws,_,_,⟨x,v,n,j,f,c,i,l⟩,d=>by subst f;subst c;simp only[List.all_cons,Bool.and_eq_true,Bool.not_eq_true']at d;rw[d.1]at i;exact⟨v,j,rfl,i.rep,RVs.NW l d.2⟩
def mr(ms:MA):ME:=λd=>(ms d).bind λc=>if c.length<=sizeLine then .ok (.l c)else .wall
def my(ms:MA):ME:=λd=>(ms d).bind λc=>if c.length<=sizeLine then .ok (.t c)else .wall
def Ki(h:AM X C S ws es ms)(g:ws.all (!·)=true:=by rfl):FM X C S (.List es pos) (mr ms):=λf=>by
 obtain⟨x,t,r⟩:=h f;refine⟨_,IV t,λB P H j l R Q q=>r B P H j l R _ (j8 q λv o y s i c=>?_)⟩;have d:=i.NW g;split at c
 .rename_i u;exact⟨by rw[d.len];exact u,λp hp=>c _ _ (zr.upd hp) ⟨p,rfl,zr.none s hp,o,ze,(d.sub λa m n=>⟨m,λz=>n (z▸hp)⟩).same (zr.upd hp)⟩⟩
 .exact c.elim
def Kj{x1}(h:AM X C S ws es ms)(g:ws.all (!·)=true:=by rfl):EM X C S false (.Tuple es x1 pos) (my ms):=λf=>by
 obtain⟨v,o,n⟩:=h f;refine⟨_,Eg o,λB P H j l R Q q=>n B P H j l R _ (j8 q λs t x u i c=>?_)⟩;have d:=i.NW g;split at c
 .rename_i r;exact⟨by rw[d.len];exact r,λp hp=>c _ _ (zr.upd hp) (RV.of (Ge hp d))⟩
 .exact c.elim
def o9(t u:MT):MT:=λd=>(t d).bind λc=>if c=true then u d else .ok false
def mOr(t u:MT):MT:=λd=>(t d).bind λc=>if c=true then .ok true else u d
def uS(t:MT):MT:=λd=>(t d).bind λc=>.ok (!c)
def g9(m1 m2:ME):ME:=λd=>(m1 d).bind λx=>(asB x).bind λc=>if c=true then m2 d else .ok (.b false)
def TWM.tm(h:TWM X C S e t1):TM X C S e t1:=λc=>let⟨tt,a1,a2⟩:=h c;⟨tt,a1.pt,a2⟩
def mT(h:TM X C S a t1):TWM X C S (.BoolOp .And [a] pos) t1:=λc=>let⟨tt,a1,a2⟩:=h c;⟨tt,pw_and1 a1,a2⟩
def Kk(h:TM X C S a t1):TWM X C S (.BoolOp .Or [a] pos) t1:=λc=>let⟨tt,a1,a2⟩:=h c;⟨tt,pw_or1 a1,a2⟩
variable {rest:SG}
def o_(h:TM X C S a t1)(n:TWM X C S (.BoolOp .And (b::rest) pos) t2):TWM X C S (.BoolOp .And (a::b::rest) pos) (o9 t1 t2):=λd=>by
 obtain⟨u,s,o⟩:=h d;obtain⟨t,p,l⟩:=n d;refine⟨_,pw_and s p,λB P H f g R Q q=>o B P H f g R _ (Vl q λc j r i=>?_)⟩;cases c with
 |true=>exact Eo (l B P j f g (R.keep r) _ i)
 |false=>exact En (i j (zr.refl _))
def UP(h:TM X C S a t1)(n:TWM X C S (.BoolOp .Or (b::rest) pos) t2):TWM X C S (.BoolOp .Or (a::b::rest) pos) (mOr t1 t2):=λd=>by
 obtain⟨u,s,o⟩:=h d;obtain⟨t,p,l⟩:=n d;refine⟨_,pw_or s p,λB P H f g R Q q=>o B P H f g R _ (Vl q λc j r i=>?_)⟩;cases c with
 |true=>exact Eo (i j (zr.refl _))
 |false=>exact En (l B P j f g (R.keep r) _ i)
def aT(h:TM X C S a t1):TM X C S (.UnaryOp .Not a pos) (uS t1):=λg=>by obtain⟨o,i,d⟩:=h g;exact⟨_,IF i,λB P H n f R Q q=>d B P H n f R _ (Vl q λc l p j=>j l (zr.refl _))⟩
def Qk(h:EM X C S w e m)(he:∀c,isTrue e X.env c=(do let v<-c;standAt e.pos;holding [v] (truthy v)):=by intro _;rfl):TM X C S e (z9 m):=λf=>by obtain⟨i,g,d⟩:=h f;exact⟨_,D_ g he,uP d⟩
def Eu{op}(h:EM X C S w a m):EM X C S w (.BoolOp op [a] pos) m:=λc=>let⟨tt,a1,a2⟩:=h c;⟨tt,IG a1,a2⟩
def Ew(h:EM X C S w1 a m1)(o:EM X C S false (.BoolOp .And (b::rest) pos) m2):EM X C S false (.BoolOp .And (a::b::rest) pos) (g9 m1 m2):=λf=>by
 obtain⟨y,t,p⟩:=h f;obtain⟨u,r,l⟩:=o f;refine⟨_,IH t r,λB P H g i R Q q=>p B P H g i R _ (jd q λx v j s n d=>?_)⟩;cases x with
 |b c=>
  refine⟨c,n,?_⟩;cases c with
  |true=>exact Eo (l B P j g i (R.keep s) _ d)
  |false=>exact En (d _ j (zr.refl _) (RV.of rfl))
 |_=>exact d.elim
end
def zm{a b:Type}[DecidableEq a](kvs:List (a×b))(k:a):Option b:=(kvs.find? λc=>decide (c.1=k)).map (·.2)
theorem qY.get{W:RC}{M:SD}{H:Hp}:∀{a:SY}{b:SH}{k:Tw}{x:PV},qY W M H a b->zm a k=some x->∃v,dz b k=some v/\Rep W M H x v
 |[],_,_,_,_,e=>by cases e
 |d::r,_,k,x,h,e=>by
  obtain⟨v,q,rfl,g,f⟩:=h;unfold zm at e;unfold dz;rw[a2e]at e ⊢;by_cases c:d.1=k
  .simp only[c]at e ⊢;cases e;exact⟨v,rfl,g⟩
  .simp only[c]at e ⊢;exact qY.get f e
theorem qY.NX{W:RC}{M:SD}{H:Hp}:∀{a:SY}{b:SH}{k:Tw},qY W M H a b->zm a k=none->dz b k=none
 |[],_,_,h,_=>by cases h;rfl
 |d::r,_,k,h,e=>by
  obtain⟨v,q,rfl,g,f⟩:=h;unfold zm at e;unfold dz;rw[a2e]at e ⊢;by_cases c:d.1=k
  .simp only[c]at e;cases e
  .simp only[c]at e ⊢;exact qY.NX f e
def qY.Sd(h:qY W M H kvs es):(dz es k).isSome=(zm kvs k).isSome:=by
 cases e:zm kvs k with
 |none=>rw[h.NX e];rfl
 |some x=>obtain⟨v,q,_⟩:=h.get e;rw[q];rfl
def pk:PV->Option Key
 |.i n=>some (.inl n)
 |.s x=>some (.inr x)
 |_=>none
def eU(h:yK W N M H x v)(e:pk x=some k):v=kV k:=by
 cases x with
 |i n=>cases e;exact h
 |s n=>cases e;exact h
 |_=>cases e
def Ri:R2:=λx y H Q=>∃a v,x=.ref a/\oQ H a y (some v)/\Q v H
def uT(n:X.A.units+1<cLine):IxR X Ri:=by
 intro d slice e s l H x y v u Q I w p h t;obtain⟨a,o,rfl,g,q⟩:=h;cases w;have j:=mM I g;refine t0 ?_;refine t0 (a2f j PySem.F.slot_dict_getitem.lookup ?_);have c:wpAny (a32 X) X.A (subscripted slice false (.ref a) u) (λr b=>wpAny (a32 X) X.A (letTemporaryGo d (.ref a) r >>= λ_=>pure r) (EP X e l Q) X.xe b) X.xe s:=by rw[t];exact wpAny_operating (a0O (ux n I g p λo z m i=>⟨_,H,m,i,q⟩) (λr b f=>t0 (wpAny_letTemporaryGo (S8 f))) λ_ _ x=>x)
 first
  |exact S8 (t0 c)
  |exact t0 (S8 (t0 c))
  |exact t0 c
def Rj(K:Tj):R2:=λx y H Q=>rIx K x y H Q\/Ri x y H Q
def k7{b:Type}:Option b->Out b
 |some a=>.ok a
 |none=>.wall
def pIx:PV->PV->Out PV
 |.l b,.i k=>k7 (atI b k)
 |.t b,.i k=>k7 (atI b k)
 |.sc d,.i k=>k7 ((atI d k).map PV.i)
 |.s z,.i k=>if z.length<=sizeLine then k7 ((atI z.cps.toList k).map λc=>.s ⟨#[c]⟩)else .wall
 |.d a,y=>k7 ((pk y).bind λk=>zm a k)
 |_,_=>.wall
def jg(h:zF C B H R Q (k7 o)):∃x,o=some x/\∀v a,zr H a->R a x v->Q v a:=by
 cases o with
 |none=>exact h.elim
 |some x=>exact⟨x,rfl,h⟩
def LB:Lf2 W (Rj W.K) pIx:=λM C B H x y v u Q n b d q=>by
 unfold pIx at q;split at q
 .obtain⟨x,e,q⟩:=jg q;obtain⟨p,h,rfl,_,a,r⟩:=b;obtain⟨v,g,f⟩:=r.at e;exact .inl (.inl ⟨p,h,_,v,rfl,d,SqL.of a,g,q v H (zr.refl _) f⟩)
 .obtain⟨x,e,q⟩:=jg q;obtain⟨p,h,rfl,a,r⟩:=b;obtain⟨v,g,f⟩:=r.at e;exact .inl (.inr (.inl ⟨p,h,_,v,rfl,d,a,g,q v H (zr.refl _) f⟩))
 .obtain⟨x,e,q⟩:=jg q;obtain⟨p,rfl,a⟩:=b;obtain⟨z,hz,rfl⟩:=v0.mp e;refine .inl (.inl ⟨p,_,_,.int z,rfl,d,a.sq,?_,q _ H (zr.refl _) rfl⟩);unfold atI at hz ⊢;rw[f8];cases c:ixN _ _ with
  |none=>rw[c]at hz;cases hz
  |some j=>rw[c,Option.bind_some]at hz;show(List.map V.int _)[j]?=_;rw[a0e,hz];rfl
 .split at q
  .rename_i a;obtain⟨x,e,q⟩:=jg q;obtain⟨z,hz,rfl⟩:=v0.mp e;exact .inl (.inr (.inr ⟨_,_,z,b,d,a,hz,q _ H (zr.refl _) rfl⟩))
  .exact q.elim
 .obtain⟨x,e,q⟩:=jg q;obtain⟨p,l,rfl,_,a,r⟩:=b;obtain⟨k,i,e⟩:=a0l.mp e;obtain⟨v,g,f⟩:=r.get e;exact .inr ⟨p,v,rfl,by rw[eU d i,<- g];exact oQ.rk a,q v H (zr.refl _) f⟩
 .exact q.elim
def OZ(i:X.A.units+1<cLine)(l:EM X C S w1 a m1)(j:EM X C S w2 b m2)(f:eP b:=by intro _ _;rfl):EM X C S false (.Subscript a b pos) (mOp pIx m1 m2):=λc=>by obtain⟨m,e,d⟩:=l c;obtain⟨n,g,h⟩:=j c;exact⟨_,IX (Ei.or (uT i)) e g f,Co (by rw[c];exact LB) d h⟩
def toV:PV->Option V
 |.i a=>some (.int a)
 |.s a=>some (.str a)
 |.b a=>some (.bl a)
 |.n=>some .non
 |_=>none
def aU(h:yK W N M H x v)(e:toV x=some u):v=u/\UO u=true:=by cases x<;>first|(cases e;exact⟨h,rfl⟩)|cases e
def NY:Option Bool->Option Bool->Option Bool
 |some a,some b=>some (a&&b)
 |_,_=>none
def Cq(f:TL):List PV->List PV->Option Bool
 |[],[]=>some true
 |x::a,y::b=>NY (f x y) (Cq f a b)
 |_,_=>some false
def Iq(f:TL)(b:SY):List (Key×PV)->Option Bool
 |[]=>some true
 |a::r=>match zm b a.1 with
  |none=>some false
  |some y=>NY (f a.2 y) (Iq f b r)
def LD(x y:PV):Option Bool:=match toV x,toV y with|some a,some b=>some (eqV a b)|_,_=>none
def g_:Nat->PV->PV->Option Bool
 |n+1,.l a,.l b=>Cq (g_ n) a b
 |n+1,.t a,.t b=>Cq (g_ n) a b
 |_,x,y=>LD x y
def LF(n:Nat):PV->PV->Option Bool
 |.d a,.d b=>if a.length=b.length then Iq (g_ n) b a else some false
 |x,y=>g_ n x y
def VN(h:NY a b=some c):∃p q,a=some p/\b=some q/\c=(p&&q):=by cases a<;>cases b<;>first|(cases h;done)|(cases h;exact⟨_,_,rfl,rfl,rfl⟩)
theorem pb{f:TL}:∀{a c:SX}{b:Bool},Cq f a c=some b->a.length≠c.length->b=false
 |[],[],_,_,h=>absurd rfl h
 |[],_::_,_,h,_=>by cases h;rfl
 |_::_,[],_,h,_=>by cases h;rfl
 |x::a,y::c,b,h,n=>by obtain⟨p,q,_,d,rfl⟩:=VN h;rw[pb d (λz=>n (by rw[v4,v4,z])),a2n]
theorem mU{f:TL}:∀{d g:SX}{b:Bool},Cq f d g=some b->∃e:Nat->Bool,(∀j x y,d[j]?=some x->g[j]?=some y->f x y=some (e j))/\b=((List.range (min d.length g.length)).all e&&d.length==g.length)
 |[],[],b,h=>⟨λ_=>true,(λj x y h=>by simp at h),by cases h;rfl⟩
 |[],_::_,b,h=>⟨λ_=>true,(λj x y h=>by simp at h),by cases h;simp⟩
 |_::_,[],b,h=>⟨λ_=>true,(λj x y _ h=>by simp at h),by cases h;simp⟩
 |x::d,y::g,b,h=>by
  obtain⟨p,q,o,m,rfl⟩:=VN h;obtain⟨e,n,rfl⟩:=mU m;refine⟨λj=>match j with|0=>p|j+1=>e j,λj a c l i=>?_,?_⟩
  .cases j with
   |zero=>simp only[List.getElem?_cons_zero,Option.some.injEq]at l i;subst l;subst i;exact o
   |succ j=>simp only[List.getElem?_cons_succ]at l i;exact n j a c l i
  .simp only[List.length_cons,Nat.add_min_add_right,List.range_succ_eq_map,List.all_cons,Bool.and_assoc];simp[Function.comp_def]
section
variable {X:Cx}{pins:Sw}{σ:St}{H:Hp}{s:SE}{W:RC}
def Gh(I:Inv X pins σ H s)(K:W.K=X.K):∀{n:Nat}{x y:PV}{b:Bool}{v:V}{N M o g:SD},g_ n x y=some b->yK W N M H x v->yK W o g H y v->b=true:=by
 have B:∀{x y:PV}{b:Bool}{v:V}{N M o g:SD},LD x y=some b->yK W N M H x v->yK W o g H y v->b=true:=by
  intro x y b v N M o g h f d;unfold LD at h;cases C:toV x with
  |none=>rw[C]at h;cases h
  |some a=>
   cases F:toV y with
   |none=>rw[C,F]at h;cases h
   |some c=>rw[C,F]at h;obtain⟨T,J⟩:=aU f C;obtain⟨u,_⟩:=aU d F;cases h;rw[<- T]at J ⊢;rw[<- u];cases v<;>first|rfl|(cases J;done)|(simp[eqV];done)
 intro n
 induction n with
 |zero=>intro x y b v N M o g h;exact B (by cases x<;>cases y<;>exact h)
 |succ n O=>
  have w:∀{j i:SX}{m:SR}{b:Bool}{M g:SD},Cq (g_ n) j i=some b->zU W M H j m->zU W g H i m->b=true:=by
   intro j
   induction j with
   |nil=>intro i m b M g h f d;cases f;cases i with
    |nil=>cases h;rfl
    |cons y i=>obtain⟨_,_,e,_⟩:=d;cases e
   |cons x j G=>
    intro i m b M g h f d;obtain⟨v,r,rfl,L,R⟩:=f;cases i with
    |nil=>cases d
    |cons y i=>obtain⟨U,A,e,P,E⟩:=d;cases e;obtain⟨p,q,hp,Q,rfl⟩:=VN h;rw[O hp (yK.iff.mpr L) (yK.iff.mpr P),G Q R E];rfl
  intro x y b v N M o g h f d;cases x with
  |l j=>
   cases y with
   |l i=>obtain⟨p,m,rfl,_,e,r⟩:=f;obtain⟨S,D,u,_,z,A⟩:=d;cases u;rw[e]at z;cases z;exact w h r A
   |_=>exact B h f d
  |t j=>
   cases y with
   |t i=>obtain⟨p,m,rfl,e,r⟩:=f;obtain⟨S,D,u,z,A⟩:=d;cases u;rw[K]at e z;cases I.gH e z;exact w h r A
   |_=>exact B h f d
  |_=>exact B (by cases y<;>exact h) f d
def Ex(e:RelV y u)(d:RelV x v)(g:UO y=true)(f:UO x=true):SeqAt.RcAt A s u v (eqV y x)/\SeqAt.RcNeAt A s u v (!eqV y x):=by
 cases y with
 |non=>
  cases e;cases x with
  |non=>cases d;exact⟨SeqAt.RcAt.none_none,SeqAt.RcNeAt.none_none⟩
  |bl b=>cases d;exact⟨SeqAt.RcAt.none_bool b,SeqAt.RcNeAt.none_bool b⟩
  |int b=>obtain⟨t,rfl⟩:=d;exact⟨SeqAt.RcAt.none_int b t,SeqAt.RcNeAt.none_int b t⟩
  |str b=>obtain⟨t,rfl⟩:=d;exact⟨SeqAt.RcAt.none_str b t,SeqAt.RcNeAt.none_str b t⟩
  |_=>exact absurd f a0b
 |bl a=>
  cases e;cases x with
  |non=>cases d;exact⟨SeqAt.RcAt.bool_none a,SeqAt.RcNeAt.bool_none a⟩
  |bl b=>cases d;exact⟨SeqAt.RcAt.bool_bool a b,SeqAt.RcNeAt.bool_bool a b⟩
  |int b=>obtain⟨t,rfl⟩:=d;exact⟨SeqAt.RcAt.bool_int a b t,SeqAt.RcNeAt.bool_int a b t⟩
  |str b=>obtain⟨t,rfl⟩:=d;exact⟨SeqAt.RcAt.bool_str a b t,SeqAt.RcNeAt.bool_str a b t⟩
  |_=>exact absurd f a0b
 |int a=>
  obtain⟨c,rfl⟩:=e;cases x with
  |non=>cases d;exact⟨SeqAt.RcAt.int_none a c,SeqAt.RcNeAt.int_none a c⟩
  |bl b=>cases d;exact⟨SeqAt.RcAt.int_bool a c b,SeqAt.RcNeAt.int_bool a c b⟩
  |int b=>obtain⟨t,rfl⟩:=d;exact⟨SeqAt.RcAt.int_int a c b t,SeqAt.RcNeAt.int_int a c b t⟩
  |str b=>obtain⟨t,rfl⟩:=d;exact⟨SeqAt.RcAt.int_str a c b t,SeqAt.RcNeAt.int_str a c b t⟩
  |_=>exact absurd f a0b
 |str a=>
  obtain⟨c,rfl⟩:=e;cases x with
  |non=>cases d;exact⟨SeqAt.RcAt.str_none a c,SeqAt.RcNeAt.str_none a c⟩
  |bl b=>cases d;exact⟨SeqAt.RcAt.str_bool a c b,SeqAt.RcNeAt.str_bool a c b⟩
  |int b=>obtain⟨t,rfl⟩:=d;exact⟨SeqAt.RcAt.str_int a c b t,SeqAt.RcNeAt.str_int a c b t⟩
  |str b=>obtain⟨t,rfl⟩:=d;exact⟨SeqAt.RcAt.str_str a c b t,SeqAt.RcNeAt.str_str a c b t⟩
  |_=>exact absurd f a0b
 |_=>exact absurd g a0b
def eV(h:LD x y=some b)(m:yK W N M H x xv)(l:yK W N' M' H y yv)(f:RelV xv u)(e:RelV yv v):
  SeqAt.EqAt A s u v b/\SeqAt.RcAt A s u v b/\SeqAt.RcNeAt A s u v (!b):=by
 unfold LD at h;cases d:toV x with
 |none=>rw[d]at h;cases h
 |some a=>
  cases i:toV y with
  |none=>rw[d,i]at h;cases h
  |some c=>rw[d,i]at h;cases h;obtain⟨rfl,g⟩:=aU m d;obtain⟨rfl,j⟩:=aU l i;exact⟨Ej f e g j,(Ex f e g j).1,(Ex f e g j).2⟩
def Gi(I:Inv X pins σ H s)(hK:W.K=X.K):∀(n:Nat){A:Tf}{x y:PV}{b:Bool}{J P:V}{u v:Value}{N M N' M':SD},g_ n x y=some b->yK W N M H x J->yK W N' M' H y P->RelV J u->RelV P v->A.units+n<cLine->
  SeqAt.EqAt A s u v b/\SeqAt.RcAt A s u v b/\SeqAt.RcNeAt A s u v (!b):=by
 intro n
 induction n with
 |zero=>intro A x y b J P u v N M N' M' h i g d a _;exact eV (by cases x<;>cases y<;>exact h) i g d a
 |succ n ih=>
  intro A x y b J P u v N M N' M' h i g d a hu;have top:∀{p q:Addr},u=.ref p->v=.ref q->J=.ref p->P=.ref q->SeqAt.RcAt A s u v b/\SeqAt.RcNeAt A s u v (!b)->SeqAt.EqAt A s u v b/\SeqAt.RcAt A s u v b/\SeqAt.RcNeAt A s u v (!b):=λ{p q} e1 e2 e3 e4 hr=>by
   refine⟨?_,hr⟩;by_cases c:p=q
   .subst c;rw[e1,e2];rw[Gh I hK h (e3▸i) (e4▸g)];exact SeqAt.EqAt.same _
   .rw[e1,e2]at hr ⊢;exact SeqAt.EqAt.of_refs c hr.1
  cases x with
  |l Q=>
   cases y with
   |l R=>
    obtain⟨p,vs,rfl,_,e,r⟩:=i;obtain⟨p',Z,rfl,_,S,L⟩:=g;cases d;cases a;refine top rfl rfl rfl rfl ?_;obtain⟨T,G,m,_⟩:=I.list (SqL.of e);obtain⟨ws,O,E,_⟩:=I.list (SqL.of S);have C:T.toArray.size=Q.length:=by rw[a0f,<- G.length,r.len]
    have F:ws.toArray.size=R.length:=by rw[a0f,<- O.length,L.len]
    by_cases D:Q.length=R.length
    .obtain⟨f,hf,rfl⟩:=mU h;rw[D,a1w,Bool.and_true,Nat.min_self,<- D,<- C];have K:=o7 (A:=A.in1) (e:=f) (s:=s) G O λj x y u v U Y d a=>by obtain⟨x',w,B⟩:=r.Ip U;obtain⟨y',z,o⟩:=L.Ip Y;exact(ih (A:=A.in1) (hf j x' y' w z) (yK.iff.mpr B) (yK.iff.mpr o) d a (by grind)).1
     exact⟨SeqAt.RcAt.lists m.isList E.isList (by rw[C,F,D]) (by omega) K,SeqAt.RcNeAt.lists m.isList E.isList (by rw[C,F,D]) (by omega) K⟩
    .rw[pb h D];exact⟨SeqAt.RcAt.lists_lengths m.isList E.isList (by rw[C,F];simpa using D) (by omega),SeqAt.RcNeAt.lists_lengths m.isList E.isList (by rw[C,F];simpa using D) (by omega)⟩
   |_=>exact eV h i g d a
  |t Q=>
   cases y with
   |t R=>
    obtain⟨p,vs,rfl,e,r⟩:=i;obtain⟨p',Z,rfl,S,L⟩:=g;cases d;cases a;refine top rfl rfl rfl rfl ?_;rw[hK]at e S;obtain⟨T,G,m,_⟩:=I.tuple e;obtain⟨ws,O,E,_⟩:=I.tuple S;have C:T.toArray.size=Q.length:=by rw[a0f,<- G.length,r.len]
    have F:ws.toArray.size=R.length:=by rw[a0f,<- O.length,L.len]
    obtain⟨f,hf,rfl⟩:=mU h;have K:=o7 (A:=A.in1) (e:=f) (s:=s) G O λj x y u v U Y d a=>by obtain⟨x',w,B⟩:=r.Ip U;obtain⟨y',z,o⟩:=L.Ip Y;exact(ih (A:=A.in1) (hf j x' y' w z) (yK.iff.mpr B) (yK.iff.mpr o) d a (by grind)).1
    rw[<- C,<- F];exact⟨SeqAt.RcAt.tuples m E (by omega) K,SeqAt.RcNeAt.tuples m E (by omega) K⟩
   |_=>exact eV h i g d a
  |_=>exact eV (by cases y<;>exact h) i g d a
def LH{es:SH}{vs:TF}(r:KV es vs){k:Tw}{v:V}(h:dz es k=some v):∃u,valueAt vs k=some u/\RelV v u:=U9.some_of (by rw[<- h];exact KV.val r k)
def Gj{es:SH}{vs:TF}(r:KV es vs){k:Tw}(h:dz es k=none):valueAt vs k=none:=by
 have:=KV.val r k;rw[h]at this;cases e:valueAt vs k with
 |none=>rfl
 |some u=>rw[e]at this;exact this.elim
theorem mW(I:Inv X pins σ H s)(l:W.K=X.K){n:Nat}{A:Tf}(t:A.units+n<cLine){b:SY}{w:SH}{x:TF}{M M':SD}(g:qY W M' H b w)(d:KV w x):
  ∀{a:SY}{o:SH}{m:TF}{r:Bool},qY W M H a o->KV o m->Iq (g_ n) b a=some r->KeqHits A s x m r
 |[],_,_,_,h,k,e=>by cases h;cases k;cases e;exact .nil
 |G::a,_,_,r,h,k,e=>by
  obtain⟨v,q,rfl,E,B⟩:=h;cases k with
  |@cons _ u _ K z kk=>
   obtain⟨N,u⟩:=u;obtain⟨J,D⟩:=z;cases J;unfold Iq at e;cases c:zm b G.1 with
   |none=>rw[c]at e;cases e;exact .miss (Gj d (g.NX c))
   |some y=>rw[c]at e;obtain⟨p,q,hp,C,rfl⟩:=VN e;obtain⟨O,f,F⟩:=g.get c;obtain⟨L,i,j⟩:=LH d f;exact .hit i (Gi I l n hp (yK.iff.mpr E) (yK.iff.mpr F) D j t).1 (mW I l t g d B kk C)
end
def O0(W:RC)(a:Bool):R2:=λd c H Q=>∃M x y b,yK W (λ_=>True) M H x d/\yK W (λ_=>True) M H y c/\LF 8 x y=some b/\Q (.bl (xor a b)) H
def uU:(∃a b,x=.d a/\y=.d b)\/LF n x y=g_ n x y:=by
 cases x with
 |d a=>cases y with
  |d b=>exact .inl ⟨a,b,rfl,rfl⟩
  |_=>exact .inr rfl
 |_=>exact .inr rfl
def Ey(f:W.K=X.K)(T:X.A.units+64<cLine):OpR X (compareOp .Eq) (O0 W false):=by
 intro C s P H R Y u v Q I D B h;obtain⟨M,x,y,b,F,o,e,q⟩:=h;rw[a1u]at q;rcases uU (x:=x) (y:=y)with⟨a,c,rfl,rfl⟩|z
 .obtain⟨p,S,rfl,_,N,G⟩:=F;obtain⟨U,K,rfl,_,L,t⟩:=o;cases D;cases B;obtain⟨_,na,J,g,l⟩:=Vk I.hok N;obtain⟨_,j,O,m,i⟩:=Vk I.hok L;have w:J.length=a.length:=by rw[<- a03 g];have:=a0D List.length (qY.iff.mp G).1;simpa using this
  have E:O.length=c.length:=by rw[<- a03 m];have:=a0D List.length (qY.iff.mp t).1;simpa using this
  have e:(if a.length=c.length then Iq (g_ 8) c a else some false)=some b:=e;by_cases d:a.length=c.length
  .rw[if_pos d]at e;refine keq_eq na j l i (by omega) (λ_=>mW I f (by grind) t m G g e) ?_;rw[w,E,d,a1w];exact⟨.bl b,H,I,rfl,q⟩
  .rw[if_neg d]at e;cases e;refine keq_eq (r:=false) na j l i (by omega) (λz=>absurd (by omega) d) ?_;rw[a2n];exact⟨.bl false,H,I,rfl,q⟩
 .rw[z]at e;exact(Gi I f 8 e F o D B (by omega)).2.1 _ _ _ _ ⟨.bl b,H,I,rfl,q⟩
def LJ(f:W.K=X.K)(T:X.A.units+64<cLine):OpR X (compareOp .NotEq) (O0 W true):=by
 intro C s P H R Y u v Q I D B h;obtain⟨M,x,y,b,F,o,e,q⟩:=h;rw[a1Y]at q;rcases uU (x:=x) (y:=y)with⟨a,c,rfl,rfl⟩|z
 .obtain⟨p,S,rfl,_,N,G⟩:=F;obtain⟨U,K,rfl,_,L,t⟩:=o;cases D;cases B;obtain⟨_,na,J,g,l⟩:=Vk I.hok N;obtain⟨_,j,O,m,i⟩:=Vk I.hok L;have w:J.length=a.length:=by rw[<- a03 g];have:=a0D List.length (qY.iff.mp G).1;simpa using this
  have E:O.length=c.length:=by rw[<- a03 m];have:=a0D List.length (qY.iff.mp t).1;simpa using this
  have e:(if a.length=c.length then Iq (g_ 8) c a else some false)=some b:=e;by_cases d:a.length=c.length
  .rw[if_pos d]at e;refine keq_ne na j l i (by omega) (λ_=>mW I f (by grind) t m G g e) ?_;rw[w,E,d,a1w];exact⟨.bl (!b),H,I,rfl,q⟩
  .rw[if_neg d]at e;cases e;refine keq_ne (r:=false) na j l i (by omega) (λz=>absurd (by omega) d) ?_;rw[a2n];exact⟨.bl (!false),H,I,rfl,q⟩
 .rw[z]at e;exact(Gi I f 8 e F o D B (by omega)).2.2 _ _ _ _ ⟨.bl (!b),H,I,rfl,q⟩
def cG(a:Bool)(x y:PV):Out PV:=match LF 8 x y with|some b=>.ok (.b (xor a b))|none=>.wall
def uV:Lf2 W (O0 W neg) (cG neg):=λM C B H x y v u Q n c a q=>by
 unfold cG at q;cases e:LF 8 x y with
 |none=>rw[e]at q;exact q.elim
 |some b=>rw[e]at q;exact⟨M,x,y,b,c,a,e,q _ H (zr.refl _) rfl⟩
def LK(d:X.A.units+64<cLine)(e:EM X C S w1 a m1)(f:EM X C S w2 b m2):EM X C S false (.Compare a [.Eq] [b] pos) (mOp (cG false) m1 m2):=λc=>g8 (Ey c.symm d) uV e f (eL _ (by decide) (by decide)) c
def Gk(d:X.A.units+64<cLine)(e:EM X C S w1 a m1)(f:EM X C S w2 b m2):TM X C S (.Compare a [.Eq] [b] pos) (z9 (mOp (cG false) m1 m2)):=λc=>qv (Ey c.symm d) uV e f (eL _ (by decide) (by decide)) c
def Cr(d:X.A.units+64<cLine)(e:EM X C S w1 a m1)(f:EM X C S w2 b m2):TM X C S (.Compare a [.NotEq] [b] pos) (z9 (mOp (cG true) m1 m2)):=λc=>qv (LJ c.symm d) uV e f (eL _ (by decide) (by decide)) c
def inP(v:V):List PV->Option Bool
 |[]=>some false
 |y::r=>match toV y,inP v r with
  |some u,some b=>some (eqV u v||b)
  |_,_=>none
theorem uW{W:RC}{M:SD}{H:Hp}{v:V}:∀{a:SX}{d:SR}{b:Bool},zU W M H a d->inP v a=some b->d.all UO=true/\inV v d=b
 |[],_,_,h,e=>by cases h;cases e;exact⟨rfl,rfl⟩
 |y::a,_,b,h,e=>by
  obtain⟨u,r,rfl,m,j⟩:=h;unfold inP at e;cases c:toV y with
  |none=>rw[c]at e;cases e
  |some o=>
   cases g:inP v a with
   |none=>rw[c,g]at e;cases e
   |some n=>rw[c,g]at e;cases e;obtain⟨rfl,f⟩:=aU (yK.iff.mpr m) c;obtain⟨l,i⟩:=uW j g;exact⟨by rw[a2t,f,l];rfl,by unfold inV at i ⊢;rw[a04,i]⟩
def O1(K:Tj)(b:Bool):R2:=λx y H Q=>(rIn K b x y H Q\/∃i j,x=.str i/\y=.str j/\Q (.bl (xor b (!(Builtin.Str.occurrences j i 0 j.length 1).isEmpty))) H)\/∃a o,y=.ref a/\oQ H a x o/\Q (.bl (xor b o.isSome)) H
def Ez(l:X.A.units+1<cLine):OpR X (compareOp .In) (O1 X.K false):=by
 intro b s e H x y v u Q I d c h;rcases h with(h|⟨i,j,e1,e2,q⟩)|⟨a,o,rfl,g,q⟩
 .exact uv b s e H x y v u Q I d c h
 .exact uh b s e H x y v u Q I d c ⟨i,j,e1,e2,by rw[a1u]at q;exact q⟩
 .obtain rfl:u=Value.ref a:=c;exact R4 l I g d λm f=>⟨.bl o.isSome,H,f,rfl,by rw[a1u]at q;exact q⟩
def uX(l:X.A.units+1<cLine):OpR X (compareOp .NotIn) (O1 X.K true):=by
 intro b s e H x y v u Q I d c h;rcases h with(h|⟨i,j,e1,e2,q⟩)|⟨a,o,rfl,g,q⟩
 .exact gO b s e H x y v u Q I d c h
 .exact gP b s e H x y v u Q I d c ⟨i,j,e1,e2,by rw[a1Y]at q;exact q⟩
 .obtain rfl:u=Value.ref a:=c;exact F3 l I g d λm f=>⟨.bl (!o.isSome),H,f,rfl,by rw[a1Y]at q;exact q⟩
def pIn(a:Bool):PV->PV->Out PV
 |x,.l d=>k7 (((toV x).bind λv=>inP v d).map λb=>.b (xor a b))
 |x,.t d=>k7 (((toV x).bind λv=>inP v d).map λb=>.b (xor a b))
 |.s i,.s j=>.ok (.b (xor a (!(Builtin.Str.occurrences j i 0 j.length 1).isEmpty)))
 |x,.d c=>k7 ((pk x).map λk=>.b (xor a (zm c k).isSome))
 |_,_=>.wall
def uY:(if neg=true then !b else b)=xor neg b:=by cases neg<;>simp
def Gm:Lf2 W (O1 W.K neg) (pIn neg):=λM C B H x y v u Q n g h q=>by
 unfold pIn at q;split at q
 .obtain⟨z,e,q⟩:=jg q;obtain⟨b,a,rfl⟩:=v0.mp e;obtain⟨o,c,a⟩:=a0l.mp a;obtain⟨p,j,rfl,_,d,r⟩:=h;obtain⟨rfl,f⟩:=aU g c;obtain⟨l,i⟩:=uW r a;exact .inl (.inl ⟨p,j,rfl,.inl (SqL.of d),f,l,by rw[i,uY];exact q _ H (zr.refl _) rfl⟩)
 .obtain⟨z,e,q⟩:=jg q;obtain⟨b,a,rfl⟩:=v0.mp e;obtain⟨o,c,a⟩:=a0l.mp a;obtain⟨p,j,rfl,d,r⟩:=h;obtain⟨rfl,f⟩:=aU g c;obtain⟨l,i⟩:=uW r a;exact .inl (.inl ⟨p,j,rfl,.inr d,f,l,by rw[i,uY];exact q _ H (zr.refl _) rfl⟩)
 .exact .inl (.inr ⟨_,_,g,h,q _ H (zr.refl _) rfl⟩)
 .obtain⟨z,e,q⟩:=jg q;obtain⟨k,m,rfl⟩:=v0.mp e;obtain⟨p,s,rfl,_,d,r⟩:=h;exact .inr ⟨p,_,rfl,by rw[eU g m];exact oQ.rk d,by rw[r.Sd];exact q _ H (zr.refl _) rfl⟩
 .exact q.elim
section
variable {X:Cx}{C:LC}{S:Sy}{e a b:SN}{es:SG}{w w1 w2:Bool}{ws:SI}{m1 m2:ME}{ms:MA}{pos p:Pos}{x:Str}
def O2(d:X.A.units+1<cLine)(h:EM X C S w1 a m1)(g:EM X C S w2 b m2)(f:behindInMarks .In b=false:=by with_unfolding_all rfl):EM X C S false (.Compare a [.In] [b] pos) (mOp (pIn false) m1 m2):=λc=>g8 (Ez d) (by rw[c];exact Gm) h g f c
def eW(d:X.A.units+1<cLine)(h:EM X C S w1 a m1)(g:EM X C S w2 b m2)(f:behindInMarks .In b=false:=by with_unfolding_all rfl):TM X C S (.Compare a [.In] [b] pos) (z9 (mOp (pIn false) m1 m2)):=λc=>qv (Ez d) (by rw[c];exact Gm) h g f c
def z_(d:X.A.units+1<cLine)(h:EM X C S w1 a m1)(g:EM X C S w2 b m2)(f:behindInMarks .NotIn b=false:=by with_unfolding_all rfl):TM X C S (.Compare a [.NotIn] [b] pos) (z9 (mOp (pIn true) m1 m2)):=λc=>qv (uX d) (by rw[c];exact Gm) h g f c
def Cs(W:RC)(M:SD)(H:Hp):List PV->List V->Prop
 |[],c=>c=[]
 |x::d,c=>∃v r,c=v::r/\yK W (λ_=>True) M H x v/\Cs W M H d r
theorem RVs.weak{B:Bs}{P:SJ}{H:Hp}:∀{ws:SI}{f:SX}{g:SR},RVs C B S P H ws f g->Cs C.W (Mof B S P) H f g
 |[],_,_,⟨d,c⟩=>by subst d;subst c;rfl
 |w::ws,_,_,⟨x,v,l,h,d,c,j,i⟩=>by subst d;subst c;exact⟨v,h,rfl,j.weak,RVs.weak i⟩
def LfC(W:RC)(r:List V->Hp->VK->Prop)(p:SU):Prop:=∀(M:SD)(C:LC)(B:Bs) H xs vs Q,New M H->Cs W M H xs vs->zF C B H (Rep W M) Q (p xs)->r vs H Q
def LfF(W:RC)(r:List V->Hp->VK->Prop)(p:SU):Prop:=∀(M:SD)(C:LC)(B:Bs) H xs vs Q,New M H->Cs W M H xs vs->zF C B H (RFr W M H) Q (p xs)->r vs H Q
def zj(g:SU)(ms:MA):ME:=λc=>(ms c).bind g
def O3(L:LfC C.W r g)(h:LA C S ws ta ms):LE C S false (tCB r ta) (zj g ms):=λB P H o c R Q q=>
 h B P H o c R _ (j8 q λd i l f n j=>L _ C B l d i Q (R.keep f).new n.weak (RV.eq▸j))
def j9(h:zF C B H (RFr W M H) Q o)(s:zr H H2):zF C B H2 (RFr W M H2) Q o:=by
 cases o with
 |ok x=>exact λv g d f=>h v g (s.trans d) (let⟨p,e,hp,hr⟩:=f;⟨p,e,zr.none s hp,hr⟩)
 |exc c fs=>exact h
 |wall=>exact h
def Yc(h:zF C B H (RFr W M H) Q (o.bind f))(k:∀r v d,zr H d->R' d r v->zF C B d (RFr W M d) Q (f r)->Q' v d):sA C B H R' Q' o:=by
 cases o with
 |ok r=>exact λv d s g=>k r v d s g (j9 h s)
 |exc c fs=>exact h
 |wall=>exact h
def aV(h:zF C B H (RFr W M H) Q (o.bind f))(k:∀r v d,zr H d->R' d r v->zF C B d (RFr W M d) Q (f r)->Q' v d):zF C B H R' Q' o:=by
 cases o with
 |ok r=>exact λv d s g=>k r v d s g (j9 h s)
 |exc c fs=>exact h
 |wall=>exact h
def LL(L:LfF C.W r g)(h:LA C S ws ta ms):LFr C S (tCB r ta) (zj g ms):=λB P H o c R Q q=>
 h B P H o c R _ (Yc q λd i l f n j=>L _ C B l d i Q (R.keep f).new n.weak j)
def eX{id:String}{r:List V->Hp->VK->Prop}{g:SU}(l:X.K=C.W.K->Qb X (.builtin id) r)(L:LfC C.W r g)(j:Gl X x)(i:X.mg x=none)(q:bootBuiltins x=some (.builtin id))(n:AM X C S ws (e::es) ms)(o:x≠"__name__":=by decide)(c:(x==("__debug__":Str))=false:=by decide)
  (he:starEach (e::es) X.env=(false,eval e X.env)::starEach es X.env:=by rfl) (hpl:(backTo pos (starEach es X.env)).any (·.1)=false:=by rfl):EM X C S false (.Call (.Name x p) (e::es) [] pos) (zj g ms):=λd=>by
 obtain⟨s,h,f⟩:=n d;exact⟨_,oK (l d) j i q h o c he hpl,O3 L f⟩
def pd{id:String}{r:List V->Hp->VK->Prop}{g:SU}(l:X.K=C.W.K->Qb X (.type id) r)(L:LfF C.W r g)(j:Gl X x)(i:X.mg x=none)(q:bootBuiltins x=some (.type id))(n:AM X C S ws (e::es) ms)(o:x≠"__name__":=by decide)(c:(x==("__debug__":Str))=false:=by decide)
  (he:starEach (e::es) X.env=(false,eval e X.env)::starEach es X.env:=by rfl) (hpl:(backTo pos (starEach es X.env)).any (·.1)=false:=by rfl):FM X C S (.Call (.Name x p) (e::es) [] pos) (zj g ms):=λd=>by
 obtain⟨s,h,f⟩:=n d;exact⟨_,uu (l d) j i q h o c he hpl,LL L f⟩
end
def Qh:List PV->Out PV
 |[.l a]=>.ok (.i a.length)
 |[.t a]=>.ok (.i a.length)
 |[.sc a]=>.ok (.i a.length)
 |[.d a]=>.ok (.i a.length)
 |[.s z]=>if z.length<=sizeLine then .ok (.i z.length)else .wall
 |_=>.wall
def qY.len(h:qY W M H a es):es.length=a.length:=by have:=a0D List.length (qY.iff.mp h).1;simpa using this
def LM(K:Tj):List V->Hp->VK->Prop:=λc H Q=>(∃x n,c=[x]/\P9 K x H n/\Q (.int n) H)\/∃a b,c=[V.ref a]/\Rd H a (.dK b)/\Q (.int b.length) H
def uZ:Qb X (.builtin "len") (λc H Q=>∃a b,c=[V.ref a]/\Rd H a (.dK b)/\Q (.int b.length) H):=by intro d s l H c i Q I r h;obtain⟨a,b,rfl,e,q⟩:=h;obtain⟨u,rfl,g⟩:=vals1 r;cases g;exact ON I e λt j f=>⟨.int _,H,f,⟨t,rfl⟩,q⟩
def LN:LfC W (LM W.K) Qh:=λM C B H g c Q n h q=>by
 unfold Qh at q;split at q
 .obtain⟨v,r,rfl,⟨p,c,rfl,_,b,d⟩,a⟩:=h;cases a;exact .inl ⟨_,c.length,rfl,.inl ⟨c,SqL.of b,rfl⟩,q _ H (zr.refl _) (by rw[d.len];rfl)⟩
 .obtain⟨v,r,rfl,⟨p,c,rfl,b,d⟩,a⟩:=h;cases a;exact .inl ⟨_,c.length,rfl,.inr ⟨c,b,rfl⟩,q _ H (zr.refl _) (by rw[d.len];rfl)⟩
 .obtain⟨v,r,rfl,⟨p,rfl,b⟩,a⟩:=h;cases a;exact .inl ⟨_,_,rfl,.inl ⟨_,b.sq,rfl⟩,q _ H (zr.refl _) (by rw[f8];rfl)⟩
 .obtain⟨v,r,rfl,⟨p,f,rfl,_,b,d⟩,a⟩:=h;cases a;exact .inr ⟨_,f,rfl,b,q _ H (zr.refl _) (by rw[d.len];rfl)⟩
 .split at q
  .rename_i hz;obtain⟨v,r,rfl,e,a⟩:=h;cases a;cases e;exact .inl ⟨_,_,rfl,⟨hz,rfl⟩,q _ H (zr.refl _) rfl⟩
  .exact q.elim
 .exact q.elim
def jB(b:Gl X "len")(a:X.mg "len"=none)(c:AM X C S ws [e] ms)(he:starEach [e] X.env=[(false,eval e X.env)]:=by rfl):EM X C S false (.Call (.Name "len" p) [e] [] pos) (zj Qh ms):=
 eX (λd=>d▸B4.or uZ) LN b a PySem.boot_len c (he:=he)
def Ct:List PV->Out PV
 |[.l a]=>.ok (.l a)
 |[.t a]=>.ok (.l a)
 |[.sc a]=>.ok (.l (a.map PV.i))
 |_=>.wall
def VO(r:zU W M H xs vs)(b:H l=none):RFr W M H (upd H l (.lst vs)) (.l xs) (.ref l):=
 ⟨l,rfl,b,vs,ze,(r.sub λa m n=>⟨m,λz=>n (z▸b)⟩).same (zr.upd b)⟩
def Gn(r:qY W M H xs vs)(b:H l=none):RFr W M H (upd H l (.dK vs)) (.d xs) (.ref l):=
 ⟨l,rfl,b,vs,ze,(r.sub λa m n=>⟨m,λz=>n (z▸b)⟩).same (zr.upd b)⟩
def Gp:LfF W (λf H Q=>∃p d,f=[.ref p]/\(SqL W.K H p d\/SqT W.K H p d)/\∀l,H l=none->Q (.ref l) (upd H l (.lst d))) Ct:=λM C B H f c Q n h q=>by
 unfold Ct at q;split at q
 .obtain⟨v,r,rfl,⟨p,c,rfl,_,a,e⟩,b⟩:=h;cases b;exact⟨p,c,rfl,.inl (SqL.of a),λl a=>q _ _ (zr.upd a) (VO e a)⟩
 .obtain⟨v,r,rfl,⟨p,c,rfl,a,e⟩,b⟩:=h;cases b;exact⟨p,c,rfl,.inr a,λl a=>q _ _ (zr.upd a) (VO e a)⟩
 .obtain⟨v,r,rfl,⟨p,rfl,a⟩,b⟩:=h;cases b;exact⟨p,_,rfl,.inl a.sq,λl a=>q _ _ (zr.upd a) (VO zU.ints a)⟩
 .exact q.elim
def toI:PV->Option Int
 |.i a=>some a
 |_=>none
def LP:List PV->Option (List Int)
 |[]=>some []
 |x::r=>match toI x,LP r with|some a,some b=>some (a::b)|_,_=>none
theorem u5{W:RC}{M:SD}{H:Hp}:∀{c:SX}{g:SR}{d:Th},zU W M H c g->LP c=some d->g=d.map V.int
 |[],_,_,h,e=>by cases h;cases e;rfl
 |x::c,_,d,h,e=>by
  obtain⟨v,r,rfl,l,j⟩:=h;unfold LP at e;cases x with
  |i a=>
   cases f:LP c with
   |none=>rw[f]at e;cases e
   |some b=>rw[f]at e;cases e;rw[T6,<- u5 j f,l]
  |_=>cases e
def Cu:List Int->Int
 |[]=>0
 |[a]=>a
 |a::r=>max a (Cu r)
theorem pe:∀{ns:Th},ns≠[]->Cu ns∈ns
 |[],h=>absurd rfl h
 |[a],_=>by simp[Cu]
 |a::b::r,_=>by
  have ih:=pe (ns:=b::r) (by simp);show max a (Cu (b::r))∈_;rcases Int.le_total a (Cu (b::r))with h|h
  .rw[Int.max_eq_right h];exact S0 _ ih
  .rw[Int.max_eq_left h];exact u8
theorem u6:∀{d:Th}{a:Int},a∈d->a<=Cu d
 |[],_,h=>by cases h
 |[b],a,h=>by simp at h;subst h;exact a3Q _
 |b::c::r,a,h=>by
  rcases T1.mp h with rfl|h
  .exact Int.le_max_left ..
  .exact Int.le_trans (u6 h) (Int.le_max_right ..)
def LQ:List PV->Out PV
 |[.i a,.i b]=>.ok (.i (max a b))
 |[.l d]=>k7 ((LP d).bind λc=>if c=[]then none else some (.i (Cu c)))
 |_=>.wall
def u7:List PV->Out PV
 |[.i a,.i b]=>.ok (.i (min a b))
 |_=>.wall
def LU:LfC W (λb H Q=>∃i j,b=[.int i,.int j]/\Q (.int (if j<i then j else i)) H) u7:=λM C B H b f Q n h q=>by
 unfold u7 at q;split at q
 .obtain⟨v,r,rfl,c,e,g,rfl,a,d⟩:=h;cases d;cases c;cases a;exact⟨_,_,rfl,q _ H (zr.refl _) (by congr 1;omega)⟩
 .exact q.elim
def LV:LfC W (λc H Q=>(∃i j,c=[.int i,.int j]/\Q (.int (if j>i then j else i)) H)\/Lr W.K c H Q) LQ:=λM C B H c o Q n h q=>by
 unfold LQ at q;split at q
 .obtain⟨v,r,rfl,l,u,w,rfl,a,f⟩:=h;cases f;cases l;cases a;exact .inl ⟨_,_,rfl,q _ H (zr.refl _) (by congr 1;omega)⟩
 .obtain⟨z,e,q⟩:=jg q;obtain⟨b,t,e⟩:=a0l.mp e;by_cases hz:b=[]
  .rw[if_pos hz]at e;cases e
  .rw[if_neg hz]at e;cases e;obtain⟨v,r,rfl,⟨p,o,rfl,_,g,m⟩,f⟩:=h;cases f;rw[u5 m t]at g;refine .inr ⟨p,b,rfl,SqL.of g,hz,λM s d=>?_⟩;have:M=Cu b:=Int.le_antisymm (u6 s) (d _ (pe hz));rw[this];exact q _ H (zr.refl _) rfl
 .exact q.elim
def LW(a:X.calm=true)(d:Gl X "max")(c:X.mg "max"=none)(f:AM X C S ws (e::es) ms)(he:starEach (e::es) X.env=(false,eval e X.env)::starEach es X.env:=by rfl)(hpl:(backTo pos (starEach es X.env)).any (·.1)=false:=by rfl):EM X C S false (.Call (.Name "max" p) (e::es) [] pos) (zj LQ ms):=
 eX (λb=>b▸(ui a).or (uM a)) LV d c PyProof.Rows.boot_max f (he:=he) (hpl:=hpl)
def LX(c:X.calm=true)(b:Gl X "min")(a:X.mg "min"=none)(d:AM X C S ws (e::es) ms)(he:starEach (e::es) X.env=(false,eval e X.env)::starEach es X.env:=by rfl)(hpl:(backTo pos (starEach es X.env)).any (·.1)=false:=by rfl):EM X C S false (.Call (.Name "min" p) (e::es) [] pos) (zj u7 ms):=
 eX (λf=>uj c) LU b a PyProof.Rows.boot_min d (he:=he) (hpl:=hpl)
def jC(W:RC)(M:SD)(H:Hp):List Bool->List PV->List V->Prop
 |[],a,b=>a=[]/\b=[]
 |w::ws,a,b=>∃x v d c,a=x::d/\b=v::c/\yK W (if w=true then λ_=>True else M) M H x v/\jC W M H ws d c
theorem RVs.args{C:LC}{B:Bs}{S:Sy}{P:SJ}{H:Hp}:∀{ws:SI}{a:SX}{b:SR},RVs C B S P H ws a b->jC C.W (Mof B S P) H ws a b
 |[],_,_,h=>h
 |w::ws,_,_,⟨x,v,e,d,g,c,i,f⟩=>⟨x,v,e,d,g,c,i,RVs.args f⟩
theorem jC.len{W:RC}{M:SD}{H:Hp}:∀{ws:SI}{c:SX}{d:SR},jC W M H ws c d->d.length=ws.length/\c.length=ws.length
 |[],_,_,⟨b,a⟩=>by subst b;subst a;exact⟨rfl,rfl⟩
 |w::ws,_,_,⟨x,v,g,f,b,a,h,e⟩=>by subst b;subst a;exact⟨by rw[v4,v4,(jC.len e).1],by rw[v4,v4,(jC.len e).2]⟩
theorem jC.same{W:RC}{M:SD}{H H':Hp}(s:zr H H'):∀{ws:SI}{a:SX}{b:SR},jC W M H ws a b->jC W M H' ws a b
 |[],_,_,h=>h
 |w::ws,_,_,⟨x,v,e,d,g,c,i,f⟩=>⟨x,v,e,d,g,c,i.same s,jC.same s f⟩
def RtV(W:RC)(fr:Bool)(M:SD)(H b:Hp)(r:PV)(v:V):Prop:=if fr=true then RFr W (λa=>M a\/H a=none) H b r v else Rep W (λa=>M a\/H a=none) b r v
def O4(W:RC)(fr:Bool)(M:SD)(H:Hp)(Q:VK)(E:XK):Out PV->Prop
 |.ok r=>∀v b,zr H b->RtV W fr M H b r v->Q v b
 |.exc c fs=>∀e d f b,zr H b->b e=some (XC e (W.cls c) d)->b d=some (XD d f)->j5 W (λa=>M a\/H a=none) b fs f->E (.ref e) (some d) b
 |.wall=>False
def lsp(W:RC)(fr:Bool)(ws:SI)(g:SU):Sp:=λb H Q E=>∃M a,jC W M H ws a b/\O4 W fr M H Q E (g a)
def Gq{W:RC}{fr:Bool}{ws:SI}{g:SU}{n:Nat}(h:ws.length=n):∀b H Q E,lsp W fr ws g b H Q E->b.length=n:=λb H Q E ⟨M,c,a,_⟩=>a.len.1.trans h
def RFr.sub(h:RFr W M H H2 x v)(s:∀a,M a->M' a):RFr W M' H H2 x v:=by obtain⟨p,e,hp,h⟩:=h;exact⟨p,e,hp,h.gen rfl Fr.refl λa m _=>⟨s a m.1,m.2⟩⟩
section
variable {X:Cx}{C:LC}{S:Sy}{e a b o:SN}{es:SG}{w fr:Bool}{ws:SI}{m:ME}{ms:MA}{pos p jK:Pos}{x mn:Str}{k:Nat}{f:Addr}{fd:Td}{ps:SA}{g:SU}
def u9(R:Rel C.W B S P H σ ρ)(q:XPo C B c fs):∀e h es d,zr H d->d e=some (XC e (C.W.cls c) h)->d h=some (XD h es)->j5 C.W (λa=>Mof B S P a\/H a=none) d fs es->C.E (.ref e) (some h) d:=
 λe h es d s l j i=>q e h es d (R.same.trans s) l j (i.sub λa m _=>m.elim (λm=>m.1.1) λn=>.inr (zr.none R.same n))
def EA{B:Bs}{P:SJ}{H:Hp}{σ:St}{ρ:Sto}{Q:VK}{o:Out PV}(R:Rel C.W B S P H σ ρ)(q:zF C B H (RV C B S P false) Q o):O4 C.W fr (Mof B S P) H Q C.E o:=by
 have sM:∀a,(Mof B S P a\/H a=none)->Mof B S P a:=λa m=>m.elim id λn=>R.new a n;cases o with
 |ok r=>
  intro v h s d;refine q v h s (RV.of ?_);unfold RtV at d;cases fr with
  |true=>exact(d.sub sM).rep R.new
  |false=>exact d.sub λa m _=>sM a m
 |exc c fs=>exact u9 R q
 |wall=>exact q
def u_{B:Bs}{P:SJ}{H:Hp}{σ:St}{ρ:Sto}{Q:VK}{o:Out PV}(R:Rel C.W B S P H σ ρ)(q:zF C B H (RFr C.W (Mof B S P) H) Q o):O4 C.W true (Mof B S P) H Q C.E o:=by
 have sM:∀a,(Mof B S P a\/H a=none)->Mof B S P a:=λa m=>m.elim id λn=>R.new a n;cases o with
 |ok r=>intro v h s d;unfold RtV at d;exact q v h s (d.sub sM)
 |exc c fs=>exact u9 R q
 |wall=>exact q
def mX(F:yz X.prog X.w X.K X.mg X.base (CXe X.prog X.w) k f fd ps (lsp C.W fr ws g))(u:vF k X.A)(t:Gl X x)(r:X.mg x=some (.ref f))(j:keepIn X.K (.ref f)=true)(z:Binds X.K fd ps [])(h:Passes (CXe X.prog X.w) X C.E)(E:AM X C S ws (e::es) ms)
  (c:(x==("__debug__":Str))=false:=by decide) (he:starEach (e::es) X.env=(false,eval e X.env)::starEach es X.env:=by rfl) (hpl:(backTo pos (starEach es X.env)).any (·.1)=false:=by rfl):EM X C S false (.Call (.Name x p) (e::es) [] pos) (zj g ms):=λd=>by
 obtain⟨I,D,v⟩:=E d;refine⟨_,mH F u t r j z .nil h D c he hpl,λB P H l n R Q q=>v B P H l n R _ (j8 q λs G J y i A=>?_)⟩;rw[a0m];exact⟨_,s,i.args,EA (R.keep y) A⟩
def vP(F:yz X.prog X.w X.K X.mg X.base (CXe X.prog X.w) k f fd ps (lsp C.W true ws g))(u:vF k X.A)(t:Gl X x)(r:X.mg x=some (.ref f))(j:keepIn X.K (.ref f)=true)(z:Binds X.K fd ps [])(h:Passes (CXe X.prog X.w) X C.E)(E:AM X C S ws (e::es) ms)
  (c:(x==("__debug__":Str))=false:=by decide) (he:starEach (e::es) X.env=(false,eval e X.env)::starEach es X.env:=by rfl) (hpl:(backTo pos (starEach es X.env)).any (·.1)=false:=by rfl):FM X C S (.Call (.Name x p) (e::es) [] pos) (zj g ms):=λd=>by
 obtain⟨I,D,v⟩:=E d;refine⟨_,mH F u t r j z .nil h D c he hpl,λB P H l n R Q q=>v B P H l n R _ (Yc q λs G J y i A=>?_)⟩;rw[a0m];exact⟨_,s,i.args,u_ (R.keep y) A⟩
def ae(cs:Sy)(f:Str)(m:ME):ME:=λd=>(m d).bind λx=>match x with
 |.o c fs=>if c∈cs then k7 (fs.lookup f)else .wall
 |_=>.wall
def VP(h:EM X C S w e m)(l:∀c∈cs,Cls X.K (C.W.cls c)/\vk X.K (C.W.cls c) fn)(D:attributeBase e fn X.env (eval e X.env)=eval e X.env:=by rfl):EM X C S false (.Attribute e fn pos) (ae cs fn m):=λn=>by
 obtain⟨G,F,z⟩:=h n;refine⟨_,Ed F D,λB P H t u R Q q=>z B P H t u R _ (jd q λx v j I s d=>?_)⟩;cases x with
 |o c fs=>
  obtain⟨p,r,es,rfl,_,hp,hf⟩:=s;by_cases i:c∈cs
  .have d:zF C B j (RV C B S P false) Q (if c∈cs then k7 (fs.lookup fn)else .wall):=d;rw[if_pos i]at d;obtain⟨y,e,d⟩:=jg d;obtain⟨v,E,A⟩:=hf.lookup e;exact⟨p,_,r,es,v,rfl,hp,(l c i).1,(l c i).2,E,d v j (zr.refl _) (RV.of A)⟩
  .have d:zF C B j (RV C B S P false) Q (if c∈cs then k7 (fs.lookup fn)else .wall):=d;rw[if_neg i]at d;exact d.elim
 |_=>exact d.elim
def J9(tab:List (Nat×(List PV->Out PV)))(mn:Str)(m:ME)(ms:MA):ME:=λd=>(m d).bind λx=>match x with
 |.o c fs=>match tab.lookup c with
  |some g=>if(fs.lookup mn).isSome=true then .wall else(ms d).bind λh=>g (x::h)
  |none=>.wall
 |_=>.wall
def NZ(W:RC)(fr:Bool)(ws:SI)(tab:List (Nat×(List PV->Out PV)))(K:Addr)(sp:Sp):Prop:=∃q∈tab,K=W.cls q.1/\sp=lsp W fr (true::ws) q.2
theorem lookup_mem{i:Type}:∀{d:List (Nat×i)}{c:Nat}{g:i},d.lookup c=some g->(c,g)∈d
 |[],_,_,h=>by cases h
 |q::r,c,g,h=>by
  rw[a0z]at h;by_cases e:(c==q.1)=true
  .simp only[e]at h;cases h;rw[a0u.mp e];exact u8
  .simp only[e]at h;exact S0 _ (lookup_mem h)
def xa{B:Bs}{P:SJ}{H:Hp}{σ:St}{ρ:Sto}{Q:VK}{c:Nat}{fs:Tc}{v:V}{tab:List (Nat×(List PV->Out PV))}{t:TA}(R:Rel C.W B S P H σ ρ)(r1:RV C B S P w H (.o c fs) v)
  (s:∀g,tab.lookup c=some g->fs.lookup mn=none->t σ H λd i=>lsp C.W fr (true::ws) g (v::d) i Q C.E)
  (q:(∃g,tab.lookup c=some g/\fs.lookup mn=none)):∃a j es K n,NZ C.W fr ws tab K n/\v=.ref a/\H a=some (.ins K j es)/\es.lookup mn=none/\t σ H λd i=>n (v::d) i Q C.E:=by
 obtain⟨g,l,r⟩:=q;have h:=s g l r;obtain⟨p,j,es,rfl,_,hp,hf⟩:=r1;exact⟨p,j,es,_,_,⟨(c,g),lookup_mem l,rfl,rfl⟩,rfl,hp,hf.uQ r,h⟩
def RVs.consW{B:Bs}{P:SJ}{H:Hp}{x:PV}{v:V}{xs:SX}{vs:SR}(h:RV C B S P w H x v)(t:RVs C B S P H ws xs vs):jC C.W (Mof B S P) H (true::ws) (x::xs) (v::vs):=⟨x,v,xs,vs,rfl,rfl,by exact h.weak,t.args⟩
def eY(h:EM X C S w o m)(r:∀K y,NZ C.W fr ws tab K y->Io X.prog X.w X.K X.mg X.base X.A mn K y)(J:Passes (CXe X.prog X.w) X C.E)(W:AM X C S ws (e::es) ms)
  (n:starEach (e::es) X.env=(false,eval e X.env)::starEach es X.env:=by rfl) (hpl:(backTo pos (starEach es X.env)).any (·.1)=false:=by rfl)
  (U:eval (.Call (.Attribute o mn jK) (e::es) [] pos) X.env=(do
   let ov<-eval o X.env
   standAt jK.atName
   let(f,first)<-holding [ov] (getMethod ov mn pl)
   callWith pos f first (backTo pos (starEach (e::es) X.env)) (backToKw pos (keywordEach [] X.env))):=by rfl):EM X C S false (.Call (.Attribute o mn jK) (e::es) [] pos) (J9 tab mn m ms):=λu=>by
 obtain⟨to,M,I⟩:=h u;obtain⟨ta,T,N⟩:=W u;refine⟨_,Cn M r J T n hpl U,λB P H D l R Q q=>I B P H D l R _ (jd q λx v F s A d=>?_)⟩;cases x with
 |o c fs=>
  dsimp only at d;cases j:tab.lookup c with
  |none=>rw[j]at d;exact d.elim
  |some g=>
   rw[j]at d;cases t:fs.lookup mn with
   |some z=>rw[t]at d;exact d.elim
   |none=>rw[t]at d;have d:=d;refine xa (R.keep s) A (λY i _=>?_) ⟨g,j,t⟩;rw[j]at i;cases i;exact N B P F D l (R.keep s) _ (j8 d λE Z H2 G O L=>⟨_,_,RVs.consW (RV.same A G) O,EA ((R.keep s).keep G) L⟩)
 |_=>exact d.elim
def Cv(h:EM X C S w o m)(l:∀K r,NZ C.W true [] tab K r->Io X.prog X.w X.K X.mg X.base X.A mn K r)(A:Passes (CXe X.prog X.w) X C.E)
  (G:eval (.Call (.Attribute o mn jK) [] [] pos) X.env=(do
   let ov<-eval o X.env
   standAt jK.atName
   let(f,first)<-holding [ov] (getMethod ov mn pl)
   callWith pos f first (backTo pos (starEach [] X.env)) (backToKw pos (keywordEach [] X.env))):=by rfl):FM X C S (.Call (.Attribute o mn jK) [] [] pos) (J9 tab mn m zq):=λy=>by
 obtain⟨L,D,u⟩:=h y;refine⟨_,uN D l A G,λB P H E F R Q q=>u B P H E F R _ (aV q λx v J t s d=>?_)⟩;cases x with
 |o c fs=>
  dsimp only at d;cases j:tab.lookup c with
  |none=>rw[j]at d;exact d.elim
  |some g=>
   rw[j]at d;cases n:fs.lookup mn with
   |some z=>rw[n]at d;exact d.elim
   |none=>rw[n]at d;refine xa (R.keep t) s (λI i _=>?_) ⟨g,j,n⟩;rw[j]at i;cases i;exact⟨_,_,RVs.consW s ⟨rfl,rfl⟩,u_ (R.keep t) d⟩
 |_=>exact d.elim
def erase(H:Hp)(x:Addr):Hp:=λa=>if a=x then none else H a
def Rk(W:RC)(M:SD)(H:Hp)(x:Addr)(Q:VK)(E:XK):Out PV->Prop
 |.ok r=>∀d,zr (erase H x) d->aP W (λa=>(M a\/erase H x a=none)/\a≠x) d x r->Q .non d
 |.exc c fs=>∀e h es d,zr (erase H x) d->d e=some (XC e (W.cls c) h)->d h=some (XD h es)->j5 W (λa=>M a\/erase H x a=none) d fs es->E (.ref e) (some h) d
 |.wall=>False
def N4(W:RC)(c:Nat)(ws:SI)(g:SU):Sp:=λi H Q E=>∃M x j h d,i=.ref x::d/\H x=some (.ins (W.cls c) j [])/\jC W M (erase H x) ws h d/\Rk W M H x Q E (g h)
def Cw(h:ws.length+1=n):∀d H Q E,N4 W c ws g d H Q E->d.length=n:=λd H Q E ⟨M,x,l,j,i,e,_,a,_⟩=>by rw[e,v4,a.len.1,h]
def xb{H:Hp}{x c K:Addr}(j:H x=none)(l:H c=none)(i:c≠x):zr H (erase (upd (upd H c (.own x)) x (.ins K c [])) x):=λb o d=>by unfold erase;have h:b≠x:=yq d j;rw[if_neg h,zh h,zh (yq d l)];exact d
def xf{H:Hp}{x c K a:Addr}(i:H x=none)(h:erase (upd (upd H c (.own x)) x (.ins K c [])) x a=none):H a=none:=by
 by_cases e:a=x
 .rw[e];exact i
 .unfold erase at h;rw[if_neg e,zh e]at h;by_cases d:a=c
  .subst d;rw[ze]at h;cases h
  .rwa [zh d]at h
def Gr(M:Mk X.K (C.W.cls c) f)(F:yz X.prog X.w X.K X.mg X.base (CXe X.prog X.w) k f fd ps (N4 C.W c ws g))(u:vF (k+1) X.A)(L:Gl X x)(J:X.mg x=some (.ref (C.W.cls c)))(W:Binds X.K fd ps [])(d:Passes (CXe X.prog X.w) X C.E)(ha:AM X C S ws (e::es) ms)
  (i:(x==("__debug__":Str))=false:=by decide) (he:starEach (e::es) X.env=(false,eval e X.env)::starEach es X.env:=by rfl) (hpl:(backTo pos (starEach es X.env)).any (·.1)=false:=by rfl):FM X C S (.Call (.Name x p) (e::es) [] pos) (zj g ms):=λD=>by
 obtain⟨ta,a1,T⟩:=ha D;refine⟨_,uq M F u L J W .nil d a1 i he hpl,λB P H G I R Q q=>T B P H G I R _ (Yc q λz N H1 U E h=>?_)⟩;intro x j d Y v;rw[a0m];have A:=R.keep U;have l:=xb (K:=C.W.cls c) d Y v;refine⟨_,x,j,z,N,rfl,ze,E.args.same l,?_⟩;have sM:∀a,(Mof B S P a\/erase (upd (upd H1 j (.own x)) x (.ins (C.W.cls c) j [])) x a=none)->Mof B S P a:=λa m=>m.elim id λn=>A.new a (xf d n);revert h;cases g z with
 |ok r=>exact λh t y u=>⟨rfl,h _ t (l.trans y) ⟨x,rfl,d,u.gen rfl Fr.refl λa m _=>⟨sM a m.1,m.2⟩⟩⟩
 |exc c fs=>exact λh e s es t y Z O h3=>h e s es t ((A.same.trans l).trans y) Z O (h3.sub λa m _=>(sM a m).1.1)
 |wall=>exact id
inductive Kd where
 |int|str|bool|none|list|tuple|dict|obj (c:Nat)|exc (c:Nat)
 deriving DecidableEq
def kd:PV->Option Kd
 |.i _=>some .int | .s _=>some .str | .b _=>some .bool | .n=>some .none | .l _=>some .list | .t _=>some .tuple | .d _=>some .dict | .o c _=>some (.obj c) | .x c _=>some (.exc c)
 |.sc _=>Option.none
 |.dt _=>Option.none
def tyK(W:RC):Kd->Value
 |.int=>.type "int" | .str=>.type "str" | .bool=>.type "bool" | .none=>.type "NoneType" | .list=>.type "list" | .tuple=>.type "tuple" | .dict=>.type "dict" | .obj c=>.ref (W.cls c) | .exc c=>.ref (W.cls c)
def N5(W:RC):Kd->Prop
 |.obj c=>Cls W.K (W.cls c)/\findIn W.K (.ref (W.cls c)) "__class__"=some (some (.builtin "object.__class__"))/\specialIn W.K (.builtin "object.__class__") "__get__"=some (some (.builtin "getset_descriptor.__get__"))/\takesIn W.K (.builtin "object.__class__")=some true/\mroIn W.K (W.cls c) (.type "object")=some true
 |.exc c=>Qg W.K (W.cls c)/\XIs W.K (W.cls c)
 |_=>True
def xg(W:RC)(f:TX):List (Kd×Bool)->Prop
 |[]=>True
 |q::r=>(N5 W q.1/\f (tyK W q.1)=some q.2)/\xg W f r
theorem xg.get{W:RC}{f:TX}:∀{c:List (Kd×Bool)}{k:Kd}{b:Bool},xg W f c->c.lookup k=some b->N5 W k/\f (tyK W k)=some b
 |[],_,_,_,h=>by cases h
 |q::r,k,b,t,h=>by
  rw[a0z]at h;by_cases e:(k==q.1)=true
  .simp only[e]at h;cases h;rw[a0u.mp e];exact t.1
  .simp only[e]at h;exact xg.get t.2 h
def EB(tab:List (Kd×Bool))(x:PV):Out PV:=k7 (((kd x).bind λk=>tab.lookup k).map PV.b)
def Se(W:RC)(f:TX)(c:V):List V->Hp->VK->Prop:=λd H Q=>∃(M:SD)(x:PV)(v:V)(k:Kd)(b:Bool),d=[v,c]/\yK W (λ_=>True) M H x v/\kd x=some k/\N5 W k/\f (tyK W k)=some b/\Q (.bl b) H
def LY{pins:Sw}{σ:St}{H:Hp}{s:SE}{W:RC}{N M:SD}{x:PV}{v:V}{u:Value}{k:Kd}(B:X.K=W.K)(I:Inv X pins σ H s)(h:yK W N M H x v)(r:RelV v u)(j:kd x=some k)(ok:N5 W k):∃P,KitX X.K u (tyK W k) P/\P s.heap/\u≠.builtin "__main__.__loader__#opaque":=by
 cases x with
 |i a=>cases j;exact mO I r (.inl (by rw[h];exact .int a))
 |s a=>cases j;exact mO I r (.inl (by rw[h];exact .str a))
 |b a=>cases j;exact mO I r (.inl (by rw[h];exact .bl a))
 |n=>cases j;exact mO I r (.inl (by rw[h];exact .non))
 |l a=>cases j;obtain⟨p,J,rfl,_,q,_⟩:=h;exact mO I r (.inl (.lst q))
 |t a=>cases j;obtain⟨p,J,rfl,q,_⟩:=h;cases r;rw[<- B]at q;obtain⟨O,_,⟨o,E,D,_⟩,_⟩:=I.tuple q;exact⟨_,kitx_tuple,⟨o,E,D⟩,λz=>nomatch z⟩
 |d a=>cases j;obtain⟨p,J,rfl,_,q,_⟩:=h;cases r;obtain⟨_,_,ws,_,Q⟩:=Vk I.hok q;obtain⟨o,es,T,E,D,_⟩:=Q;exact⟨_,kitx_dict,⟨o,E,D.1⟩,λz=>nomatch z⟩
 |o c a=>cases j;obtain⟨p,F,es,rfl,_,q,_⟩:=h;obtain⟨A,y,G,L,K⟩:=ok;rw[<- B]at A y G L K;exact mO I r (.inl (.ins q A y G L K))
 |x c a=>cases j;obtain⟨p,F,es,rfl,q,R,_⟩:=h;obtain⟨A,y⟩:=ok;rw[<- B]at A y;exact mO I r (.inr ⟨p,_,F,es,rfl,rfl,A,y,.inl q,R⟩)
 |sc a=>cases j
 |dt a=>cases j
def Cy(i:X.K=W.K)(z:OX cv=some cl):Qb X (.builtin "isinstance") (Se W (λt=>kitOne W.K t cl) cv):=by intro j s G H J E Q I r h;obtain⟨M,x,v,k,b,rfl,n,y,ok,l,q⟩:=h;obtain⟨u,c,rfl,D,A⟩:=vals2 r;obtain⟨P,B,hP,d⟩:=LY i I n D y ok;rw[Ci A z];rw[<- i]at l;exact kia_one B I.kIn hP l d λF=>⟨.bl b,H,I.tok _,rfl,q⟩
def hX(A:Gl X "isinstance")(y:X.mg "isinstance"=none)(h:EM X C S w e m)(D:PE X ce (tC cv))(d:OX cv=some cl)(E:xg C.W (λt=>kitOne C.W.K t cl) tab)
  (he:starEach [e,ce] X.env=[(false,eval e X.env),(false,eval ce X.env)]:=by rfl) (c:starEach [ce] X.env=[(false,eval ce X.env)]:=by rfl):EM X C S false (.Call (.Name "isinstance" p) [e,ce] [] pos) (mUn (EB tab) m):=λl=>by
 obtain⟨L,J,F⟩:=h l;refine⟨_,oK (Cy l d) A y PyProof.Rows.boot_isinstance (Vi J (Vi D dy c) (by rw[he,c])) (by decide) (by decide) (by rw[he,c]) (by rw[c];rfl),λB P H s u R Q q=>F B P H s u R _ (jd q λx v K M n j=>?_)⟩;obtain⟨z,G,j⟩:=jg j;obtain⟨b,i,rfl⟩:=v0.mp G;obtain⟨k,r,i⟩:=a0l.mp i;obtain⟨ok,I⟩:=E.get i;exact⟨_,x,v,k,b,rfl,n.weak,r,ok,I,j _ K (zr.refl _) (RV.of rfl)⟩
abbrev MO:=Sto->Out (Option Int)
def LO(C:LC)(S:Sy)(j:TO)(m:MO):Prop:=∀B P H i d,Rel C.W B S P H i d->∀Q:Option Int->Hp->Prop,(match m d with | .ok r=>∀h,zr H h->Q r h | .exc c fs=>XPo C B c fs | .wall=>False)->j i H Q
def OM(X:Cx)(C:LC)(S:Sy)(e:TQ)(m:MO):Prop:=X.K=C.W.K->∃c,PO X e c/\LO C S c m
def Cz:MO:=λ_=>.ok none
def asI:PV->Out (Option Int)
 |.i a=>.ok (some a)
 |_=>.wall
def J_(m:ME):MO:=λc=>(m c).bind asI
def Vm:OM X C S none Cz:=λ_=>⟨_,FU,λB P H d c R Q q=>q H (zr.refl _)⟩
def vQ(h:EM X C S w e m):OM X C S (some e) (J_ m):=λl=>by
 obtain⟨y,n,j⟩:=h l;refine⟨_,FV n,λB P H u d R Q q=>j B P H u d R _ ?_⟩;unfold J_ at q;revert q;cases m d with
 |ok x=>
  intro q v t s r;cases x with
  |i a=>exact⟨a,r,q t s⟩
  |_=>exact q.elim
 |exc c fs=>exact id
 |wall=>exact id
def tZ{c:Type}(xs:List c)(lo hi:Tz):List c:=(xs.drop (HT.sIx xs.length 0 lo)).take (HT.sIx xs.length xs.length hi-HT.sIx xs.length 0 lo)
def pSl:PV->Option Int->Option Int->Out PV
 |.l i,d,c=>.ok (.l (tZ i d c))
 |.sc h,d,c=>.ok (.l ((tZ h d c).map PV.i))
 |.s z,d,c=>if z.length<=sizeLine then .ok (.s (Txt.slice z d c))else .wall
 |_,_,_=>.wall
def mSl(d:PV->Option Int->Option Int->Out PV)(m:ME)(lo hi:MO):ME:=λc=>(m c).bind λx=>(lo c).bind λl=>(hi c).bind λh=>d x l h
def CA{ns:Th}{lo hi:Tz}:Eh (ns.map V.int) lo hi=(tZ ns lo hi).map V.int:=by unfold Eh tZ;rw[f8,List.map_take,List.map_drop]
variable {lo hi:TQ}{ml mh:MO}{p2:Pos}
def JI(h:EM X C S w e m)(W:OM X C S lo ml)(I:OM X C S hi mh):EM X C S false (.Subscript e (.Slice lo hi none p2) pos) (mSl pSl m ml mh):=λj=>by
 obtain⟨Z,U,M⟩:=h j;obtain⟨Y,N,E⟩:=W j;obtain⟨th,J,O⟩:=I j;refine⟨_,B8 (FY.or Ln) U N J,λB P H t i R Q q=>M B P H t i R _ (jd q λx v D u G d=>E B P D t i (R.keep u) _ ?_)⟩;revert d;cases ml i with
 |exc c fs=>exact id
 |wall=>exact id
 |ok l=>
  intro d L n;refine O B P L t i ((R.keep u).keep n) _ ?_;have d:=d;have d:=Xi d n;revert d;cases mh i with
  |exc c fs=>exact id
  |wall=>exact id
  |ok h=>
   intro d T r;have d:=Xi d r;have y:=(G.same n).same r;have A:=(((R.keep u).keep n).keep r).new;cases x with
   |l xs=>obtain⟨p,K,rfl,_,hp,F⟩:=y;exact .inl ⟨p,K,rfl,SqL.of hp,λz hz=>d _ _ (zr.upd hz) (RV.of ((VO F.cut hz).rep A))⟩
   |sc ns=>obtain⟨p,rfl,hp⟩:=y;exact .inl ⟨p,_,rfl,j▸hp.sq,λz hz=>d _ _ (zr.upd hz) (by rw[CA];exact RV.of ((VO zU.ints hz).rep A))⟩
   |s z=>
    unfold pSl at d;by_cases hz:z.length<=sizeLine
    .simp only[hz]at d;exact .inr ⟨z,y,hz,d _ T (zr.refl _) (RV.of rfl)⟩
    .simp only[hz]at d;exact d.elim
   |_=>exact d.elim
end
def EC(C:LC)(B:Bs)(H:Hp)(x:PV)(v:V):Prop:=if C.fr=true then RFr C.W B.Mt B.H0 H x v else Rep C.W B.Mt H x v
def Qc(C:LC)(B:Bs)(S' Sb Sc:Sy)(D:Ends):Out Fw->Prop
 |.ok (.nx d)=>∀e b a,Rel C.W B S' e b a d->D.nx a b
 |.ok (.rt x)=>∀v b,zr B.H0 b->EC C B b x v->D.rt v b
 |.ok (.bk d)=>∀e b a,Rel C.W B Sb e b a d->D.bk a b
 |.ok (.ct d)=>∀e b a,Rel C.W B Sc e b a d->D.ct a b
 |.exc c fs=>XPo C B c fs
 |.wall=>False
def LS(C:LC)(S S' Sb Sc:Sy)(c:TS)(m:MS):Prop:=∀B P H b a,Rel C.W B S P H b a->∀D,Qc C B S' Sb Sc D (m a)->c D b H
def SM(X:Cx)(C:LC)(S S' Sb Sc:Sy)(st:TB)(m:MS):Prop:=X.K=C.W.K->∃a,PS X st a/\LS C S S' Sb Sc a m
def SsM(X:Cx)(C:LC)(S S' Sb Sc:Sy)(st:Ts)(m:MS):Prop:=X.K=C.W.K->∃a,PSs X st a/\LS C S S' Sb Sc a m
def yk:MS:=λa=>.ok (.nx a)
def zD(a b:MS):MS:=λd=>(a d).bind λf=>match f with
 |.nx c=>b c
 |.rt x=>.ok (.rt x)
 |.bk c=>.ok (.bk c)
 |.ct c=>.ok (.ct c)
def yo(i:Nat)(m:ME):MS:=λa=>(m a).bind λx=>.ok (.nx (a.set i (some x)))
def j_(m:ME):MS:=λa=>(m a).bind λ_=>.ok (.nx a)
def kQ(m:ME):MS:=λa=>(m a).bind λx=>.ok (.rt x)
def sIf(t:MT)(a b:MS):MS:=λd=>(t d).bind λc=>if c=true then a d else b d
section
variable {X:Cx}{C:LC}{S S' S1 Sb Sc:Sy}{e a o:SN}{w:Bool}{m:ME}{t1:MT}{s1 s2:MS}{pos p pos':Pos}{x:Str}{st:TB}{sts stt:Ts}{i:Nat}
def z7:SsM X C S S Sb Sc [] yk:=λ_=>⟨_,ub,λB P H c d R D q=>q P H c R⟩
def LZ(s:LS C S S1 Sb Sc t s1)(r:LS C S1 S' Sb Sc u s2):LS C S S' Sb Sc (Ou t u) (zD s1 s2):=λB P H v h R D q=>by
 refine s B P H v h R _ ?_;unfold zD at q;revert q;cases s1 h with
 |ok f=>
  cases f with
  |nx d=>exact λq n j g l=>r B n j g d l D q
  |rt x=>exact id
  |bk d=>exact id
  |ct d=>exact id
 |exc c fs=>exact id
 |wall=>exact id
def zg(l:SM X C S S1 Sb Sc st s1)(j:SsM X C S1 S' Sb Sc sts s2):SsM X C S S' Sb Sc (st::sts) (zD s1 s2):=λc=>by obtain⟨t,g,d⟩:=l c;obtain⟨u,f,h⟩:=j c;exact⟨_,VH g f,LZ d h⟩
def zk(g:SM X C S S' Sb Sc st s1):SsM X C S S' Sb Sc [st] s1:=λd=>by obtain⟨t,f,c⟩:=g d;exact⟨_,j7 f,c⟩
def L4(i:Nat)(h:SsM X C (S.set i 0) S' Sb Sc sts s1)(hi:S[i]?=some 2:=by rfl):SsM X C S S' Sb Sc sts s1:=λf=>by obtain⟨t,g,c⟩:=h f;exact⟨t,g,λB P H j d R D q=>c B P H j d (R.freeze hi) D q⟩
def ED(h:LE C S false te m):LS C S (S.set i 0) Sb Sc (FG te (eM i)) (yo i m):=λB P H g d R D q=>by
 refine h B P H g d R _ ?_;unfold yo at q;revert q;cases m d with
 |ok x=>exact λq v f s r=>q P f _ ((R.keep s).set r.rep)
 |exc c fs=>exact id
 |wall=>exact id
def EE(l:X.N.Nodup)(hi:X.N[i]?=some x)(j:Loc X.env.scope x)(h:EM X C S false e m)(g:swapsWith e (some (.Name x pos')) pos.line X.env=pure false:=by rfl)(hf:X.fn x=true\/X.env.scope.names.lookup x=some .local:=by first|exact .inl rfl|exact .inr rfl|assumption):
  SM X C S (S.set i 0) Sb Sc (.Assign [.Name x pos'] e pos) (yo i m):=λd=>by
 obtain⟨n,f,c⟩:=h d;exact⟨_,oF l hi j f g hf,ED c⟩
def Gs(h:LFr C S te m)(j:i<S.length)(f:i≠0):LS C S (S.set i 2) Sb Sc (FG te (eM i)) (yo i m):=λB P H l d R D q=>by
 refine h B P H l d R _ ?_;unfold yo at q;revert q;cases m d with
 |ok x=>exact λq v g s ⟨p,e,hp,r⟩=>by subst e;exact q _ g _ (R.R_ s hp j f r)
 |exc c fs=>exact id
 |wall=>exact id
def vR(q:X.N.Nodup)(hi:X.N[i]?=some x)(l:Loc X.env.scope x)(h:FM X C S e m)(n:i<S.length:=by decide)(c:i≠0:=by decide)(g:swapsWith e (some (.Name x pos')) pos.line X.env=pure false:=by rfl)(hf:X.fn x=true\/X.env.scope.names.lookup x=some .local:=by first|exact .inl rfl|exact .inr rfl|assumption):
  SM X C S (S.set i 2) Sb Sc (.Assign [.Name x pos'] e pos) (yo i m):=λf=>by
 obtain⟨r,j,d⟩:=h f;exact⟨_,oF q hi l j g hf,Gs d n c⟩
def yL(h:EM X C S w e m)(l:swapsWith e none pos.line X.env=pure false:=by rfl):SM X C S S Sb Sc (.Expr e pos) (j_ m):=λj=>by
 obtain⟨u,n,g⟩:=h j;refine⟨_,aH n l,λB P H f d R D q=>g B P H f d R _ ?_⟩;unfold j_ at q;revert q;cases m d with
 |ok x=>exact λq v t s r=>q P t f (R.keep s)
 |exc c fs=>exact id
 |wall=>exact id
def yh(h:EM X C S false e m)(hf:C.fr=false:=by rfl):SM X C S S' Sb Sc (.Return (some e) pos) (kQ m):=λg=>by
 obtain⟨t,j,f⟩:=h g;refine⟨_,oE j,λB P H n d R D q=>f B P H n d R _ ?_⟩;unfold kQ at q;revert q;cases m d with
 |ok x=>exact λq v l s r=>q v l (R.same.trans s) (by unfold EC;rw[hf];exact r.rep.sub λa m _=>m.1.1)
 |exc c fs=>exact id
 |wall=>exact id
def eZ(h:FM X C S e m)(hf:C.fr=true:=by rfl):SM X C S S' Sb Sc (.Return (some e) pos) (kQ m):=λg=>by
 obtain⟨t,j,f⟩:=h g;refine⟨_,oE j,λB P H n d R D q=>f B P H n d R _ ?_⟩;unfold kQ at q;revert q;cases m d with
 |ok x=>exact λq v l s r=>q v l (R.same.trans s) (by
   unfold EC;rw[if_pos hf];obtain⟨p,e,hp,r⟩:=r;exact⟨p,e,zr.none R.same hp,r.gen rfl Fr.refl λa m _=>⟨m.1.1.1,m.2⟩⟩)
 |exc c fs=>exact id
 |wall=>exact id
def Vn(h:PE X e (cE i))(hi:S[i]?=some 2:=by rfl)(hf:C.fr=true:=by rfl):SM X C S S' Sb Sc (.Return (some e) pos) (kQ (zb i)):=λl=>by
 refine⟨_,oE h,λB P H n d R D q=>?_⟩;unfold kQ zb at q;cases c:d[i]? with
 |none=>rw[c]at q;exact q.elim
 |some o=>
  cases o with
  |none=>rw[c]at q;exact q.elim
  |some y=>rw[c]at q;obtain⟨v,j,g,_,_⟩:=R.var i y c;obtain⟨rfl,f⟩:=g hi;refine⟨_,j,q _ H R.same ?_⟩;unfold EC;rw[if_pos hf];exact⟨P i,rfl,(R.act i hi).1,f.gen rfl Fr.refl λa m _=>⟨m.1.1,λz=>m.2 i hi z.symm⟩⟩
def qt(h:TM X C S c t1)(A:SsM X C S S' Sb Sc sts s1)(r:SsM X C S S' Sb Sc stt s2):SM X C S S' Sb Sc (.If c sts stt pos) (sIf t1 s1 s2):=λf=>by
 obtain⟨F,E,v⟩:=h f;obtain⟨t,y,l⟩:=A f;obtain⟨u,n,z⟩:=r f;refine⟨_,II E y n,λB P H g d R D q=>v B P H g d R _ ?_⟩;unfold sIf at q;revert q;cases t1 d with
 |ok k=>
  intro q j s;cases k with
  |true=>exact Eo (l B P j g d (R.keep s) D q)
  |false=>exact En (z B P j g d (R.keep s) D q)
 |exc c fs=>exact id
 |wall=>exact id
def Rel.at2(R:Rel W B S P H σ ρ)(hi:S[i]?=some 2)(e:ρ[i]?=some (some y)):σ[i]?=some (some (.ref (P i)))/\aP W (Mof B S P) H (P i) y/\i<ρ.length:=by obtain⟨v,f,d,_,_⟩:=R.var i y e;obtain⟨rfl,c⟩:=d hi;exact⟨f,c,(S7.mp e).1⟩
def Mof.wr{W:RC}{B:Bs}{P:SJ}{H:Hp}{σ:St}{ρ:Sto}{o:HO}(R:Rel W B S P H σ ρ)(hi:S[i]?=some 2):Fr (Mof B S P) H (upd H (P i) o):=λa q e m=>by
 obtain⟨_,f,c,d⟩:=R.act i hi;have:a≠P i:=λz=>by
  rcases m with m|m
  .exact m.2 i hi z.symm
  .rw[z,c]at e;cases e;exact d m
 rw[zh this];exact e
def CB(i:Nat)(m:ME):MS:=λc=>match c[i]? with
 |some (some (.l d))=>(m c).bind λy=>if d.length<sizeLine then .ok (.nx (c.set i (some (.l (d++[y])))))else .wall
 |_=>.wall
def VQ(I:PE X o (cE i))(h:EM X C S false e m)(hi:S[i]?=some 2:=by rfl)(F:attributeBase o "append" X.env (eval o X.env)=eval o X.env:=by rfl)
  (J:((backTo p (starEach [e] X.env)).all (λx=>!x.1)&&(backToKw p (keywordEach [] X.env)).all (λx=>x.1.isSome)&&decide ([e].length+([]:List Keyword).length+(if([]:List Keyword).isEmpty then 0 else 1)<30))=true:=by rfl)
  (L:(jK.endLine==p.line)=true:=by rfl) (z:starEach [e] X.env=[(false,eval e X.env)]:=by rfl) (g:swapsWith (.Call (.Attribute o "append" jK) [e] [] p) none pos.line X.env=pure false:=by rfl):
  SM X C S S Sb Sc (.Expr (.Call (.Attribute o "append" jK) [e] [] p) pos) (CB i m):=λA=>by
 obtain⟨N,K,G⟩:=h A;refine⟨_,aH (FZ a1A a2Q a2R aL I (Vi K dy z) F J L z rfl) g,λB P H n j R D q=>?_⟩;unfold CB at q;split at q
 .rename_i t E;obtain⟨d,⟨u,hp,l⟩,M⟩:=R.at2 hi E;refine⟨_,d,.inl ⟨rfl,_,SqL.of hp⟩,G B P H n j R _ ?_⟩;revert q;cases m j with
  |ok y=>
   intro q v O s r;have q:=q;split at q
   .rename_i hz;have R2:=R.keep s;refine⟨_,u,v,rfl,rfl,s _ _ hp,by rw[l.len];exact hz,q P _ n (R2.wr hi M d (by exact id) ?_)⟩;have f:=Mof.wr (o:=.lst (u++[v])) R2 hi;exact⟨_,ze,((l.same s).append (.cons r.rep .nil)).gen f λ_ m _=>m⟩
   .exact q.elim
  |exc c fs=>exact id
  |wall=>exact id
 .exact q.elim
def N6(i:Nat)(m:ME):MS:=λc=>match c[i]? with
 |some (some (.l d))=>(m c).bind λy=>match y with
  |.l f=>if d.length+f.length<=sizeLine then .ok (.nx (c.set i (some (.l (d++f)))))else .wall
  |_=>.wall
 |_=>.wall
def xh(N:PE X o (cE i))(h:EM X C S w e m)(hi:S[i]?=some 2:=by rfl)(L:attributeBase o "extend" X.env (eval o X.env)=eval o X.env:=by rfl)
  (Q:((backTo p (starEach [e] X.env)).all (λx=>!x.1)&&(backToKw p (keywordEach [] X.env)).all (λx=>x.1.isSome)&&decide ([e].length+([]:List Keyword).length+(if([]:List Keyword).isEmpty then 0 else 1)<30))=true:=by rfl)
  (U:(jK.endLine==p.line)=true:=by rfl) (G:starEach [e] X.env=[(false,eval e X.env)]:=by rfl) (g:swapsWith (.Call (.Attribute o "extend" jK) [e] [] p) none pos.line X.env=pure false:=by rfl):
  SM X C S S Sb Sc (.Expr (.Call (.Attribute o "extend" jK) [e] [] p) pos) (N6 i m):=λJ=>by
 obtain⟨Y,T,M⟩:=h J;refine⟨_,aH (FZ a1A PySem.F.slot_list_extend PySem.F.type_list_extend uw N (Vi T dy G) L Q U G rfl) g,λB P H z j R D q=>?_⟩;unfold N6 at q;split at q
 .rename_i A K;obtain⟨d,⟨E,hp,u⟩,W⟩:=R.at2 hi K;refine⟨_,d,.inl ⟨rfl,_,SqL.of hp⟩,M B P H z j R _ ?_⟩;revert q;cases m j with
  |ok y=>
   intro q v Z s r;cases y with
   |l I=>
    have q:Qc C B S Sb Sc D (if A.length+I.length<=sizeLine then .ok (.nx (j.set i (some (.l (A++I)))))else .wall):=q;split at q
    .rename_i hz;have R2:=R.keep s;obtain⟨O,t,rfl,_,n,F⟩:=r;refine⟨_,O,E,t,rfl,rfl,s _ _ hp,n,by rw[u.len,F.len];exact hz,q P _ z (R2.wr hi W d (by exact id) ?_)⟩;have f:=Mof.wr (o:=.lst (E++t)) R2 hi;exact⟨_,ze,((u.same s).append F).gen f λ_ m _=>m⟩
    .exact q.elim
   |_=>exact q.elim
  |exc c fs=>exact id
  |wall=>exact id
 .exact q.elim
def dput{d f:Type}[DecidableEq d](kvs:List (d×f))(k:d)(v:f):List (d×f):=
 if kvs.any (λc=>decide (c.1=k))=true then kvs.map (λc=>if c.1=k then(c.1,v)else c)else kvs++[(k,v)]
end
def qY.put(h:qY W M H a c)(j:Rep W M H x v):qY W M H (dput a k x) (putK c k v):=by
 have g:∀{a:SY}{c:SH},qY W M H a c->a.any (λb=>decide (b.1=k))=c.any (λb=>decide (b.1=k))/\qY W M H (a.map λb=>if b.1=k then(b.1,x)else b) (c.map λb=>if b.1=k then(b.1,v)else b)/\qY W M H (a++[(k,x)]) (c++[(k,v)]):=by
  intro a
  induction a with
  |nil=>intro c h;cases h;exact⟨rfl,rfl,v,[],rfl,j,rfl⟩
  |cons m a n=>
   intro c h;obtain⟨u,q,rfl,l,o⟩:=h;obtain⟨f,d,i⟩:=n o;refine⟨by rw[a04,a04,f],?_,⟨u,_,rfl,l,i⟩⟩;rw[T6,T6];by_cases e:m.1=k
   .rw[if_pos e,if_pos e];exact⟨v,_,rfl,j,d⟩
   .rw[if_neg e,if_neg e];exact⟨u,_,rfl,l,d⟩
 obtain⟨f,d,i⟩:=g h;unfold dput putK;rw[f];split
 .exact d
 .exact i
section
variable {X:Cx}{C:LC}{S Sb Sc:Sy}{e a o:SN}{es:SG}{w:Bool}{m m1 m2:ME}{pos pos':Pos}{i:Nat}
def gE(i:Nat)(mk mv:ME):MS:=λd=>(mv d).bind λv=>match d[i]? with
 |some (some (.d c))=>(mk d).bind λy=>match pk y with
  |some k=>if c.length<sizeLine then .ok (.nx (d.set i (some (.d (dput c k v)))))else .wall
  |none=>.wall
 |_=>.wall
def aW(L:X.A.units+1<cLine)(J:PE X o (cE i))(l:EM X C S w a m1)(O:EM X C S false e m2)(hi:S[i]?=some 2:=by rfl)(Q:swapsWith e (some (.Subscript o a pos')) pos.line X.env=pure false:=by rfl):
  SM X C S S Sb Sc (.Assign [.Subscript o a pos'] e pos) (gE i m1 m2):=λA=>by
 obtain⟨ta,T,I⟩:=l A;obtain⟨Z,K,F⟩:=O A;refine⟨_,uz L J T K Q,λB P H n h R D q=>F B P H n h R _ ?_⟩;unfold gE at q;revert q;cases m2 h with
 |ok y=>
  intro q v W r M;have t:=R.keep r;have q:Qc C B S Sb Sc D (match h[i]? with
   |some (some (.d d))=>(m1 h).bind λz=>match pk z with
    |some k=>if d.length<sizeLine then .ok (.nx (h.set i (some (.d (dput d k y)))))else .wall
    |none=>.wall
   |_=>.wall):=q
  split at q
  .rename_i d G;obtain⟨j,⟨es,hp,E⟩,U⟩:=t.at2 hi G;refine⟨_,j,I B P W n h t _ ?_⟩;revert q;cases m1 h with
   |ok z=>
    intro q u Y g N;have R2:=t.keep g;have q:Qc C B S Sb Sc D (match pk z with
     |some k=>if d.length<sizeLine then .ok (.nx (h.set i (some (.d (dput d k y)))))else .wall
     |none=>.wall):=q
    split at q
    .rename_i k l;split at q
     .rename_i hz;have s:=g _ _ hp;refine⟨_,_,rfl,by rw[eU N.weak l];exact Im.k s (by rw[qY.len E];exact hz),q P _ n (R2.wr hi U j (by exact id) ?_)⟩;have f:=Mof.wr (o:=.dK (putK es k v)) R2 hi;exact⟨_,ze,((E.same g).put (M.rep.same g)).gen f λ_ m _=>m⟩
     .exact q.elim
    .exact q.elim
   |exc c fs=>exact id
   |wall=>exact id
  .exact q.elim
 |exc c fs=>exact id
 |wall=>exact id
def BP(fs:Tc)(f:Str)(v:PV):List (Str×PV):=match fs with
 |[]=>[(f,v)]
 |c::r=>if c.1=f then(f,v)::r else c::BP r f v
end
theorem j5.put{W:RC}{M:SD}{H:Hp}{f:Str}{x:PV}{v:V}(b:Rep W M H x v):∀{a:Tc}{d:Tg},j5 W M H a d->j5 W M H (BP a f x) (VI f v d)
 |[],_,h=>by cases h;exact⟨v,[],rfl,b,rfl⟩
 |g::a,_,h=>by
  obtain⟨u,q,rfl,i,c⟩:=h;unfold BP VI;by_cases e:g.1=f
  .rw[if_pos e,if_pos e,e];exact⟨v,q,rfl,b,c⟩
  .rw[if_neg e,if_neg e];exact⟨u,_,rfl,i,j5.put b c⟩
def j5.len(h:j5 W M H a es):es.length=a.length:=by have:=a0D List.length (j5.iff.mp h).1;simpa using this
section
variable {X:Cx}{C:LC}{S S' S1 Sb Sc:Sy}{e a b o:SN}{es:SG}{m:ME}{pos p pos':Pos}{x:Str}{i:Nat}
def h8(i:Nat)(cs:Sy)(f:Str)(m:ME):MS:=λd=>(m d).bind λv=>match d[i]? with
 |some (some (.o c fs))=>if c∈cs/\fs.length<1000 then .ok (.nx (d.set i (some (.o c (BP fs f v)))))else .wall
 |_=>.wall
def xi(A:PE X o (cE i))(G:EM X C S false e m)(s:∀c∈cs,Cls X.K (C.W.cls c)/\vk X.K (C.W.cls c) fn)(hi:S[i]?=some 2:=by rfl)(I:swapsWith e (some (.Attribute o fn pos')) pos.line X.env=pure false:=by rfl):
  SM X C S S Sb Sc (.Assign [.Attribute o fn pos'] e pos) (h8 i cs fn m):=λt=>by
 obtain⟨K,E,u⟩:=G t;refine⟨_,Ee A E I,λB P H r g R D q=>u B P H r g R _ ?_⟩;unfold h8 at q;revert q;cases m g with
 |ok y=>
  intro q v L j F;have l:=R.keep j;have q:Qc C B S Sb Sc D (match g[i]? with
   |some (some (.o c fs))=>if c∈cs/\fs.length<1000 then .ok (.nx (g.set i (some (.o c (BP fs fn y)))))else .wall
   |_=>.wall):=q
  split at q
  .rename_i c fs z;split at q
   .rename_i hz;obtain⟨d,⟨h,es,hp,n⟩,J⟩:=l.at2 hi z;refine⟨_,d,_,_,h,es,rfl,hp,(s c hz.1).1,(s c hz.1).2,by rw[n.len];exact hz.2,q P _ r (l.wr hi J d (by exact id) ?_)⟩;have f:=Mof.wr (o:=.ins (C.W.cls c) h (VI fn v es)) l hi;exact⟨h,_,ze,(j5.put F.rep n).gen f λ_ m _=>m⟩
   .exact q.elim
  .exact q.elim
 |exc c fs=>exact id
 |wall=>exact id
abbrev MG:=PV->Sto->Option Sto
def LG(C:LC)(S S':Sy)(g:TG)(j:MG):Prop:=∀B P H h f x v,Rel C.W B S P H h f->Rep C.W (Mof B S P) H x v->∀Q:St->Hp->Prop,(∃d,j x f=some d/\∀c,Rel C.W B S' P H c d->Q c H)->g v h H Q
def GM(X:Cx)(C:LC)(S S':Sy)(c:SN)(d:MG):Prop:=X.K=C.W.K->∃g,PG X c g/\LG C S S' g d
def gNm(i:Nat):MG:=λx c=>some (c.set i (some x))
def q_(f:X.N.Nodup)(hi:X.N[i]?=some x)(c:Loc X.env.scope x)(hf:X.fn x=true\/X.env.scope.names.lookup x=some .local:=by first|exact .inl rfl|exact .inr rfl|assumption):GM X C S (S.set i 0) (.Name x pos) (gNm i):=
 λ_=>⟨_,uc f hi c hf,λB P H h g x v R r Q ⟨d,e,k⟩=>by cases e;exact k _ (R.set r)⟩
abbrev MGs:=List PV->Sto->Option Sto
def LGs(C:LC)(S S':Sy)(g:TGs)(n:MGs):Prop:=∀B P H l f h j,Rel C.W B S P H l f->zU C.W (Mof B S P) H h j->∀Q:St->Hp->Prop,(∃d,n h f=some d/\∀c,Rel C.W B S' P H c d->Q c H)->g j l H Q
def GsM(X:Cx)(C:LC)(S S':Sy)(c:SG)(d:MGs):Prop:=X.K=C.W.K->∃g,PGs X c g/\LGs C S S' g d
def xj:MGs:=λc d=>match c with
 |[]=>some d
 |_=>none
def Ql(g:MG)(h:MGs):MGs:=λf d=>match f with
 |x::r=>(g x d).bind λc=>h r c
 |[]=>none
def xk:GsM X C S S [] xj:=λ_=>⟨_,FF,λB P H h f c g R r Q ⟨d,e,k⟩=>by
 cases c with
 |nil=>cases e;cases r;exact⟨rfl,k _ R⟩
 |cons x c=>cases e⟩
def Mof.le{B:Bs}{S S':Sy}{P:SJ}(h:∀j:Nat,S'[j]?=some 2->S[j]?=some 2){a:Addr}(m:Mof B S P a):Mof B S' P a:=⟨m.1,λj c=>m.2 j (h j c)⟩
def Yd(I:GM X C S S1 e g)(E:GsM X C S1 S' es gs)(J:∀j:Nat,S1[j]?=some 2->S[j]?=some 2)(K:(assignEach (e::es) X.env).map (·.2)=assign e X.env::(assignEach es X.env).map (·.2):=by rfl):GsM X C S S' (e::es) (Ql g gs):=λq=>by
 obtain⟨t,L,F⟩:=I q;obtain⟨u,G,y⟩:=E q;refine⟨_,BZ L G K,λB P H A h f N R r Q ⟨c,e,k⟩=>?_⟩;cases f with
 |nil=>cases e
 |cons x f=>
  obtain⟨v,s,rfl,M,z⟩:=r;have e:(g x h).bind (λc=>gs f c)=some c:=e;cases l:g x h with
  |none=>rw[l]at e;cases e
  |some d=>rw[l]at e;exact⟨v,s,rfl,F B P H A h x v R M _ ⟨d,l,λn D=>y B P H n d f s D (z.sub λa m _=>Mof.le J m) Q ⟨c,e,k⟩⟩⟩
def gTp(n:Nat)(f:MGs):MG:=λx d=>match x with
 |.t c=>if c.length=n then f c d else none
 |_=>none
def xl(y:X.calm=true)(h:GsM X C S S' es gs)(D:(assignEach es X.env).length=n:=by rfl)(f:(assignEach es X.env).findIdx? (·.1)=none:=by rfl):GM X C S S' (.Tuple es k pos) (gTp n gs):=λj=>by
 obtain⟨t,A,z⟩:=h j;refine⟨_,IJ y A D f,λB P H u q x v R r Q ⟨c,e,k⟩=>?_⟩;cases x with
 |t d=>
  obtain⟨p,s,rfl,hp,l⟩:=r;have e:(if d.length=n then gs d q else none)=some c:=e;by_cases g:d.length=n
  .rw[if_pos g]at e;exact⟨p,s,rfl,j▸hp,by rw[l.len];exact g,z B P H u q d s R l Q ⟨c,e,k⟩⟩
  .rw[if_neg g]at e;cases e
 |_=>cases e
def NA(B:Bs)(S:Sy)(P:SJ):Addr->Prop:=λa=>¬B.xc a/\∀i,S[i]?=some 2->P i≠a
def Gu(W:RC)(M N:SD)(f:Hp)(J:It)(xs:SX):Prop:=∀d,Fr N f d->
 (∀i x,xs[i]?=some x->J.go i d/\∀v c,J.yld i d v c->zr d c/\∀g:Addr->Prop,(∀a,M a->f a≠none->g a)->Rep W g c x v)/\J.stop xs.length d
abbrev MI:=Sto->Out (List PV)
def NAc(c:Bool)(B:Bs)(S:Sy)(P:SJ):Addr->Prop:=if c=true then λ_=>True else NA B S P
def xm(C:LC)(B:Bs)(S:Sy)(P:SJ)(c:Bool)(H:Hp)(R:It->Hp->Prop):Out (List PV)->Prop
 |.ok f=>∀J d,zr H d->Gu C.W (Mof B S P) (NAc c B S P) d J f->R J d
 |.exc c fs=>XPo C B c fs
 |.wall=>False
def LI(C:LC)(S:Sy)(c:Bool)(g:TI)(mi:MI):Prop:=∀B P H f d,Rel C.W B S P H f d->∀R:It->Hp->Prop,xm C B S P c H R (mi d)->g f H R
def IM(X:Cx)(C:LC)(S:Sy)(c:Bool)(f g:SN)(mi:MI):Prop:=X.K=C.W.K->∃d,PI X f g d/\LI C S c d mi
def Qm(g:MG)(b:MS):List PV->Sto->Out Fw
 |[],d=>.ok (.nx d)
 |x::j,d=>(k7 (g x d)).bind λh=>(b h).bind λf=>match f with
  |.nx c=>Qm g b j c
  |.ct c=>Qm g b j c
  |.bk c=>.ok (.nx c)
  |.rt v=>.ok (.rt v)
def wK(mi:MI)(g:MG)(b:MS):MS:=λc=>(mi c).bind λd=>Qm g b d c
end
open Classical in
def Bs.loop(B:Bs)(S:Sy)(P:SJ)(H:Hp)(hz:∀a,B.N0 a->(¬((∃i,S[i]?=some 2/\P i=a)\/B.xc a))/\H a≠none):Bs where
 H0:=λa=>if(∃i,S[i]?=some 2/\P i=a)\/B.xc a then none else H a
 M0:=B.Mt
 N0:=B.N0
 nz:=λa h=>by rw[if_neg (hz a h).1];exact(hz a h).2
 pin:=B.pin
 xc:=B.xc
section
variable {W:RC}{B:Bs}{S S':Sy}{P P':SJ}{H H':Hp}{σ σ':St}{ρ ρ':Sto}
def Rel.hz(R:Rel W B S P H σ ρ):∀a,B.N0 a->(¬((∃i,S[i]?=some 2/\P i=a)\/B.xc a))/\H a≠none:=λa h=>by
 have b:=B.nz a h;refine⟨λz=>z.elim (λ⟨i,c,e⟩=>b (e▸(R.act i c).1)) (λz=>b (R.exc a z).choose_spec.2.2),λz=>?_⟩;cases q:B.H0 a with
 |none=>exact b q
 |some o=>rw[R.same a o q]at z;cases z
def VR(R:Rel W B S P H σ ρ)(h:(B.loop S P H R.hz).H0 a=none):B.H0 a=none:=by
 cases q:B.H0 a with
 |none=>rfl
 |some o=>have n:¬((∃i,S[i]?=some 2/\P i=a)\/B.xc a):=λz=>z.elim (λ⟨i,b,e⟩=>by rw[<- e,(R.act i b).1]at q;cases q) (λz=>by rw[(R.exc a z).choose_spec.2.2]at q;cases q);unfold Bs.loop at h;dsimp only at h;rw[if_neg n,R.same a o q]at h;cases h
def VS(R:Rel W B S P H σ ρ):zr B.H0 (B.loop S P H R.hz).H0:=λa o h=>by have n:¬((∃i,S[i]?=some 2/\P i=a)\/B.xc a):=λz=>z.elim (λ⟨i,b,e⟩=>by rw[<- e,(R.act i b).1]at h;cases h) (λz=>by rw[(R.exc a z).choose_spec.2.2]at h;cases h);unfold Bs.loop;dsimp only;rw[if_neg n];exact R.same a o h
def aX(R:Rel W B S P H σ ρ)(h:(B.loop S P H R.hz).Mt a):B.Mt a:=h.elim id λz=>.inr (VR R z)
def Rel.loop(R:Rel W B S P H σ ρ):Rel W (B.loop S P H R.hz) S P H σ ρ:=by
 have sM:∀a,Mof B S P a->H a≠none->Mof (B.loop S P H R.hz) S P a:=λa m _=>⟨⟨.inl m.1.1,m.1.2⟩,m.2⟩;refine⟨λa o h=>?_,R.len,λi x e=>?_,λi b=>⟨?_,(R.act i b).2⟩,R.inj,R.pin,λa h=>?_,R.axc⟩
 .unfold Bs.loop at h;dsimp only at h;split at h
  .cases h
  .exact h
 .obtain⟨v,j,c,g,d⟩:=R.var i x e;exact⟨v,j,λz=>⟨(c z).1,(c z).2.gen rfl Fr.refl sM⟩,λz=>(g z).sub (λ_ m _=>m) sM,λz f=>(d z f).sub sM⟩
 .unfold Bs.loop;dsimp only;rw[if_pos (.inl ⟨i,b,rfl⟩)]
 .obtain⟨o,e,n,_⟩:=R.exc a h;exact⟨o,e,n,by unfold Bs.loop;dsimp only;rw[if_pos (.inr h)]⟩
def Rel.h9(R:Rel W B S P H σ ρ)(b:Rel W (B.loop S P H R.hz) S' P' H' σ' ρ'):Rel W B S' P' H' σ' ρ':=by have sM:∀a,Mof (B.loop S P H R.hz) S' P' a->H' a≠none->Mof B S' P' a:=λa m _=>⟨⟨aX R m.1.1,m.1.2⟩,m.2⟩;refine⟨(VS R).trans b.same,b.len,λi x e=>?_,λi c=>⟨VR R (b.act i c).1,(b.act i c).2⟩,b.inj,b.pin,λa h=>let⟨o,e,n⟩:=b.exc a h;⟨o,e,n.1,VR R n.2⟩,b.axc⟩;obtain⟨v,l,d,j,f⟩:=b.var i x e;exact⟨v,l,λz=>⟨(d z).1,(d z).2.gen rfl Fr.refl sM⟩,λz=>(j z).sub (λ_ m _=>m) sM,λz g=>(f z g).sub sM⟩
def Gv(R:Rel W B S P H σ ρ)(s:zr (B.loop S P H R.hz).H0 H'):Fr (NA B S P) H H':=λa o h m=>by
 have n:¬((∃i,S[i]?=some 2/\P i=a)\/B.xc a):=λz=>by
  rcases z with⟨i,d,e⟩|z
  .rcases m with m|m
   .exact m.2 i d e
   .obtain⟨_,f,b,c⟩:=R.act i d;rw[e,h]at b;cases b;exact c m
  .rcases m with m|m
   .exact m.1 z
   .obtain⟨f,b,c,_⟩:=R.exc a z;rw[h]at b;cases b;exact c m
 refine s a o ?_;unfold Bs.loop;dsimp only;rw[if_neg n];exact h
def pf(j:C.W=W)(R:Rel W B S P H σ ρ)(q:XPo C B c fs):XPo C (B.loop S P H R.hz) c fs:=λe d h b s i g f=>q e d h b ((VS R).trans s) i g (f.sub λa m _=>aX R m)
def xn(b:C.W=W)(R:Rel W B S P H σ ρ)(h:EC C (B.loop S P H R.hz) H' x v):EC C B H' x v:=by
 unfold EC at h ⊢;by_cases f:C.fr=true
 .rw[if_pos f]at h ⊢;obtain⟨p,e,hp,r⟩:=h;exact⟨p,e,VR R hp,r.gen rfl Fr.refl λa m _=>⟨aX R m.1,m.2⟩⟩
 .rw[if_neg f]at h ⊢;exact h.sub λa m _=>aX R m
end
section
variable {X:Cx}{C:LC}{S S1 Sb Sc:Sy}{pos:Pos}
def e8(hi:∀R:It->Hp->Prop,xm C B S P false H R (mi ρ)->wi σ H R)(hg:LG C S S1 g mg)(hb:LS C S1 S S S tb mb)(R:Rel C.W B S P H σ ρ)(D:Ends)(q:Qc C B S Sb Sc D (wK mi mg mb ρ)):Ik wi g tb D σ H:=by
 refine hi _ ?_;unfold wK at q;revert q;cases mi ρ with
 |exc c fs=>exact id
 |wall=>exact id
 |ok o=>
  intro q J N s2 io;have R2:=R.keep s2;have q:=q;refine⟨λi n r L=>n=o.length-i/\i<=o.length/\∃l t,Rel C.W (B.loop S P N R2.hz) S t L r l/\Qc C B S Sb Sc D (Qm mg mb (o.drop i) l),⟨_,rfl,a0y _,ρ,P,R2.loop,q⟩,?_⟩
  rintro i n r L ⟨rfl,Y,l,t,M,d⟩
  have A:=io L (Gv R2 M.same);by_cases s:i<o.length
  .have T:=T7 s;obtain⟨go,yl⟩:=A.1 i _ T;refine .inr ⟨go,λG F=>i+1<=o.length/\∃l t,Rel C.W (B.loop S P N R2.hz) S t F G l/\Qc C B S Sb Sc D (Qm mg mb (o.drop (i+1)) l),λG F h=>⟨o.length-(i+1),by omega,rfl,h.1,h.2⟩,λv y hy=>?_⟩;obtain⟨U,ry⟩:=yl v y hy;have Ry:=M.keep U;have rx:=ry (Mof (B.loop S P N R2.hz) S t) λa m hn=>⟨⟨.inl m.1.1,m.1.2⟩,λj Z e=>by
    have z:=(M.act j Z).1;rw[e]at z;unfold Bs.loop at z;dsimp only at z;rw[if_neg (λz=>z.elim (λ⟨k,W,ek⟩=>m.2 k W ek) m.1.2)]at z;exact hn z⟩
   rw[a0Y s]at d;have d:Qc C B S Sb Sc D ((k7 (mg o[i] l)).bind λp=>(mb p).bind λf=>match f with
    |.nx b=>Qm mg mb (o.drop (i+1)) b
    |.ct b=>Qm mg mb (o.drop (i+1)) b
    |.bk b=>.ok (.nx b)
    |.rt v=>.ok (.rt v)):=d
   cases w:mg o[i] l with
   |none=>rw[w]at d;exact d.elim
   |some p=>
    rw[w]at d;refine hg _ t y r l _ v Ry rx _ ⟨p,w,λO R1=>hb _ t y O p R1 _ ?_⟩;have d:Qc C B S Sb Sc D ((mb p).bind λf=>match f with
     |.nx b=>Qm mg mb (o.drop (i+1)) b
     |.ct b=>Qm mg mb (o.drop (i+1)) b
     |.bk b=>.ok (.nx b)
     |.rt v=>.ok (.rt v)):=d
    revert d;cases mb p with
    |exc c fs=>exact λd=>pf rfl R2 d
    |wall=>exact id
    |ok f=>
     cases f with
     |nx b=>exact λd K I u E=>⟨s,b,K,E,d⟩
     |ct b=>exact λd K I u E=>⟨s,b,K,E,d⟩
     |bk b=>exact λd K I u E=>d K I u (R2.h9 E)
     |rt x=>exact λd v I Q h3=>d v I ((VS R2).trans Q) (xn rfl R2 h3)
  .have e:i=o.length:=by omega
   subst e;rw[a10]at d;exact .inl ⟨A.2,d t L r (R2.h9 M)⟩
def L5(hi:LI C S false wi mi)(b:LG C S S1 g mg)(c:LS C S1 S S S tb mb):LS C S S Sb Sc (Ik wi g tb) (wK mi mg mb):=λB P H d a R D q=>e8 (hi B P H d a R) b c R D q
def j6(hp:PassesOwn (a32 X) X.A X.env X.xe)(l:X.calm=true)(hi:IM X C S false tg jc mi)(h:GM X C S S1 tg mg)(j:SsM X C S1 S S S body mb)(e:∀x,foldedSetIterable jc X.env x=pure x:=by intro _;rfl):
  SM X C S S Sb Sc (.For tg jc body [] pos) (wK mi mg mb):=λa=>by
 obtain⟨o,f,b⟩:=hi a;obtain⟨g,c,d⟩:=h a;obtain⟨n,i,m⟩:=j a;exact⟨_,oH hp l f c i e,L5 b d m⟩
def qg(c:MT)(b:MS):Nat->Sto->Out Fw
 |0,_=>.wall
 |n+1,d=>(c d).bind λt=>if t=true then(b d).bind λf=>match f with
   |.nx a=>qg c b n a
   |.ct a=>qg c b n a
   |.bk a=>.ok (.nx a)
   |.rt v=>.ok (.rt v)
  else .ok (.nx d)
open Classical in
def Qn(c:MT)(b:MS):MS:=λa=>if h:∃n,qg c b n a≠.wall then qg c b (choose h) a else .wall
def CC(y:LT C S tc c)(z:LS C S S S S tb b):LS C S S Sb Sc (Ea tc tb) (Qn c b):=λB P H E w R D q=>by
 unfold Qn at q;split at q
 .rename_i h;generalize Classical.choose h=n0 at q;refine⟨λn g o=>∃a i,Rel C.W B S i o g a/\Qc C B S Sb Sc D (qg c b n a),⟨n0,w,P,R,q⟩,?_⟩
  rintro n g o ⟨a,i,p,e⟩
  cases n with
  |zero=>exact e.elim
  |succ n=>
   refine y B i o g a p _ ?_;unfold qg at e;revert e;cases c a with
   |exc c fs=>exact id
   |wall=>exact id
   |ok k=>
    intro e u t;cases k with
    |false=>exact En (e i u g (p.keep t))
    |true=>
     refine Eo ⟨λj s=>∃a i,Rel C.W B S i s j a/\Qc C B S Sb Sc D (qg c b n a),λj s h=>⟨n,a0T n,h⟩,z B i u g a (p.keep t) _ ?_⟩;have e:Qc C B S Sb Sc D ((b a).bind λf=>match f with
      |.nx d=>qg c b n d
      |.ct d=>qg c b n d
      |.bk d=>.ok (.nx d)
      |.rt v=>.ok (.rt v)):=e
     revert e;cases b a with
     |exc c fs=>exact id
     |wall=>exact id
     |ok f=>
      cases f with
      |nx d=>exact λe r A l m=>⟨d,r,m,e⟩
      |ct d=>exact λe r A l m=>⟨d,r,m,e⟩
      |bk d=>exact λe=>e
      |rt x=>exact λe=>e
 .exact q.elim
def af(hp:PassesOwn (a32 X) X.A X.env X.xe)(g:TM X C S c mc)(f:SsM X C S S S S body mb):SM X C S S Sb Sc (.While c body [] pos) (Qn mc mb):=λa=>by obtain⟨i,d,b⟩:=g a;obtain⟨j,e,h⟩:=f a;exact⟨_,oG hp d e,CC b h⟩
end
def LEn(C:LC)(S:Sy)(c:TE)(m:ME):Prop:=∀B P H b a,Rel C.W B S P H b a->∀Q,zF C B H (λd=>yK C.W (NA B S P) (Mof B S P) d) Q (m a)->c b H Q
def EN(X:Cx)(C:LC)(S:Sy)(e:SN)(m:ME):Prop:=X.K=C.W.K->∃a,PE X e a/\LEn C S a m
section
variable {X:Cx}{C:LC}{S:Sy}{e a b o tg:SN}{w:Bool}{ws:SI}{m:ME}{ms:MA}{s1:MS}{pos p:Pos}{x:Str}{i:Nat}
def Mof.na{B:Bs}{P:SJ}{a:Addr}(m:Mof B S P a):NA B S P a:=⟨m.1.2,m.2⟩
def EM.en(h:EM X C S false e m):EN X C S e m:=λg=>by obtain⟨c,j,d⟩:=h g;exact⟨c,j,λB P H n f R Q q=>d B P H n f R Q (VM q λx v r s l=>yK.sub l (λa m _=>Mof.na m) λ_ m _=>m)⟩
def VT(h:PE X e (cE i))(l:S[i]?=some 1:=by rfl):EN X C S e (zb i):=λ_=>⟨_,h,λB P H s u R Q q=>lv R q λx v g e=>by
 obtain⟨t,c,_,r,_⟩:=R.var i x e;rw[g]at c;cases c;refine yK.sub (r l) (λa n _=>?_) λ_ m _=>m;have d:=B.nz a n;exact⟨λz=>d (R.exc a z).choose_spec.2.2,λj f e=>d (e▸(R.act j f).1)⟩⟩
def Rl(K:Tj)(f:TE):TI:=λg H R=>f g H λx c=>(∃a,x=.ref a/\(∃d,SqL K c a d)/\R (Itl K a) c)\/∃a,x=.ref a/\(∃d,SqT K c a d)/\R (Itt K a) c
def EF(A:PE X l tl):PI X tg l (Rl X.K tl):=by
 intro f s t H R I h;refine thn (A f s t H _ I h) λv s1 ⟨x,r,c,n,z⟩=>?_;rcases z with⟨a,e,⟨u,g⟩,q⟩|⟨a,e,⟨u,g⟩,q⟩
 .subst e;cases n;obtain⟨d,y,p,hz⟩:=c.list g;refine wpAny_pyIter_list p.isList ?_;refine⟨s1.heap.objs.size,[s1.heap.objs.size],_,_,r,rfl,c.kept λb o e=>S6 _ e,ud a _,⟨_,a0k _ rfl,rfl,rfl⟩,λb j=>?_,q⟩;have e:=by simpa using j
  subst e;exact c.Ij (S5 _) (c.hok.fresh (S5 _))
 .subst e;cases n;obtain⟨d,y,p,hz⟩:=c.tuple g;refine wpAny_pyIter_tuple p ?_;refine⟨s1.heap.objs.size,[s1.heap.objs.size],_,_,r,rfl,c.kept λb o e=>S6 _ e,rR a _,⟨_,a0k _ rfl,rfl,rfl⟩,λb j=>?_,q⟩;have e:=by simpa using j
  subst e;exact c.Ij (S5 _) (c.hok.fresh (S5 _))
def xo{W:RC}{K:Tj}{M N:SD}{d:Hp}{a:Addr}{xs:SX}{vs:SR}(g:∀a,M a->N a)(h:∀c,Fr N d c->SqL K c a vs)(r:zU W M d xs vs):Gu W M N d (Itl K a) xs:=λc f=>by refine⟨λi x t=>?_,vs,h c f,by rw[r.len];exact S5 _⟩;obtain⟨v,j,q⟩:=r.get t;refine⟨⟨vs,v,h c f,j⟩,λz l s=>?_⟩;obtain⟨rfl,y⟩:=s;have:=y vs (h _ f);rw[j]at this;cases this;exact⟨zr.refl _,λu sM=>Rep.gen (λa o h m=>f a o h (m.imp (g a) id)) (λa m n=>sM a m n) q⟩
def L6{W:RC}{K:Tj}{M N:SD}{d:Hp}{a:Addr}{xs:SX}{vs:SR}(g:∀a,M a->N a)(h:∀c,Fr N d c->SqT K c a vs)(r:zU W M d xs vs):Gu W M N d (Itt K a) xs:=λc f=>by refine⟨λi x t=>?_,vs,h c f,by rw[r.len];exact S5 _⟩;obtain⟨v,j,q⟩:=r.get t;refine⟨⟨vs,v,h c f,j⟩,λz l s=>?_⟩;obtain⟨rfl,y⟩:=s;have:=y vs (h _ f);rw[j]at this;cases this;exact⟨zr.refl _,λu sM=>Rep.gen (λa o h m=>f a o h (m.imp (g a) id)) (λa m n=>sM a m n) q⟩
def items:PV->Out (List PV)
 |.l c=>.ok c
 |.t c=>.ok c
 |.sc d=>.ok (d.map PV.i)
 |_=>.wall
def yi(m:ME):MI:=λc=>(m c).bind items
variable {cc:Bool}
def Mof.nac{B:Bs}{P:SJ}{a:Addr}(m:Mof B S P a):NAc cc B S P a:=by
 unfold NAc;cases cc with
 |true=>trivial
 |false=>exact Mof.na m
def xp(z:X.K=C.W.K)(F:∀B P H h d,Rel C.W B S P H h d->∀Q,zF C B H (λg=>yK C.W (NAc cc B S P) (Mof B S P) g) Q (m d)->te h H Q):LI C S cc (Rl X.K te) (yi m):=λB P H h d R Q q=>by
 refine F B P H h d R _ ?_;unfold yi at q;revert q;cases m d with
 |exc c fs=>exact id
 |wall=>exact id
 |ok y=>
  intro q v g s r;cases y with
  |l E=>obtain⟨p,j,rfl,n,hp,u⟩:=r;exact .inl ⟨p,rfl,⟨j,SqL.of hp⟩,q _ g s (xo (λa m=>Mof.nac m) (λA f=>SqL.of (f _ _ hp (.inl n))) u)⟩
  |t E=>obtain⟨p,j,rfl,hp,u⟩:=r;rw[<- z]at hp;exact .inr ⟨p,rfl,⟨j,hp⟩,q _ g s (L6 (λa m=>Mof.nac m) (λA f=>f.sqT hp) u)⟩
  |sc D=>obtain⟨p,rfl,hp⟩:=r;rw[<- z]at hp;exact .inl ⟨p,rfl,⟨_,hp.sq⟩,q _ g s (xo (λa m=>Mof.nac m) (λA f=>(hp.frame f).sq) zU.ints)⟩
  |_=>exact q.elim
def vS(h:EN X C S e m):IM X C S false tg e (yi m):=λc=>by obtain⟨g,f,d⟩:=h c;exact⟨_,EF f,xp c d⟩
def Xj(h:EM X C S w e m):IM X C S true tg e (yi m):=λc=>by obtain⟨l,g,d⟩:=h c;exact⟨_,EF g,xp c λB P H j f R Q q=>d B P H j f R Q (VM q λx v n s r=>r.weak)⟩
def mY(lo:Int)(n:Nat):List PV:=(List.range n).map λk=>.i (lo+(k:Nat))
def Gw{lo:Int}{n i:Nat}{x:PV}(h:(mY lo n)[i]?=some x):i<n/\x=.i (lo+i):=by unfold mY at h;rw[a0e]at h;obtain⟨k,c,rfl⟩:=v0.mp h;rw[S7]at c;obtain⟨f,d⟩:=c;rw[a0x]at f;rw[a1l]at d;subst d;exact⟨f,rfl⟩
def Gx{lo:Int}{n:Nat}:(mY lo n).length=n:=by unfold mY;rw[f8,a0x]
def L7{W:RC}{M N:SD}{g:Hp}{lo:Int}{n:Nat}:Gu W M N g (Itr lo n) (mY lo n):=λl f=>by refine⟨λi x j=>?_,by rw[Gx];exact S5 _⟩;obtain⟨d,rfl⟩:=Gw j;refine⟨d,λv c h=>?_⟩;obtain⟨rfl,rfl⟩:=h;exact⟨zr.refl _,λ_ _=>rfl⟩
def sD:List PV->Out (List PV)
 |[.i n]=>if -(2 ^ 62)<=n/\n<2 ^ 62 then .ok (mY 0 n.toNat)else .wall
 |_=>.wall
def VU(ms:MA):MI:=λc=>(ms c).bind sD
def Xk(t:Gl X "range")(l:X.mg "range"=none)(E:AM X C S ws [a] ms)(A:starEach [a] X.env=[(false,eval a X.env)]:=by rfl):IM X C S cc tg (.Call (.Name "range" p) [a] [] pos) (VU ms):=λg=>by
 obtain⟨I,D,z⟩:=E g;refine⟨_,ue t l D A,λB P H j d R Q q=>z B P H j d R _ ?_⟩;unfold VU at q;revert q;cases ms d with
 |exc c fs=>exact id
 |wall=>exact id
 |ok n=>
  intro q F u s r;have r:=r.weak;have q:xm C B S P cc H Q (sD n):=q;unfold sD at q;split at q
  .split at q
   .rename_i f;obtain⟨v,G,rfl,h,y⟩:=r;cases y;cases h;exact⟨_,rfl,f.1,f.2,q _ u s L7⟩
   .exact q.elim
  .exact q.elim
end
def noX{a:Type}:Out a->Out a
 |.exc _ _=>.wall
 |o=>o
def lcP(g:MG)(c:MT)(e:ME):List PV->Sto->List PV->Out PV
 |[],_,a=>.ok (.l a)
 |x::d,f,a=>(k7 (g x f)).bind λb=>(noX (c b)).bind λt=>if t=true then(noX (e b)).bind λy=>if a.length<sizeLine then lcP g c e d b (a++[y])else .wall else lcP g c e d b a
def Ka(ρ:Sto)(fr:SW):Sto:=fr.map λo=>match o with|none=>none|some j=>(ρ[j]?).join
def mLC(mi:MI)(fr:SW)(g:MG)(c:MT)(e:ME):ME:=λa=>(mi a).bind λb=>lcP g c e b (Ka a fr) []
def sE:MT:=λ_=>.ok true
def inS(S:Sy)(fr:SW):List Nat:=fr.map λo=>match o with|none=>0|some j=>if S[j]?=some 2\/S[j]?=some 1 then 1 else 0
def lcB(B:Bs)(S:Sy)(P:SJ)(H:Hp)(acc:Addr):Bs:=⟨H,Mof B S P,λa=>H a≠none,λ_ h=>h,none,λa=>a=acc⟩
def mZ{S:Sy}{fr:SW}{k c:Nat}(h:(inS S fr)[k]?=some c):c≠2:=by
 unfold inS at h;rw[a0e]at h;obtain⟨o,a,e⟩:=v0.mp h;intro z;rw[z]at e;cases o with
 |none=>cases e
 |some j=>dsimp only at e;split at e<;>cases e
section
variable {X:Cx}{C:LC}{S S1 Sb Sc:Sy}{e a o jc tg elt:SN}{ifs:SG}{w:Bool}{m me:ME}{t1 mc:MT}{mg:MG}{mi:MI}{s1:MS}{pos:Pos}{x:Str}{i:Nat}{scope:Scope}
def Rel.comp{W:RC}{B:Bs}{P:SJ}{H H':Hp}{σ:St}{ρ:Sto}{acc:Addr}{fr:SW}{ys:SR}(R:Rel W B S P H σ ρ)(y:H acc=none)(s:zr H H')(E:H' acc=some (.lst ys)):Rel W (lcB B S P H acc) (inS S fr) (λ_=>0) H' (BO σ fr) (Ka ρ fr):=by
 have f:∀{k:Nat},(inS S fr)[k]?=some 2->False:=λ{k} h=>mZ h rfl;have sM:∀a,Mof B S P a->H a≠none->Mof (lcB B S P H acc) (inS S fr) (λ_=>0) a:=λa m n=>⟨⟨.inl m,λz=>n (z▸y)⟩,λi d=>(f d).elim⟩;refine⟨s,by unfold BO Ka;rw[f8,f8],λk x e=>?_,λi d=>(f d).elim,λi j d=>(f d).elim,λd=>(f d).elim,λa h=>?_,λi d=>(f d).elim⟩
 .unfold Ka at e;rw[a0e]at e;obtain⟨o,t,e⟩:=v0.mp e;cases o with
  |none=>cases e
  |some j=>
   have e:(ρ[j]?).join=some x:=e;have D:ρ[j]?=some (some x):=by
    cases q:ρ[j]? with
    |none=>rw[q]at e;cases e
    |some z=>rw[q]at e;cases z with
     |none=>cases e
     |some z=>cases e;rfl
   obtain⟨v,I,F,K,A⟩:=R.var j x D;have u:(inS S fr)[k]?=some (if S[j]?=some 2\/S[j]?=some 1 then 1 else 0):=by unfold inS;rw[a0e,t];rfl
   refine⟨v,by unfold BO;rw[a0e,t];show some ((σ[j]?).join)=_;rw[I];rfl,λz=>(f z).elim,λz=>?_,λz g=>?_⟩
   .rw[u]at z;by_cases l:S[j]?=some 2
    .obtain⟨rfl,J⟩:=F l;obtain⟨_,o,G,_⟩:=R.act j l;exact((J.NU (N:=λa=>H a≠none) (by grind)).sub (λ_ m _=>m) sM).same s
    .by_cases r:S[j]?=some 1
     .exact((K r).sub (λa n q=>(R.hz a n).2) sM).same s
     .rw[if_neg (by grind)]at z;cases z
   .rw[u]at g;by_cases c:S[j]?=some 2\/S[j]?=some 1
    .rw[if_pos c]at g;exact absurd rfl g
    .exact((A (λq=>c (.inl q)) (λq=>c (.inr q))).sub sM).same s
 .cases h;exact⟨_,E,id,y⟩
def TsM(X:Cx)(C:LC)(S:Sy)(ifs:SG)(m:MT):Prop:=X.K=C.W.K->∃c,PTs X ifs c/\LT C S c m
def X5:TsM X C S [] sE:=λ_=>⟨_,F_,λB P H d c R Q q=>q H (zr.refl _)⟩
def dD(h:TM X C S c t1):TsM X C S [c] t1:=λd=>let⟨tt,a1,a2⟩:=h d;⟨tt,Ga a1,a2⟩
def e_{l:Type}{Y:l->Cx}(h:∀z,EM (Y z) C S w e m)(f:∀z,(Y z).K=C.W.K):∃g,(∀z,PE (Y z) e g)/\LE C S w g m:=
 ⟨λd H Q=>∀z,(Classical.choose (h z (f z))) d H Q,λz c s d H Q I q=>(a0A (h z (f z))).1 c s d H Q I (q z),λB P H d j R Q q z=>(a0A (h z (f z))).2 B P H d j R Q q⟩
def aY{l:Type}{Y:l->Cx}(h:∀z,TsM (Y z) C S ifs mc)(f:∀z,(Y z).K=C.W.K):∃g,(∀z,PTs (Y z) ifs g)/\LT C S g mc:=
 ⟨λd H Q=>∀z,(Classical.choose (h z (f z))) d H Q,λz c s d H Q I q=>(a0A (h z (f z))).1 c s d H Q I (q z),λB P H d j R Q q z=>(a0A (h z (f z))).2 B P H d j R Q q⟩
def aZ{j:Type}{Y:j->Cx}(h:∀z,GM (Y z) C S S1 tg mg)(f:∀z,(Y z).K=C.W.K):∃g,(∀z,PG (Y z) tg g)/\LG C S S1 g mg:=
 ⟨λv c H Q=>∀z,(Classical.choose (h z (f z))) v c H Q,λz d s c H v u Q I r q=>(a0A (h z (f z))).1 d s c H v u Q I r (q z),λB P H c l x v R r Q q z=>(a0A (h z (f z))).2 B P H c l x v R r Q q⟩
def m4{wi:TI}{g:TG}{tc:TT}{te:TE}{fr:SW}{Y:Sy}{W:RC}{B:Bs}{P:SJ}{H:Hp}{σ:St}{ρ:Sto}(hi:∀R:It->Hp->Prop,xm C B S P true H R (mi ρ)->wi σ H R)(hW:W=C.W)(hS:Y=inS S fr)(hg:LG ⟨W,E0,false⟩ Y Y g mg)(ht:LT ⟨W,E0,false⟩ Y tc mc)(he:LE ⟨W,E0,false⟩ Y false te me)(R:Rel C.W B S P H σ ρ)(Q:VK)(q:zF C B H (RFr C.W (Mof B S P) H) Q (mLC mi fr mg mc me ρ)):tLC wi g tc te fr σ H Q:=by
 subst hW hS;refine hi _ ?_;unfold mLC at q;revert q;cases mi ρ with
 |exc c fs=>exact id
 |wall=>exact id
 |ok s=>
  intro q J K s1 io d ha;have R1:=R.keep s1;have q:=q;have sM:∀a,Mof (lcB B S P K d) (inS S fr) (λ_=>0) a->Mof B S P a/\a≠d:=λa m=>⟨m.1.1.elim id λn=>R1.new a n,m.1.2⟩;refine⟨λi n M O=>n=s.length-i/\i<=s.length/\∃r A D,Rel C.W (lcB B S P K d) (inS S fr) (λ_=>0) O M r/\O d=some (.lst D)/\zU C.W (Mof (lcB B S P K d) (inS S fr) (λ_=>0)) O A D/\zF C B H (RFr C.W (Mof B S P) H) Q (lcP mg mc me (s.drop i) r A),
   ⟨_,rfl,a0y _,Ka ρ fr,[],[],R1.comp ha (zr.upd ha) ze,ze,rfl,q⟩,?_⟩
  rintro i n M O ⟨rfl,hle,r,A,D,R',I,T,l⟩
  have U:=io O (zr.fr R'.same);by_cases G:i<s.length
  .have hx:=T7 G;obtain⟨go,yl⟩:=U.1 i _ hx;refine .inr ⟨go,λσ2 F=>i+1<=s.length/\∃r A D,Rel C.W (lcB B S P K d) (inS S fr) (λ_=>0) F σ2 r/\F d=some (.lst D)/\zU C.W (Mof (lcB B S P K d) (inS S fr) (λ_=>0)) F A D/\zF C B H (RFr C.W (Mof B S P) H) Q (lcP mg mc me (s.drop (i+1)) r A),λσ2 F h=>⟨s.length-(i+1),by omega,rfl,h.1,h.2⟩,λv N hy=>?_⟩;obtain⟨sy,ry⟩:=yl v N hy;have Ry:=R'.keep sy;have rx:=ry (Mof (lcB B S P K d) (inS S fr) (λ_=>0)) λa m hn=>⟨⟨.inl m,λz=>hn (z▸ha)⟩,λj hj=>(mZ hj rfl).elim⟩;rw[a0Y G]at l;unfold lcP at l;cases L:mg s[i] r with
   |none=>rw[L]at l;exact l.elim
   |some f=>
    rw[L]at l;refine hg _ _ N M r _ v Ry rx _ ⟨f,L,λZ R1'=>ht _ _ N Z f R1' _ ?_⟩;have l:zF C B H (RFr C.W (Mof B S P) H) Q ((noX (mc f)).bind λt=>if t=true then(noX (me f)).bind λy=>if A.length<sizeLine then lcP mg mc me (s.drop (i+1)) f (A++[y])else .wall else lcP mg mc me (s.drop (i+1)) f A):=l;revert l;cases mc f with
    |exc c fs=>exact λl=>l.elim
    |wall=>exact id
    |ok t=>
     intro l H5 s5;have R5:=R1'.keep s5;have u:=s5 _ _ (sy _ _ I);have E:=(T.same sy).same s5;cases t with
     |false=>exact En ⟨G,f,A,D,R5,u,E,l⟩
     |true=>
      refine Eo (he _ _ H5 Z f R5 _ ?_);have l:=l;revert l;cases me f with
      |exc c fs=>exact λl=>l.elim
      |wall=>exact id
      |ok y=>
       intro l v6 H6 s6 r6;have l:=l;split at l
       .rename_i hz;have R6:=R5.keep s6;have fr6:Fr (Mof (lcB B S P K d) (inS S fr) (λ_=>0)) H6 (upd H6 d (.lst (D++[v6]))):=λa o h m=>by
         have:a≠d:=λz=>by
          rcases m with m|m
          .exact m.1.2 z
          .rw[z,s6 _ _ u]at h;cases h;exact m
         rw[zh this];exact h
        exact⟨D,s6 _ _ u,by rw[E.len];exact hz,G,f,A++[y],D++[v6],R6.wrx (show(lcB B S P K d).xc d from rfl) (by exact id),ze,((E.same s6).append (.cons r6.rep .nil)).gen fr6 λ_ m _=>m,l⟩
       .exact l.elim
  .have e:i=s.length:=by omega
   subst e;rw[a10]at l;exact .inl ⟨U.2,l _ O (s1.trans R'.same) ⟨d,rfl,zr.none s1 ha,D,I,T.sub λa m _=>sM a m⟩⟩
def L8{h:TI}{g:TG}{f:TT}{d:TE}{fr:SW}{c:Sy}{W:RC}(hi:LI C S true h mi)(s:W=C.W)(j:c=inS S fr)(r:LG ⟨W,E0,false⟩ c c g mg)(n:LT ⟨W,E0,false⟩ c f mc)(he:LE ⟨W,E0,false⟩ c false d me):LFr C S (tLC h g f d fr) (mLC mi fr mg mc me):=λB P H t l R Q q=>m4 (hi B P H t l R) s j r n he R Q q
abbrev CI:=List Addr×List (Addr×Obj)×Shared×Hp×Addr
abbrev cxI(X:Cx)(scope:Scope)(N:SA)(z:CI):Cx:=qW X scope N z.1 z.2.1 z.2.2.1 z.2.2.2.1 z.2.2.2.2
def sF(N:SA)(fr:SW)(d:Sy)(r:X.calm=true)(j:tY X scope N fr=true)(hi:IM X C S true tg jc mi)(n:∀z:CI,GM (cxI X scope N z) ⟨C.W,E0,false⟩ d d tg mg)(D:∀z:CI,TsM (cxI X scope N z) ⟨C.W,E0,false⟩ d ifs mc)(he:∀z:CI,EM (cxI X scope N z) ⟨C.W,E0,false⟩ d false elt me)(B:d=inS S fr:=by rfl)
  (F:∀x,foldedSetIterable jc X.env x=pure x:=by intro _;rfl):FM X C S (.ListComp elt [⟨tg,jc,ifs,0⟩] scope pos) (mLC mi fr mg mc me):=λh=>by
 obtain⟨I,E,u⟩:=hi h;obtain⟨g,v,l⟩:=aZ n λ_=>h;obtain⟨G,q,y⟩:=aY D λ_=>h;obtain⟨J,A,t⟩:=e_ he λ_=>h;exact⟨_,Gb N fr r j E (λc f s H L=>v ⟨c,f,s,H,L⟩) (λc f s H L=>q ⟨c,f,s,H,L⟩) (λc f s H L=>A ⟨c,f,s,H,L⟩) F,L8 u rfl B l y t⟩
variable {y:Str}{t8 py:Pos}
def O5(N:SA)(fr:SW)(d:Sy)(r:X.N.Nodup)(E:X.N[i]?=some y)(Z:X.env.scope.names.lookup y=some .local)(F:X.calm=true)(l:tY X scope N fr=true)(hi:IM X C S true tg jc mi)(A:∀z:CI,GM (cxI X scope N z) ⟨C.W,E0,false⟩ d d tg mg)(W:∀z:CI,TsM (cxI X scope N z) ⟨C.W,E0,false⟩ d ifs mc)(he:∀z:CI,EM (cxI X scope N z) ⟨C.W,E0,false⟩ d false elt me)(T:d=inS S fr:=by rfl)
  (j:swapsWith (.ListComp elt [⟨tg,jc,ifs,0⟩] scope pos) (some (.Name y py)) t8.line X.env=pure true:=by rfl) (U:∀x,foldedSetIterable jc X.env x=pure x:=by intro _;rfl):SM X C S (S.set i 0) Sb Sc (.Assign [.Name y py] (.ListComp elt [⟨tg,jc,ifs,0⟩] scope pos) t8) (yo i (mLC mi fr mg mc me)):=λh=>by
 obtain⟨wi,Y,J⟩:=hi h;obtain⟨g,K,n⟩:=aZ A λ_=>h;obtain⟨tc,D,M⟩:=aY W λ_=>h;obtain⟨te,O,I⟩:=e_ he λ_=>h;refine⟨_,Lm N fr r E Z F l Y (λc f s H L=>K ⟨c,f,s,H,L⟩) (λc f s H L=>D ⟨c,f,s,H,L⟩) (λc f s H L=>O ⟨c,f,s,H,L⟩) j U,ED λB P H t u R Q q=>L8 J rfl T n M I B P H t u R Q (VM q λx v H2 s G=>RV.of (G.rep R.new))⟩
end
def wI(fr:Bool)(n:Nat)(ms:MS)(xs:SX):Out PV:=match ms (xs.map some++List.replicate (n-xs.length) none)with
 |.ok (.nx _)=>if fr=true then .wall else .ok .n
 |.ok (.rt x)=>.ok x
 |.ok (.bk _)=>.wall
 |.ok (.ct _)=>.wall
 |.exc c fs=>.exc c fs
 |.wall=>.wall
def VW(ws:SI)(n:Nat):List Nat:=ws.map (λw=>if w=true then 1 else 0)++List.replicate (n-ws.length) 0
def h_{ws:SI}{n k:Nat}:(VW ws n)[k]?≠some 2:=by
 unfold VW;rw[a2g];split
 .rw[a0e];intro h;obtain⟨w,_,e⟩:=v0.mp h;split at e<;>cases e
 .rw[a1z];intro h;split at h<;>cases h
theorem jC.get{W:RC}{M:SD}{H:Hp}:∀{ws:SI}{c:SX}{d:SR}{k:Nat}{x:PV},jC W M H ws c d->c[k]?=some x->∃v w,d[k]?=some v/\ws[k]?=some w/\yK W (if w=true then λ_=>True else M) M H x v
 |[],_,_,_,_,⟨a,b⟩,h=>by subst a;simp at h
 |w::ws,_,_,0,x,⟨y,v,i,g,a,b,f,e⟩,h=>by subst a;subst b;simp at h;subst h;exact⟨v,w,rfl,rfl,f⟩
 |w::ws,_,_,k+1,x,⟨y,v,i,g,a,b,f,e⟩,h=>by subst a;subst b;simp only[List.getElem?_cons_succ]at h ⊢;exact jC.get e h
def ia{xs:SX}{n k:Nat}{x:PV}(h:(xs.map some++List.replicate (n-xs.length) none)[k]?=some (some x)):xs[k]?=some x:=by grind
def BQ(H:Hp)(M:SD):Bs:=⟨H,M,λa=>H a≠none,λ_ h=>h,none,λ_=>False⟩
def xq(h:jC W M H ws xs vs)(q:ws.length<=N.length):Rel W (BQ H M) (VW ws N.length) (λ_=>0) H (start N vs) (xs.map some++List.replicate (N.length-xs.length) none):=by
 have c:∀{k:Nat},(VW ws N.length)[k]?=some 2->False:=λ{k} h=>h_ h;have sM:∀a,M a->H a≠none->Mof (BQ H M) (VW ws N.length) (λ_=>0) a:=λa m _=>⟨⟨.inl m,id⟩,λi b=>(c b).elim⟩;obtain⟨f,p⟩:=h.len;refine⟨zr.refl _,?_,λk x e=>?_,λi b=>(c b).elim,λi j b=>(c b).elim,λb=>(c b).elim,λa h=>h.elim,λi b=>(c b).elim⟩
 .unfold start;rw[S4,S4,f8,f8,a1n,a1n,f,p]
 .obtain⟨v,w,g,o,r⟩:=h.get (ia e);have d:=(S7.mp g).1;have l:(VW ws N.length)[k]?=some (if w=true then 1 else 0):=by unfold VW;rw[a0o (by grind),a0e,o];rfl
  refine⟨v,?_,λz=>(c z).elim,λz=>?_,λ_ z=>?_⟩
  .unfold L2.start;rw[a0o (by grind),a0e,g];rfl
  .refine yK.sub r (λa _ n=>n) sM
  .rw[l]at z;cases w with
   |true=>exact absurd rfl z
   |false=>exact(yK.iff.mp r).sub sM
section
variable {P:SV}{w:S_}{K:Tj}{mg:Sx}{base:Heap}
def zp{x b:Str}{st:TB}{f:Addr}{m:Td}{N j:SA}{k n:Nat}{W:RC}{fr:Bool}{ws:SI}{ms:MS}{S' Sb Sc:Sy}(F:Fun K x b st f m)(S:zl N j (zi st))(o:K=W.K)(X:ws.length=j.length)(t:N.length=n)(Y:ws.length<=n)
  (h:∀(d:Value)(A:Tf)(a:List Env)(s:SE)(H:Hp)(E:XK),vF k (A.deeper (envOfC b (zi st) s.heap.objs.size f d))->SsM (thr (r8 (CXe P w) P w K mg base N b (zi st) f d A a s H E) E) ⟨W,E,fr⟩ (VW ws n) S' Sb Sc (Ya st) ms):
  yz P w K mg base (CXe P w) (k+1) f m j (lsp W fr ws (wI fr n ms)):=by
 subst t;refine F.okX S (Gq X) λd A a s H Z Q E G ⟨M,l,T,q⟩=>?_;obtain⟨L,I,J⟩:=h d A a s H E G o;refine⟨L,I,J (BQ H M) _ H _ _ (xq T Y) _ ?_⟩;unfold wI at q;revert q;cases ms (l.map some++List.replicate (N.length-l.length) none)with
 |exc c fs=>exact λq e p D z s R C U=>q e p D z s R C U
 |wall=>exact id
 |ok O=>
  cases O with
  |nx g=>
   intro q P' i B u;cases fr with
   |true=>exact q.elim
   |false=>exact q .non i u.same rfl
  |rt y=>exact λq v i s r=>q v i s r
  |bk g=>exact λq=>q.elim
  |ct g=>exact λq=>q.elim
def N7(c:Nat)(n:Nat)(ms:MS)(xs:SX):Out PV:=match ms (some (.o c [])::(xs.map some++List.replicate (n-xs.length) none))with
 |.ok (.nx a)=>match a[0]? with
  |some (some x)=>.ok x
  |_=>.wall
 |.ok (.rt _)=>.wall
 |.ok (.bk _)=>.wall
 |.ok (.ct _)=>.wall
 |.exc c fs=>.exc c fs
 |.wall=>.wall
def bsI(H:Hp)(M:SD)(x:Addr):Bs:=⟨erase H x,M,λa=>erase H x a≠none,λ_ h=>h,some x,λ_=>False⟩
def JJ:zr (erase H x) H:=λa o h=>by
 unfold erase at h;split at h
 .cases h
 .exact h
def sG(h:jC W M (erase H x) ws xs vs)(f:H x=some (.ins (W.cls c) dx []))(u:N.length=n+1)(E:ws.length<=n):
  Rel W (bsI H M x) (2::VW ws n) (λ_=>x) H (start N (.ref x::vs)) (some (.o c [])::(xs.map some++List.replicate (n-xs.length) none)):=by
 have s:erase H x x=none:=by unfold erase;rw[if_pos rfl]
 have d:∀{k:Nat},(2::VW ws n)[k]?=some 2->k=0:=λ{k} h=>by
  cases k with
  |zero=>rfl
  |succ k=>exact(h_ h).elim
 have sM:∀a,M a->erase H x a≠none->Mof (bsI H M x) (2::VW ws n) (λ_=>x) a:=λa m z=>⟨⟨.inl m,id⟩,λi b q=>z (q▸s)⟩;obtain⟨l,B⟩:=h.len;refine⟨JJ,?_,λk y e=>?_,λi b=>⟨s,_,f,id⟩,λi j b A _=>(d b).trans (d A).symm,λb p hp=>(a0H hp),λa h=>h.elim,λi b=>id⟩
 .unfold L2.start;simp only[List.length_cons,List.length_append,List.length_map,List.length_replicate,l,B,u];omega
 .cases k with
  |zero=>cases e;exact⟨.ref x,rfl,λ_=>⟨rfl,dx,[],f,rfl⟩,(λz=>by cases z),λz=>absurd rfl z⟩
  |succ k=>
   obtain⟨v,w,o,t,r⟩:=h.get (ia e);have g:=(S7.mp o).1;have C:(2::VW ws n)[k+1]?=some (if w=true then 1 else 0):=by rw[a0p];unfold VW;rw[a0o (by grind),a0e,t];rfl
   have D:=yK.same r JJ;refine⟨v,?_,(λz=>by cases(d z)),λz=>?_,λ_ z=>?_⟩
   .unfold L2.start;rw[T6,a2S,a0p,a0o (by grind),a0e,o];rfl
   .exact yK.same (yK.sub r (λa _ n=>n) sM) JJ
   .rw[C]at z;cases w with
    |true=>exact absurd rfl z
    |false=>exact Rep.same ((yK.iff.mp r).sub sM) JJ
def xt{x d:Str}{st:TB}{f:Addr}{t:Td}{N o:SA}{k n c:Nat}{W:RC}{ws:SI}{ms:MS}{S' Sb Sc:Sy}(F:Fun K x d st f t)(S:zl N o (zi st))(v:K=W.K)(hl:ws.length+1=o.length)(C:N.length=n+1)(hn:ws.length<=n)(j:S'[0]?=some 2)
  (h:∀(g:Value)(A:Tf)(b:List Env)(s:SE)(H:Hp)(E:XK),vF k (A.deeper (envOfC d (zi st) s.heap.objs.size f g))->SsM (thr (r8 (CXe P w) P w K mg base N d (zi st) f g A b s H E) E) ⟨W,E,false⟩ (2::VW ws n) S' Sb Sc (Ya st) ms):
  yz P w K mg base (CXe P w) (k+1) f t o (N4 W c ws (N7 c n ms)):=by
 refine F.okX S (Cw hl) λg A b s H vs Q E R ⟨M,x,p,r,G,e,B,ha,q⟩=>?_;subst e;obtain⟨X,T,U⟩:=h g A b s H E R v;refine⟨X,T,U (bsI H M x) _ H _ _ (sG ha B C hn) _ ?_⟩;unfold N7 at q;revert q;cases ms (some (.o c [])::(r.map some++List.replicate (n-r.length) none))with
 |exc c fs=>exact λq e p O I s Z j h3=>q e p O I s Z j h3
 |wall=>exact id
 |ok Y=>
  cases Y with
  |nx i=>
   intro q P' D L l;have q:Rk W M H x Q E (match i[0]? with|some (some x)=>.ok x|_=>.wall):=q;split at q
   .rename_i y J;obtain⟨_,u,_⟩:=l.at2 j J;have e:=l.pin j x rfl;rw[e]at u;exact q D l.same (u.gen rfl Fr.refl λa m _=>⟨m.1.1,λz=>m.2 0 j (e.trans z.symm)⟩)
   .exact q.elim
  |rt y=>exact λq=>q.elim
  |bk i=>exact λq=>q.elim
  |ct i=>exact λq=>q.elim
end
def t5(C:Addr)(fs:SA):Sp:=λc H Q _=>∃e b,c=.ref e::b/\b.length=fs.length/\H e=some (XO e C none .none)/\∀a,H a=none->Q .non (upd (upd H a (XD a (fs.zip b))) e (XO e C (some a) .none))
def vm(c:Nat)(a:SA)(ms:MA):MS:=λd=>(ms d).bind λb=>if b.length=a.length/\b.length<=1000 then .exc c (a.zip b)else .wall
theorem j5.zip{W:RC}{M:SD}{H:Hp}:∀{a:SA}{b:SX}{c:SR},zU W M H b c->b.length=a.length->j5 W M H (a.zip b) (a.zip c)
 |[],[],_,h,_=>by cases h;rfl
 |f::a,x::b,_,h,e=>by obtain⟨v,r,rfl,g,d⟩:=h;exact⟨v,_,rfl,g,j5.zip d (by grind)⟩
 |[],_::_,_,_,e=>by cases e
 |_::_,[],_,_,e=>by cases e
def qI(G:X.calm=true)(M:XMk X.K (C.W.cls c) f)(K:Qg X.K (C.W.cls c))(F:yz X.prog X.w X.K X.mg X.base (CXe X.prog X.w) k f fd ps (t5 (C.W.cls c) fns))(L:vF (k+1) X.A)(J:Gl X x)(I:X.mg x=some (.ref (C.W.cls c)))(h:Binds X.K fd ps [])
  (U:AM (thr X C.E) C S ws (e::es) ms) (A:ws.all (!·)=true:=by rfl) (i:(x==("__debug__":Str))=false:=by decide) (he:starEach (e::es) X.env=(false,eval e X.env)::starEach es X.env:=by rfl) (hpl:(backTo Qa (starEach es X.env)).any (·.1)=false:=by rfl):
  SM (thr X C.E) C S S' Sb Sc (.Raise (some (.Call (.Name x p) (e::es) [] Qa)) none pos) (vm c fns ms):=λo=>by
 obtain⟨T,Q,N⟩:=U o;refine⟨_,Cg G (Cf M F L J I h zz Q i he hpl),λB P H s t R D q=>?_⟩;refine N B P H s t R _ ?_;unfold vm at q;revert q;cases ms t with
 |exc c fs=>exact id
 |wall=>exact id
 |ok j=>
  intro q l w O E;have n:=E.NW A;have q:Qc C B S' Sb Sc D (if j.length=fns.length/\j.length<=1000 then .exc c (fns.zip j)else .wall):=q;split at q
  .rename_i hz;refine⟨by rw[n.len];exact hz.2,λy u=>⟨y,l,rfl,by rw[n.len];exact hz.1,ze,λg d=>⟨rfl,y,_,g,rfl,o▸K,ze,?_⟩⟩⟩;have v:g≠y:=λz=>by rw[z,ze]at d;cases d
   rw[zh v]at d;rw[Xh];have r:zr w (upd (upd (upd w y (XO y (C.W.cls c) none .none)) g (XD g (fns.zip l))) y (XC y (C.W.cls c) g)):=λb q h=>by rw[zh (yq h u),zh (yq h d),zh (yq h u)];exact h
   exact q y g (fns.zip l) _ (R.same.trans (O.trans r)) ze (by rw[zh v,ze]) ((j5.zip n hz.1).gen r.fr λa m _=>m.1.1)
  .exact q.elim
def VX{S:Sy}{i:Nat}:∀j:Nat,(S.set i 0)[j]?=some 2->S[j]?=some 2:=λ_ h=>(yZ (c:=0) h).1
def Gy(a:SqL W.K H p (ns.map V.int))(h:g [.sc ns]=.ok (.b true))(k:∀b,Q (.bl true) b):lsp W false [true] g [.ref p] H Q E:=by
 refine⟨λ_=>True,[.sc ns],⟨.sc ns,.ref p,[],[],rfl,rfl,⟨p,rfl,?_⟩,rfl,rfl⟩,?_⟩
 .exact a.elim (λz=>.inl ⟨trivial,z⟩) .inr
 .rw[h];intro v c s r;unfold RtV at r;cases r;exact k c
section
variable {X:Cx}{C:LC}{S:Sy}{pos:Pos}
def VY:ME:=λ_=>.ok (.d [])
def Ye:FM X C S (.Dict [] [] pos) VY:=λd=>⟨_,B9,λB P H f c R Q q=>λp hp=>q _ _ (zr.upd hp) (Gn rfl hp)⟩
end
section
variable {α β:Type}
def kc{a:α}{f:α->Out β}:(Out.ok a).bind f=f a:=rfl
def L9:qZ (.i a) (.i b)=.ok (.i (a+b)):=rfl
def xu(d:-(2 ^ 64)<a)(c:a<2 ^ 64):cJ (.i a) (.i b)=.ok (.i (a*b)):=by show(if Eb a b\/_ then _ else _)=_;rw[if_pos (.inl (.inl ⟨d,c⟩))]
def EG(d:0<b)(c:b<1073741824):Yb (.i a) (.i b)=.ok (.i (a / b)):=by show(if Il a b then _ else _)=_;rw[if_pos ⟨d,c⟩]
def X6(c:0<b):qf (.i a) (.i b)=.ok (.i (a % b)):=by show(if 0<b then _ else _)=_;rw[if_pos c]
def Sf:pI g (.i a) (.i b)=.ok (g a b):=rfl
def Sg:pU g (.i a)=.ok (g a):=rfl
def L_:pIx (.l xs) (.i a)=k7 (atI xs a):=rfl
def O6:pIx (.t xs) (.i a)=k7 (atI xs a):=rfl
def Ma:pIx (.sc ns) (.i a)=k7 ((atI ns a).map PV.i):=rfl
def O7:asB (.b c)=.ok c:=rfl
def VZ{a:α}:k7 (some a)=.ok a:=rfl
def Mb:Qh [.l xs]=.ok (.i xs.length):=rfl
def Mc:Qh [.t xs]=.ok (.i xs.length):=rfl
def Gz:Qh [.sc xs]=.ok (.i xs.length):=rfl
def Md:Qh [.d xs]=.ok (.i xs.length):=rfl
def Me(h:z.length<=sizeLine):Qh [.s z]=.ok (.i z.length):=by show(if _ then _ else _)=_;rw[if_pos h]
def ph{xs:List α}(h:0<=k):atI xs k=xs[k.toNat]?:=by
 unfold atI ixN;rw[if_pos h];by_cases c:k<xs.length
 .rw[if_pos c];rfl
 .rw[if_neg c];symm;exact a1r.mpr (by omega)
def V0(h:qg c b n a=o)(j:o≠.wall):Qn c b a=o:=by
 have mono:∀(n k:Nat)(a:Sto),qg c b n a≠.wall->qg c b (n+k) a=qg c b n a:=by
  intro n
  induction n with
  |zero=>intro k a h;exact absurd rfl h
  |succ n l=>
   intro k a h;rw[show n+1+k=(n+k)+1 by omega];unfold qg at h ⊢;cases p:c a with
   |exc c fs=>rfl
   |wall=>rfl
   |ok t=>
    rw[p]at h;cases t with
    |false=>rfl
    |true=>
     simp only[kc]at h ⊢;cases m:b a with
     |exc c fs=>rfl
     |wall=>rfl
     |ok f=>
      rw[m]at h;cases f with
      |nx d=>exact l k d h
      |ct d=>exact l k d h
      |bk d=>rfl
      |rt v=>rfl
 have e:∃n,qg c b n a≠.wall:=⟨n,h▸j⟩;unfold Qn;rw[dif_pos e];have i:=a0A e;generalize Classical.choose e=n0 at i;rcases Nat.le_total n n0 with g|g
 .obtain⟨k,rfl⟩:=Nat.le.dest g;rw[mono n k a (h▸j)];exact h
 .obtain⟨k,rfl⟩:=Nat.le.dest g;rw[<- mono n0 k a i];exact h
def ib:Qm g b (x::xs) ρ=(k7 (g x ρ)).bind λc=>(b c).bind λf=>match f with
  |.nx a=>Qm g b xs a
  |.ct a=>Qm g b xs a
  |.bk a=>.ok (.nx a)
  |.rt v=>.ok (.rt v):=rfl
def fb{α:Type}[BEq α][LawfulBEq α][DecidableEq α]{a b:α}:(a==b)=decide (a=b):=by grind
def xw:cG n (.i a) (.i b)=.ok (.b (xor n (decide (a=b)))):=rfl
def O8:cG n (.s x) (.s y)=.ok (.b (xor n (decide (x=y)))):=rfl
def O9:cG n (.b x) (.b y)=.ok (.b (xor n (decide (x=y)))):=rfl
def Mf:g_ n (.s x) (.s y)=some (decide (x=y)):=by cases n<;>(show some (x==y)=_;rw[fb])
def xx:LQ [.i a,.i b]=.ok (.i (max a b)):=rfl
def zO{fr:Bool}{n:Nat}{ms:MS}{xs:SX}{x:PV}(h:ms (xs.map some++List.replicate (n-xs.length) none)=.ok (.rt x)):wI fr n ms xs=.ok x:=by unfold wI;rw[h]
def GA(h:s ρ=.ok (.nx ρ')):zD s t ρ=t ρ':=by unfold zD;rw[h];rfl
def m5(h:s ρ=.ok (.rt x)):zD s t ρ=.ok (.rt x):=by unfold zD;rw[h];rfl
def a8{k:Str}{v:PV}{r:Tc}:List.lookup k ((k,v)::r)=some v:=by simp[List.lookup]
def ja{k j:Str}{v:PV}{r:Tc}(h:(k==j)=false):List.lookup k ((j,v)::r)=List.lookup k r:=by simp[List.lookup,h]
def pq:List.lookup k ([]:List (Str×PV))=none:=rfl
def Mg{α:Type}{v:α}{r:List (Nat×α)}:List.lookup k ((k,v)::r)=some v:=by simp[List.lookup]
def GB{α:Type}{v:α}{r:List (Nat×α)}(h:(k==j)=false):List.lookup k ((j,v)::r)=List.lookup k r:=by simp[List.lookup,h]
def Mh{k:Kd}{v:Bool}{r:List (Kd×Bool)}:List.lookup k ((k,v)::r)=some v:=by simp[List.lookup]
def GC{k j:Kd}{v:Bool}{r:List (Kd×Bool)}(h:(k==j)=false):List.lookup k ((j,v)::r)=List.lookup k r:=by simp[List.lookup,h]
def ag:BP [] k v=[(k,v)]:=rfl
def V1(h:(j==k)=false):BP ((j,x)::r) k v=(j,x)::BP r k v:=by show(if j=k then _ else _)=_;rw[if_neg (by grind)]
def Mi{a b:Str}(h:(a==b)=false):decide (a=b)=false:=by simpa using h
def O_(h:n<=100000):(n<=sizeLine)=True:=eq_true (T9 h (by decide))
def Pa(h:n<100000):(n<sizeLine)=True:=eq_true (a0c h (by decide))
end
def EH{b:Type}{a:b}:noX (.ok a)=.ok a:=rfl
theorem Yf{l:Type}{g:MG}{c:MT}{e:ME}(j:l->PV)(keep:l->Bool)(d:l->PV)(J:Sto->Prop):∀(i:List l)(f:Sto)(a:SX),J f->(∀x∈i,∀f,J f->∃b,g (j x) f=some b/\J b/\c b=.ok (keep x)/\(keep x=true->e b=.ok (d x)))->a.length+i.length<=100000->lcP g c e (i.map j) f a=.ok (.l (a++(i.filter keep).map d))
 |[],f,a,_,_,_=>by simp[lcP]
 |x::i,f,a,o,h,r=>by
  obtain⟨b,s,n,q,p⟩:=h x u8 f o;rw[v4]at r;rw[T6];unfold lcP;rw[s,VZ,kc,q,EH,kc];cases m:keep x with
  |true=>rw[p m,EH,kc,if_pos (a0c (show a.length<100000 by omega) (by decide)),List.filter_cons_of_pos m];rw[Yf j keep d J i b (a++[d x]) n (λz hz=>h z (S0 _ hz)) (by grind),W1];rfl
  |false=>rw[List.filter_cons_of_neg (by grind)];exact Yf j keep d J i b a n (λz hz=>h z (S0 _ hz)) (by omega)
def Xl{j:Type}(i:j->PV)(f:j->PV)(J:Sto->Prop)(xs:List j)(ρ:Sto)(m:J ρ)(h:∀x∈xs,∀ρ,J ρ->∃d,g (i x) ρ=some d/\J d/\e d=.ok (f x))(o:xs.length<=100000):lcP g sE e (xs.map i) ρ []=.ok (.l (xs.map f)):=by rw[Yf (c:=sE) i (λ_=>true) f J xs ρ [] m (λx n ρ l=>let⟨d,a,b,c⟩:=h x n ρ l;⟨d,a,b,rfl,λ_=>c⟩) (by grind)];rw[List.filter_eq_self.mpr λ_ _=>rfl];rfl
end L2
namespace L2
open PySem
def Mj(o:Out Fw)(t:MS):Out Fw:=o.bind λf=>match f with
 |.nx a=>t a
 |.rt x=>.ok (.rt x)
 |.bk a=>.ok (.bk a)
 |.ct a=>.ok (.ct a)
def Ml:zD s t ρ=Mj (s ρ) t:=rfl
def GD:Mj (.ok (.nx ρ)) t=t ρ:=rfl
def GF:Mj (.ok (.rt x)) t=.ok (.rt x):=rfl
def GG:Mj (.ok (.bk ρ)) t=.ok (.bk ρ):=rfl
def GH:Mj (.ok (.ct ρ)) t=.ok (.ct ρ):=rfl
def ifO(o:Out Bool)(a b:MS)(ρ:Sto):Out Fw:=o.bind λc=>if c=true then a ρ else b ρ
def Pb:sIf c a b ρ=ifO (c ρ) a b ρ:=rfl
def Pc:ifO (.ok true) a b ρ=a ρ:=rfl
def Pd:ifO (.ok false) a b ρ=b ρ:=rfl
end L2
namespace L2
open PySem PySem.Spec PyProof.Rows PySem.W
section
variable {X:Cx}
def Mm(X:Cx)(T:String)(r:List V->Hp->VK->Prop):Prop:=
 ∀(a:Sw)(s:SE)(d:St)(H:Hp)(c:SR)(b:SO)(Q:VK),Inv X a d H s->Vals c b->r c H Q->
  wpAny (a32 X) X.A (call (.type T) b) (λv e=>wpAny (a32 X) X.A (call (.type "list") [v]) (EP X a d Q) X.xe e) X.xe s
def xy(o:Mm X T r)(c:Gl X "list")(d:X.mg "list"=none)(m:Gl X x)(l:X.mg x=none)(y:bootBuiltins x=some (.type T))(z:PA X (e::es) t)
  (B:x≠"__name__":=by decide) (b:(x==("__debug__":Str))=false:=by decide)
  (he:starEach (e::es) X.env=(false,eval e X.env)::starEach es X.env:=by rfl) (hpl:(backTo pos' (starEach es X.env)).any (·.1)=false:=by rfl):
  PE X (.Call (.Name "list" p) [.Call (.Name x p') (e::es) [] pos'] [] pos) (tCB r t):=by
 intro a s f H Q I h;refine a01 (aF I c d a3d ?_ (by decide) (by decide));refine a1k ?_ rfl rfl;refine a2r ?_;refine a01 (aF I m l y ?_ B b);exact a1k (thn (z pos' a s f H _ I h) λi u ⟨n,A,g,j,w⟩=>thn (o a u f A n i Q g j w) λv C q=>(a2B q)) he hpl
theorem a9:∀{b:SR}{a:SO},b.length=a.length->(∀(j:Nat) x u,b[j]?=some x->a[j]?=some u->RelV x u)->Vals b a
 |[],[],_,_=>.nil
 |x::b,u::a,d,h=>.cons (h 0 x u rfl rfl) (a9 (by grind) λj y v e c=>h (j+1) y v (by grind) (by grind))
def pw(I:Inv X pins σ H s)(a:s.heap.objs.size<=l)(g:∀b o,s.heap.get? b=some o->h'.get? b=some o)
  (f:h'.get? l=some { cls:=.type "list",dict:=none,data:=.seq acc c,slots:=#[] }) (hz:ys.length<=sizeLine) (e:ys.length=acc.size) (i:∀(j:Nat) x u,ys[j]?=some x->acc[j]?=some u->RelV x u) (q:∀l,H l=none->Q (.ref l) (upd H l (.lst ys))):
  EP X pins σ Q (.ref l) { s with heap:=h',toks:=tk }:=
 ⟨.ref l,_,I.laid g a (show qr X.prog X.w _ h' _ (.lst ys)from⟨hz,acc.toList,c,a9 (by omega) (λj x u h d=>i j x u h (by grind)),by exact f⟩),rfl,q _ (I.hok.fresh a)⟩
end
def xA:typeLookup (.type "list_reverseiterator") "__len__"=pure none:=by kernel_rfl
def CD:typeLookup (.type "list_reverseiterator") "__length_hint__"=pure (some (.builtin "list_reverseiterator.__length_hint__")):=by kernel_rfl
def GI(a:s.TypeIs (.ref it) "list_reverseiterator")(h:Q false s):wpAny (model prog w) A (Builtin.List.listLengthHint (.ref it)) Q E s:=by
 refine t0 (a2f a xA ?_);refine t0 (a2f a CD ?_);generalize hid:("list_reverseiterator.__length_hint__":String)=id0
 (fail_if_success (clear hid id0));wp_delta
 subst hid;refine t0 (a1J (b:=true) a rfl ?_);exact S8 h
def GJ{Q:Sz}{f l:Addr}{items:Tu}(L:A.handled=none)(G:l≠f)(q:s.heap.IsRevIter f l ((items.size:Int)-1))(x:s.heap.IsList l items)(R:items.size<=sizeLine)
  (K:∀F J a C,(∀b o,b≠f->s.heap.get? b=some o->F.get? b=some o)->F.get? s.heap.objs.size=some { cls:=.type "list",dict:=none,data:=.seq a C,slots:=#[] }->ItemsOf (λi v=>items[items.size-1-i]?=some v) a items.size->Q (.ref s.heap.objs.size) { s with heap:=F,toks:=J }):
  wpAny (model prog w) A (call (.type "list") [.ref f]) Q E s:=by
 have M:f<s.heap.objs.size:=by obtain⟨o,m,_⟩:=q;exact S9 m
 have O:l<s.heap.objs.size:=by obtain⟨o,m,_⟩:=x;exact S9 m
 refine a3j (Q₁:=λn h=>n=.ref s.heap.objs.size/\h={ s with heap:=s.heap.push { cls:=.type "list",data:=.seq #[] } }) a3D (a22 _) a23
  (code_list_new _ ⟨rfl,rfl⟩) λn h p=>?_
 obtain⟨rfl,rfl⟩:=p;have B:(s.heap.push { cls:=.type "list",data:=.seq #[] }).get? s.heap.objs.size=some { cls:=.type "list",data:=.seq #[] }:=a0k _ rfl;refine⟨⟨_,B,rfl⟩,a2T _ _,?_⟩;refine t0 ?_;refine t0 (wpAny_seqItems B rfl (S8 ?_));refine t0 (a2h B rfl ?_);have d:=a00 (Obj.mapSeq (λ_=>(#[]:Array Value))) B rfl;refine t0 (a3R ?_);have y:∀b o,s.heap.get? b=some o->((s.heap.push { cls:=.type "list",data:=.seq #[] }).update s.heap.objs.size (Obj.mapSeq (λ_=>(#[]:Array Value)))).get? b=some o:=λb o e=>
  (a0w _ _ (a1g (S9 e))).trans (S6 _ e)
 generalize((s.heap.push { cls:=.type "list",data:=.seq #[] }).update s.heap.objs.size (Obj.mapSeq (λ_=>(#[]:Array Value))))=h2 at d y;have c:h2.IsRevIter f l (items.size-1):=by obtain⟨o,m,z⟩:=q;exact⟨o,y _ _ m,z⟩
 have r:h2.IsList l items:=by obtain⟨o,m,z⟩:=x;exact⟨o,y _ _ m,z⟩
 refine t0 (a1H c.typeIs ?_);have j:=a1g M;have u:=a1g O;have P:Builtin.List.listSameRef (.ref s.heap.objs.size) (.ref f)=false:=by simp[Builtin.List.listSameRef,j]
 rw[if_neg (by grind)];refine t0 (wpAny_pyIter_revIter c ?_);refine t0 (a05 (GI c.typeIs ?_));refine S8 ⟨a2u a2H _,a3v (Walks.listRev (A:=A.in1.in1) L f l G items).toS R s.heap.objs.size (by simp[j,u]) _ items.size 0 _ _ _ rfl (a0y _) (show _/\Heap.IsRevIter h2 _ _ _/\_ from⟨a0y _,by simpa using c,r⟩) d (ItemsOf.nil _) λH a C I D t=>?_⟩;rw[a3B I];refine⟨rfl,K H.heap H.toks a C (λb o N e=>I.heap b o (λg=>?_) (y b o e)) D t⟩;rcases T1.mp g with S|g
 .exact absurd (S9 e) (by grind)
 .exact N (T2.mp g)
section
variable {X:Cx}
def Mn(K:Tj)(vs:SR)(H:Hp)(Q:VK):Prop:=∃p a,vs=[.ref p]/\SqL K H p a/\∀l,H l=none->Q (.ref l) (upd H l (.lst a.reverse))
def xB(D:X.calm=true):Mm X "reversed" (Mn X.K):=by
 intro w s L H M K Q I r h;obtain⟨p,y,rfl,E,q⟩:=h;obtain⟨u,rfl,F⟩:=vals1 r;cases F;obtain⟨c,v,g,hz⟩:=I.list E;have a:=v.length;have i:p<s.heap.objs.size:=by obtain⟨o,f,_⟩:=g.isList;exact S9 f
 refine call_reversed_list g.isList ?_;have pk:∀b o,s.heap.get? b=some o->(s.heap.push (revObj p (c.toArray.size-1))).get? b=some o:=λb o e=>S6 _ e;refine GJ (I.ok.hd D) (a0g i) ⟨_,a0k _ rfl,rfl,rfl⟩ (by obtain⟨o,f,z⟩:=g.isList;exact⟨o,pk _ _ f,z⟩) (by simp;omega) λP m l O A J n=>?_;refine pw (s:=s) I ?_ (λb o e=>A b o (a0g (S9 e)) (pk b o e)) J ?_ ?_ ?_ q
 .simp[Heap.push]
 .rw[a3E];exact hz
 .rw[n.1];simpa using a
 .intro k x u j B;have G:=n.2 k u B;have d:=by have:=(S7.mp j).1;simpa using this
  rw[a14 d]at j;obtain⟨N,t,C⟩:=v.get j;have:c[y.length-1-k]?=some u:=by simpa[a]using G
  rw[this]at t;cases t;exact C
end
def JK:List PV->Out PV
 |[.l a]=>.ok (.l a.reverse)
 |_=>.wall
theorem zU.of_get{W:RC}{M:SD}{H:Hp}:∀{b:SX}{a:SR},b.length=a.length->(∀(j:Nat) x v,b[j]?=some x->a[j]?=some v->Rep W M H x v)->zU W M H b a
 |[],[],_,_=>rfl
 |x::b,v::a,d,h=>⟨v,a,rfl,h 0 x v rfl rfl,zU.of_get (by grind) λj y u e c=>h (j+1) y u (by grind) (by grind)⟩
def zU.reverse(h:zU W M H xs vs):zU W M H xs.reverse vs.reverse:=by
 have c:=h.len;refine zU.of_get (by simp[c]) λj x v b a=>?_;have d:j<xs.length:=by have:=(S7.mp b).1;simpa using this
 rw[a14 d]at b;rw[a14 (by omega),c]at a;obtain⟨u,f,e⟩:=h.get b;rw[f]at a;cases a;exact e
def GK:LfF W (Mn W.K) JK:=λM C B H e b Q n h q=>by
 unfold JK at q;split at q
 .obtain⟨v,r,rfl,⟨p,b,rfl,_,a,c⟩,d⟩:=h;cases(show _=_ from d);exact⟨p,b,rfl,SqL.of a,λl a=>q _ _ (zr.upd a) (VO (zU.reverse c) a)⟩
 .exact q.elim
def m6(i:X.calm=true)(a:Gl X "list")(b:X.mg "list"=none)(h:Gl X "reversed")(g:X.mg "reversed"=none)(j:AM X C S ws [e] ms)(he:starEach [e] X.env=[(false,eval e X.env)]:=by rfl):FM X C S (.Call (.Name "list" p) [.Call (.Name "reversed" p') [e] [] pos'] [] pos) (zj JK ms):=λc=>by obtain⟨l,f,d⟩:=j c;exact⟨_,xy (c▸xB i) a b h g PyProof.Rows.boot_reversed f (he:=he),LL GK d⟩
def Inv.swap(I:Inv X pins σ H s)(j:H a=some u)(D:∀f,u≠.tup f)(C:∀o v,X.H₀ a≠some (.frz o v))(E:∀l,u≠.tbl l)(y:∀b,u≠.own b)(new:qr X.prog X.w (upd H a u') s.heap a u'):Inv X pins σ (upd H a u') s:=by
 have i:∀b,H b=none->b≠a:=λb n z=>by rw[z,j]at n;cases n
 have m:∀b f,H b=some (.tup f)->b≠a:=λb f q z=>by rw[z,j]at q;cases q;exact D _ rfl
 have B:∀b c,H b=some (.own c)->b≠a:=λb c q z=>by rw[z,j]at q;cases q;exact y _ rfl
 have d:∀{b},b≠a->upd H a u' b=H b:=λz=>zh z;refine⟨I.ok,I.os,I.bare,⟨I.base.keep,I.base.slot,λb o q n A=>?_,I.base.there,λb f q=>?_,λb o v q=>?_,λb l q=>?_⟩,I.loc,I.cell,?_,λx c q=>?_,λp hp=>?_,λb v q=>?_,I.len⟩
 .have:=I.base.free b o q n A;rw[d (i b this)];exact this
 .have:=I.base.t6 b f q;rw[d (m b f this)];exact this
 .have g:b≠a:=λz=>C o v (z▸q);rw[d g];exact I.base.Bu b o v q
 .obtain⟨h,e⟩:=I.base.D2 b l q;have g:b≠a:=λz=>by rw[z,j]at e;cases e;exact E _ rfl
  exact⟨h,by rw[d g];exact e⟩
 .rw[d (i _ I.free)];exact I.free
 .rw[d (i _ (I.U1 x c q))];exact I.U1 x c q
 .obtain⟨w,t,F⟩:=I.pin p hp;exact⟨w,by rw[d (i _ t)];exact t,F⟩
 .by_cases g:b=a
  .subst g;rw[ze]at q;cases q;exact new
  .rw[d g]at q;exact(I.hok b v q).BV (λ_ _ _ r=>r) (λc r=>by rw[d (B c b r)];exact r) λc f r=>by rw[d (m c f r)];exact r
def Inv.px(I:Inv X pins σ H s)(b:H a=some (.dK es)):∀o v,X.H₀ a≠some (.frz o v):=λo v q=>by have:=I.base.Bu a o v q;rw[b]at this;cases this
def Inv.Pe(I:Inv X pins σ H s)(c:H a=some (.dK es)):∃o,Inv X pins σ (upd H a (.frz o (.dK es))) s:=by obtain⟨z,f,e,b,o,i,g,d,h⟩:= (I.hok a _ c);exact⟨o,I.swap c (λ_=>by nofun) (I.px c) (λ_=>by nofun) (λ_=>by nofun) ⟨d,z,f,e,b,o,i,g,d,h⟩⟩
def Inv.GL(I:Inv X pins σ H s)(b:H a=some (.frz o (.dK es)))(hz:∀o v,X.H₀ a≠some (.frz o v)):Inv X pins σ (upd H a (.dK es)) s:=
 I.swap b (λ_=>by nofun) hz (λ_=>by nofun) (λ_=>by nofun) (I.hok a _ b).2
def N8(o:Obj):Nat:=match o.data with | .dict _ a=>a|_=>0
def Itd(a:Addr)(o:Obj)(es:SH):It:=
 ⟨λi H=>H a=some (.frz o (.dK es))/\i<es.length,λi H x b=>b=H/\∃k v,es[i]?=some (k,v)/\x=kV k,λi H=>H a=some (.frz o (.dK es))/\es.length<=i⟩
def EI(h:KV es vs):∀{i:Nat}{k:Tw}{v:V},es[i]?=some (k,v)->∃w,vs[i]?=some (k,w):=by
 induction h with
 |nil=>intro i k v e;simp at e
 |@cons p q _ _ hp _ a=>
  intro i k v e;cases i with
  |zero=>simp at e;subst e;exact⟨q.2,by simp;exact Prod.ext hp.1.symm rfl⟩
  |succ i=>simp at e ⊢;exact a e
def ic(h:(yB P w).is k u=true):RelV (kV k) u:=by
 rw[rQ]at h;rcases yJ h with⟨i,t,rfl,rfl⟩|⟨x,t,rfl,rfl⟩
 .exact⟨t,rfl⟩
 .exact⟨t,rfl⟩
def xC(ok:HOk P w H h)(e:H a=some (.frz o (.dK es))):(a==sysModules)=false/\∃b,KV es b/\h.DictAt (yB P w) a b (N8 o):=by
 obtain⟨d,_,j,b,c,p,n,l,g,m,f,i⟩:=(show qr P w H h a (.frz o (.dK es))from ok a _ e);rw[d]at g;cases g;have:N8 o=l:=by unfold N8;rw[f]
 exact⟨j,b,c,o,n,d,m,by rw[this];exact f,i⟩
def xD{P:SV}{w:S_}{K:Tj}{O:SN}(a l:Addr)(o:Obj)(es:SH):Turn P w K O (Itd a o es) [l] l (λi h=>h.IsKeyIter l a i es.length (N8 o))where
 mem:=by simp
 obj:=λi h g b m=>by
  have e:b=l:=by simpa using m
  subst e;obtain⟨o,e,c,d⟩:=g;exact⟨o,e,λv z=>by rw[d]at z;cases z⟩
 keep:=λi h r g k=>g.at λo e=>k l (by simp) o e
 item:=by intro X hP n t N i j s L H E I hf g A;subst hP n t;obtain⟨G,M⟩:=A;obtain⟨S,R,f,F⟩:=xC I.hok G;have J:=T7 M;obtain⟨w,n⟩:=EI f J;obtain⟨B,D,T,u,C,x⟩:=hf l (by simp);rw[a03 f]at g;refine wpAny_pyNext_dict_item g F n λy r Q p U=>?_;have Z:Inv X j L H { s with heap:=r }:=I.turned (λb o m e=>(U.2 b m).trans e) B D u C x;obtain⟨q,e,c,d⟩:=id p;refine⟨y,rfl,B0 e c d (by decide) ⟨_,H,Z,ic Q,⟨rfl,_,_,J,rfl⟩,?_,λb m=>(hf b m).1⟩⟩;rw[a03 f];exact p
 done:=by intro X hP n t N i j s L H E I hf g A;subst hP n t;obtain⟨G,M⟩:=A;obtain⟨S,R,f,F⟩:=xC I.hok G;obtain⟨B,D,T,u,C,x⟩:=hf l (by simp);have Y:=a03 f;rw[Y]at g;exact wpAny_pyNext_dict_end (I.ok.hd N) g F (a1r.mpr (by omega)) λr W=>⟨rfl,I.turned (λb o m e=>W b o m e) B D u C x⟩
 self:=λ_ _ _ _ _ g h=>wpAny_pyIter_keyiter g h
def ie(d:TE):TI:=λe H R=>d e H λx b=>∃a o c,x=.ref a/\b a=some (.frz o (.dK c))/\R (Itd a o c) b
def V2(w:PE X l tl):PI X tg l (ie tl):=by
 intro c s j H R I h;refine thn (w c s j H _ I h) λv d ⟨x,u,f,i,a,o,m,e,t,q⟩=>?_;subst e;cases i;obtain⟨r,y,g,p⟩:=xC f.hok t;refine wpAny_pyIter_dict r p ?_;refine⟨d.heap.objs.size,[d.heap.objs.size],_,_,u,rfl,f.kept (t':=d.toks) λb o e=>S6 _ e,xD a _ o m,?_,λb n=>?_,q⟩
 .rw[a03 g];exact⟨_,a0k _ rfl,rfl,rfl⟩
 have e:b=d.heap.objs.size:=by simpa using n
 subst e;exact f.Ij (S5 _) (f.hok.fresh (S5 _))
def EJ(h:Rd H a (.dK es))(h':Rd H a (.dK es')):es'=es:=by rcases h with h|⟨o,h⟩<;>rcases h' with h'|⟨b,h'⟩<;>rw[h]at h'<;>cases h'<;>rfl
section
variable {W:RC}{M:SD}{H H':Hp}{a:Addr}{es:SH}
def UQ(e:Rd H a (.dK es))(h:H b=some u)(d:∀es,u≠.dK es)(c:∀o es,u≠.frz o (.dK es)):b≠a:=λz=>by
 subst z;rcases e with z|⟨o,z⟩<;>rw[z]at h<;>cases h
 .exact d _ rfl
 .exact c _ _ rfl
def JL(e:Rd H a (.dK es))(c:∀b,b≠a->H' b=H b)(h:Rd H b u)(d:∀es,u≠.dK es)(hf:∀o v,u≠.frz o v):Rd H' b u:=by
 rcases h with h|⟨o,h⟩
 .exact .inl ((c b (UQ e h d λo es=>hf o _)).trans h)
 .exact .inr ⟨o,(c b (UQ e h (λ_=>by nofun) λo es z=>by cases z;exact d _ rfl)).trans h⟩
mutual
theorem Rep.sw(f:Rd H a (.dK es))(i:Rd H' a (.dK es))(d:∀b,b≠a->H' b=H b):∀{x:PV}{v:V},Rep W M H x v->Rep W M H' x v
 |.i n,v,h=>h
 |.s x,v,h=>h
 |.b c,v,h=>h
 |.n,v,h=>h
 |.l s,v,h=>by obtain⟨p,g,e,m,r,q⟩:=h;exact⟨p,g,e,m,(d p (UQ f r (λ_=>by nofun) λ_ _=>by nofun)).trans r,zU.sw f i d q⟩
 |.sc t,v,h=>by obtain⟨p,e,r⟩:=h;exact⟨p,e,r.elim (λz=>.inl ⟨z.1,JL f d z.2 (λ_=>by nofun) λ_ _=>by nofun⟩) .inr⟩
 |.dt l,v,h=>by obtain⟨p,e,m,r⟩:=h;exact⟨p,e,m,JL f d r (λ_=>by nofun) λ_ _=>by nofun⟩
 |.t s,v,h=>by obtain⟨p,g,e,r,q⟩:=h;exact⟨p,g,e,r.elim (λz=>.inl (JL f d z (λ_=>by nofun) λ_ _=>by nofun)) .inr,zU.sw f i d q⟩
 |.d l,v,h=>by
  obtain⟨p,g,e,m,r,q⟩:=h;refine⟨p,g,e,m,?_,qY.sw f i d q⟩;by_cases hp:p=a
  .subst hp;rw[EJ f r];exact i
  .unfold Rd;rw[d p hp];exact r
 |.o c fs,v,h=>by obtain⟨p,j,g,e,m,r,q⟩:=h;exact⟨p,j,g,e,m,(d p (UQ f r (λ_=>by nofun) λ_ _=>by nofun)).trans r,j5.sw f i d q⟩
 |.x c fs,v,h=>by unfold Rep at h ⊢;obtain⟨p,j,g,e,r,o,q⟩:=h;exact⟨p,j,g,e,(d p (UQ f r (λ_=>by nofun) λ_ _=>by nofun)).trans r,(d j (UQ f o (λ_=>by nofun) λ_ _=>by nofun)).trans o,j5.sw f i d q⟩
theorem zU.sw(f:Rd H a (.dK es))(d:Rd H' a (.dK es))(c:∀b,b≠a->H' b=H b):∀{x:SX}{v:SR},zU W M H x v->zU W M H' x v
 |[],v,h=>h
 |x::j,l,h=>by unfold zU at h ⊢;obtain⟨v,r,e,g,i⟩:=h;exact⟨v,r,e,Rep.sw f d c g,zU.sw f d c i⟩
theorem qY.sw(f:Rd H a (.dK es))(d:Rd H' a (.dK es))(c:∀b,b≠a->H' b=H b):∀{x:SY}{v:SH},qY W M H x v->qY W M H' x v
 |[],v,h=>h
 | (k,x)::j,l,h=>by unfold qY at h ⊢;obtain⟨v,r,e,g,i⟩:=h;exact⟨v,r,e,Rep.sw f d c g,qY.sw f d c i⟩
theorem j5.sw(f:Rd H a (.dK es))(d:Rd H' a (.dK es))(c:∀b,b≠a->H' b=H b):∀{x:Tc}{v:Tg},j5 W M H x v->j5 W M H' x v
 |[],v,h=>h
 | (k,x)::j,l,h=>by unfold j5 at h ⊢;obtain⟨v,r,e,g,i⟩:=h;exact⟨v,r,e,Rep.sw f d c g,j5.sw f d c i⟩
end
def yK.sw{N:SD}{x:PV}{v:V}(g:Rd H a (.dK es))(j:Rd H' a (.dK es))(f:∀b,b≠a->H' b=H b)(h:yK W N M H x v):yK W N M H' x v:=by
 cases x with
 |l B=>obtain⟨p,u,e,m,r,q⟩:=h;exact⟨p,u,e,m,(f p (UQ g r (λ_=>by nofun) λ_ _=>by nofun)).trans r,q.sw g j f⟩
 |d w=>
  obtain⟨p,u,e,m,r,q⟩:=h;refine⟨p,u,e,m,?_,q.sw g j f⟩;by_cases hp:p=a
  .subst hp;rw[EJ g r];exact j
  .unfold Rd;rw[f p hp];exact r
 |sc A=>obtain⟨p,e,r⟩:=h;exact⟨p,e,r.elim (λz=>.inl ⟨z.1,JL g f z.2 (λ_=>by nofun) λ_ _=>by nofun⟩) .inr⟩
 |dt w=>obtain⟨p,e,m,r⟩:=h;exact⟨p,e,m,JL g f r (λ_=>by nofun) λ_ _=>by nofun⟩
 |o c fs=>obtain⟨p,y,u,e,m,r,q⟩:=h;exact⟨p,y,u,e,m,(f p (UQ g r (λ_=>by nofun) λ_ _=>by nofun)).trans r,q.sw g j f⟩
 |i n=>exact Rep.sw g j f h
 |s n=>exact Rep.sw g j f h
 |b n=>exact Rep.sw g j f h
 |n=>exact Rep.sw g j f h
 |t n=>exact Rep.sw g j f h
 |x c n=>exact Rep.sw g j f h
def aP.sw{p:Addr}{x:PV}(hp:p≠a)(r:Rd H a (.dK es))(m:Rd H' a (.dK es))(f:∀b,b≠a->H' b=H b)(h:aP W M H p x):aP W M H' p x:=by
 cases x with
 |l v=>obtain⟨g,e,q⟩:=h;exact⟨g,(f p hp).trans e,q.sw r m f⟩
 |d j=>obtain⟨g,e,q⟩:=h;exact⟨g,(f p hp).trans e,q.sw r m f⟩
 |dt j=>exact(f p hp).trans h
 |o c fs=>obtain⟨u,g,e,q⟩:=h;exact⟨u,g,(f p hp).trans e,q.sw r m f⟩
 |i n=>exact h.elim
 |s n=>exact h.elim
 |b n=>exact h.elim
 |n=>exact h.elim
 |t n=>exact h.elim
 |x c n=>exact h.elim
 |sc n=>exact h.elim
end
def Bs.at'(B:Bs)(a:Addr)(u:HO):Bs:=⟨upd B.H0 a u,B.M0,B.N0,λb h=>by
 by_cases e:b=a
 .rw[e,ze];exact λz=>by cases z
 .rw[zh e];exact B.nz b h,B.pin,B.xc⟩
section
variable {W:RC}{B:Bs}{S:Sy}{P:SJ}{H:Hp}{σ:St}{ρ:Sto}{a:Addr}{es:SH}{u u':HO}
def fc(c:B.H0 a≠none):(B.at' a u).H0 b=none↔B.H0 b=none:=by
 show upd B.H0 a u b=none↔_;by_cases e:b=a
 .subst e;rw[ze];exact⟨λz=>(by cases z),λz=>absurd z c⟩
 .rw[zh e]
def Mo(c:B.H0 a≠none):(B.at' a u).Mt b↔B.Mt b:=or_congr a3k (fc c)
def EK(c:B.H0 a≠none):Mof (B.at' a u) S P b↔Mof B S P b:=and_congr (and_congr (Mo c) a3k) a3k
def DU(es:SH)(u:HO):Prop:=u=.dK es\/∃o,u=.frz o (.dK es)
def DU.rd(h:DU es u)(e:H a=some u):Rd H a (.dK es):=h.elim (λz=>.inl (z▸e)) λ⟨o,z⟩=>.inr ⟨o,z▸e⟩
def Rel.sw(R:Rel W B S P H σ ρ)(r:B.H0 a=some u)(D:DU es u)(g:DU es u'):Rel W (B.at' a u') S P (upd H a u') σ ρ:=by
 have C:=R.same a u r;have f:B.H0 a≠none:=by rw[r];exact λz=>by cases z
 have l:=D.rd C;have j:Rd (upd H a u') a (.dK es):=g.rd ze;have c:∀b,b≠a->upd H a u' b=H b:=λb z=>zh z;have w:Mof B S P=Mof (B.at' a u') S P:=funext λb=>propext (EK f).symm;have p:∀{i},S[i]?=some 2->P i≠a:=λ{i} d z=>f (z▸(R.act i d).1);refine⟨λb o h=>?_,R.len,λi x e=>?_,λi d=>⟨(fc f).mpr (R.act i d).1,?_⟩,R.inj,R.pin,λb h=>?_,R.axc⟩
 .have h:upd B.H0 a u' b=some o:=h;by_cases e:b=a
  .subst e;rw[ze]at h ⊢;exact h
  .rw[zh e]at h ⊢;exact R.same b o h
 .obtain⟨v,y,m,s,t⟩:=R.var i x e;rw[<- w];exact⟨v,y,λz=>⟨(m z).1,(m z).2.sw (p z) l j c⟩,λz=>(s z).sw l j c,λz A=>(t z A).sw l j c⟩
 .obtain⟨o,e,n⟩:=(R.act i d).2;exact⟨o,(c _ (p d)).trans e,n⟩
 .obtain⟨o,e,n,z⟩:=R.exc b h;have:b≠a:=λq=>f (q▸z);exact⟨o,(c b this).trans e,n,(fc f).mpr z⟩
def Pf:(B.at' a u').at' a u''=B.at' a u'':=by
 unfold Bs.at';congr 1
 funext b
 rw[Xh]
def GN(c:B.H0 a=some u):B.at' a u=B:=by
 cases B;unfold Bs.at';congr 1
 funext b
 by_cases e:b=a
 .subst e;rw[ze];exact c.symm
 .rw[zh e]
def Rel.ws(c:B.H0 a=some u)(d:DU es u)(b:DU es u')(R:Rel W (B.at' a u') S P H σ ρ):Rel W B S P (upd H a u) σ ρ:=by have:=Rel.sw R ze b d;rw[Pf,GN c]at this;exact this
def xE(c:B.H0 a=some u)(s:zr (B.at' a u').H0 H):zr B.H0 (upd H a u):=λb o h=>by
 by_cases e:b=a
 .subst e;rw[c]at h;rw[ze];exact h
 .rw[zh e];exact s b o (show upd B.H0 a u' b=some o by rw[zh e];exact h)
end
def Df(a:Addr)(es:SH)(D:Ends):Ends where
 nx:=λb H=>(∃o,H a=some (.frz o (.dK es)))/\D.nx b (upd H a (.dK es))
 rt:=λv H=>(∃o,H a=some (.frz o (.dK es)))/\D.rt v (upd H a (.dK es))
 bk:=λb H=>(∃o,H a=some (.frz o (.dK es)))/\D.bk b (upd H a (.dK es))
 ct:=λb H=>(∃o,H a=some (.frz o (.dK es)))/\D.ct b (upd H a (.dK es))
def Ef(a:Addr)(es:SH)(E:XK):XK:=λv d H=>(∃o,H a=some (.frz o (.dK es)))/\E v d (upd H a (.dK es))
def GO{W:RC}{E:XK}{fr:Bool}{B:Bs}{S' Sb Sc:Sy}{D:Ends}{a:Addr}{es:SH}{o:Obj}{j:Out Fw}(m:B.H0 a=some (.dK es))(q:Qc ⟨W,E,fr⟩ B S' Sb Sc D j):Qc ⟨W,Ef a es E,fr⟩ (B.at' a (.frz o (.dK es))) S' Sb Sc (Df a es D) j:=by
 have L:B.H0 a≠none:=by rw[m];exact λz=>by cases z
 have N:DU es (.dK es):=.inl rfl;have i:DU es (.frz o (.dK es)):=.inr ⟨o,rfl⟩;have t:(B.at' a (.frz o (.dK es))).H0 a=some (.frz o (.dK es)):=ze;have sw:∀{H:Hp}{u:HO},H a=some (.frz o (.dK es))->Rd H a (.dK es)/\Rd (upd H a (.dK es)) a (.dK es)/\∀b,b≠a->upd H a (.dK es) b=H b:=λh=>⟨.inr ⟨o,h⟩,.inl ze,λb z=>zh z⟩;have J:(B.at' a (.frz o (.dK es))).Mt=B.Mt:=funext λb=>propext (Mo L);cases j with
 |wall=>exact q
 |exc c fs=>
  intro e I Q S s P O R;have C:=s a _ t;obtain⟨l,F,n⟩:=sw (u:=.dK es) C;have G:e≠a:=UQ l P (λ_=>by nofun) λ_ _=>by nofun
  have M:I≠a:=UQ l O (λ_=>by nofun) λ_ _=>by nofun
  exact⟨⟨o,C⟩,q e I Q _ (xE m s) ((n e G).trans P) ((n I M).trans O) ((J▸R).sw l F n)⟩
 |ok f=>
  cases f with
  |nx y=>exact λw K d g=>⟨⟨o,g.same a _ t⟩,q w _ d (Rel.ws m N i g)⟩
  |bk y=>exact λw K d g=>⟨⟨o,g.same a _ t⟩,q w _ d (Rel.ws m N i g)⟩
  |ct y=>exact λw K d g=>⟨⟨o,g.same a _ t⟩,q w _ d (Rel.ws m N i g)⟩
  |rt x=>
   intro v K s r;have C:=s a _ t;obtain⟨l,F,n⟩:=sw (u:=.dK es) C;refine⟨⟨o,C⟩,q v _ (xE m s) ?_⟩;unfold EC at r ⊢;cases fr with
   |true=>obtain⟨p,e,hp,r⟩:=r;have A:=(fc L).mp hp;have:p≠a:=λz=>L (z▸A);exact⟨p,e,A,(J▸r).sw this l F n⟩
   |false=>exact(J▸r).sw l F n
def CF(h:a≠b):upd (upd H a u) b v=upd (upd H b v) a u:=by
 funext c
 by_cases d:c=a
 .subst d;rw[zh h,ze,ze]
 .by_cases e:c=b
  .subst e;rw[ze,zh d,ze]
  .rw[zh e,zh d,zh d,zh e]
def tFz(c:XK->TS)(E:XK):TS:=λD d H=>(∃a b,H a=some (.dK b)/\∀o,c (Ef a b E) (Df a b D) d (upd H a (.frz o (.dK b))))\/c E D d H
def Mp{X:Cx}{E:XK}{st:TB}{t:XK->TS}(h:∀m,PS (thr X m) st (t m)):PS (thr X E) st (tFz t E):=by
 intro g s n H D I q;rcases q with⟨a,r,w,q⟩|q
 .obtain⟨o,L⟩:=I.Pe w;have hz:=I.px w;refine a0O (h (Ef a r E) g s n _ (Df a r D) (L.vM.cF _) (q o)) (λf B z=>?_) λv B z=>?_
  .cases f with
   |next=>obtain⟨c,j,J,⟨i,hf⟩,d⟩:=z;exact⟨c,_,Inv.GL (J.vM.cF _) hf hz,d⟩
   |brk=>obtain⟨c,j,J,⟨i,hf⟩,d⟩:=z;exact⟨c,_,Inv.GL (J.vM.cF _) hf hz,d⟩
   |cont=>obtain⟨c,j,J,⟨i,hf⟩,d⟩:=z;exact⟨c,_,Inv.GL (J.vM.cF _) hf hz,d⟩
   |ret u=>obtain⟨v,c,j,J,A,⟨i,hf⟩,d⟩:=z;exact⟨v,c,_,Inv.GL (J.vM.cF _) hf hz,A,d⟩
  .obtain⟨c,j,e,C,x,rfl,J,f,⟨i,hf⟩,d⟩:=z;have l:e≠a:=λz=>by subst z;rw[ze]at hf;cases hf
   rw[zh l.symm]at hf;rw[CF l]at d;refine⟨c,_,e,C,x,rfl,Inv.GL J hf hz,?_,d⟩;obtain⟨T,K,G⟩:=f;refine⟨T,by rw[zh l];exact K,G.imp id λ⟨p,F,M,b,y⟩=>⟨p,F,M,⟨b.tbk,b.new,?_,b.pin⟩,y⟩⟩;have:p≠a:=λz=>by have:=b.free;rw[z,hf]at this;cases this
   rw[zh this];exact b.free
 .exact h E g s n H D I q
def kP:Key->PV
 |.inl i=>.i i
 |.inr x=>.s x
def EL{W:RC}{M:SD}{H:Hp}:∀k:Key,Rep W M H (kP k) (kV k)
 |.inl _=>rfl
 |.inr _=>rfl
def zP(i:Nat):MI:=λb=>match b[i]? with
 |some (some (.d a))=>.ok (a.map λc=>kP c.1)
 |_=>.wall
def Qo{W:RC}{M N:SD}{j:Hp}{a:Addr}{o:Obj}{es:SH}{kvs:SY}(p:j a=some (.frz o (.dK es)))(h:es.map (·.1)=kvs.map (·.1)):Gu W M N j (Itd a o es) (kvs.map λe=>kP e.1):=λq f=>by
 have b:=f a _ p (.inr trivial);have s:=by simpa using a0D List.length h
 refine⟨λi x g=>?_,b,by rw[f8];omega⟩;rw[a0e]at g;obtain⟨e,c,rfl⟩:=v0.mp g;have r:=(S7.mp c).1;refine⟨⟨b,by omega⟩,λv n m=>?_⟩;obtain⟨rfl,k,w,d,rfl⟩:=m;have:k=e.1:=by
  have l:(es.map (·.1))[i]?=some k:=by rw[a0e,d];rfl
  rw[h,a0e,c]at l;cases l;rfl
 subst this;exact⟨zr.refl _,λ_ _=>EL _⟩
section
variable {X:Cx}{W:RC}{E:XK}{fr:Bool}{S S1 Sb Sc:Sy}{tg jc:SN}{body:Ts}{mg:MG}{mb:MS}{pos:Pos}{i:Nat}
def m7(R:Rel W B S P H σ ρ)(g:S[i]?≠some 2)(o:ρ[i]?=some (some (.d kvs))):∃a b,σ[i]?=some (some (.ref a))/\NA B S P a/\Rd H a (.dK b)/\b.map (·.1)=kvs.map (·.1):=by
 obtain⟨v,f,_,p,l⟩:=R.var i _ o;by_cases c:S[i]?=some 1
 .obtain⟨a,b,rfl,n,r,rk⟩:=p c;have d:=B.nz a n;exact⟨a,b,f,⟨λz=>d (R.exc a z).choose_spec.2.2,λj h e=>d (e▸(R.act j h).1)⟩,r,(qY.iff.mp rk).1⟩
 .obtain⟨a,b,rfl,m,r,rk⟩:=l g c;exact⟨a,b,f,Mof.na m,r,(qY.iff.mp rk).1⟩
def m8(R:Rel W B S P H σ ρ)(na:NA B S P a)(h:H a=some u):(B.loop S P H R.hz).H0 a=some u:=by unfold Bs.loop;dsimp only;rw[if_neg λz=>z.elim (λ⟨j,b,e⟩=>na.2 j b e) na.1];exact h
def fe(hc:X.calm=true)(Y:Own X)(hv:∀h,PE (thr X h) jc (cE i))(hg:∀h,GM (thr X h) ⟨W,h,fr⟩ S S1 tg mg)(hb:∀h,SsM (thr X h) ⟨W,h,fr⟩ S1 S S S body mb)(hS:S[i]?≠some 2:=by decide)(hs:∀x,foldedSetIterable jc X.env x=pure x:=by intro _;rfl):
  SM (thr X E) ⟨W,E,fr⟩ S S Sb Sc (.For tg jc body [] pos) (wK (zP i) mg mb):=λO=>by
 refine⟨tFz (λh D Q H=>∃g p,PG (thr X h) tg g/\PSs (thr X h) body p/\Ik (ie (cE i)) g p D Q H) E,Mp λh L s Q H D I ⟨g,p,w,K,q⟩=>oH (X:=thr X h) (zo Y) hc (V2 (hv h)) w K hs L s Q H D I q,λB P H Q U R D q=>?_⟩;cases e:U[i]? with
 |none=>unfold wK zP at q;rw[e]at q;exact q.elim
 |some z=>
  cases z with
  |none=>unfold wK zP at q;rw[e]at q;exact q.elim
  |some y=>
   cases y with
   |d T=>
    obtain⟨a,u,A,na,Z,hk⟩:=m7 R hS e;have hm:zP i U=.ok (T.map λkx=>kP kx.1):=by unfold zP;rw[e]
    rcases Z with N|⟨o,N⟩
    .refine .inl ⟨a,u,N,λo=>?_⟩;obtain⟨g,w,lg⟩:=hg (Ef a u E) O;obtain⟨p,K,lb⟩:=hb (Ef a u E) O;have R1:=R.loop;have h0:=m8 R na N;have Rf:=R1.sw h0 (.inl rfl) (.inr ⟨o,rfl⟩);refine⟨g,p,w,K,e8 (mi:=zP i) (Sb:=Sb) (Sc:=Sc) (λRr F=>?_) lg lb Rf _ (GO h0 ?_)⟩
     .rw[hm]at F;exact⟨.ref a,A,a,o,u,rfl,ze,F _ _ (zr.refl _) (Qo ze hk)⟩
     .revert q;cases wK (zP i) mg mb U with
      |wall=>exact id
      |exc c fs=>exact λq=>pf rfl R q
      |ok f=>
       cases f with
       |nx M=>exact λq J m j G=>q J m j (R.h9 G)
       |bk M=>exact λq J m j G=>q J m j (R.h9 G)
       |ct M=>exact λq J m j G=>q J m j (R.h9 G)
       |rt x=>exact λq v m s r=>q v m ((VS R).trans s) (xn rfl R r)
    .obtain⟨g,w,lg⟩:=hg E O;obtain⟨p,K,lb⟩:=hb E O;refine .inr ⟨g,p,w,K,e8 (λRr F=>?_) lg lb R D q⟩;rw[hm]at F;exact⟨.ref a,A,a,o,u,rfl,N,F _ _ (zr.refl _) (Qo N hk)⟩
   |i n=>unfold wK zP at q;rw[e]at q;exact q.elim
   |s n=>unfold wK zP at q;rw[e]at q;exact q.elim
   |b n=>unfold wK zP at q;rw[e]at q;exact q.elim
   |n=>unfold wK zP at q;rw[e]at q;exact q.elim
   |l n=>unfold wK zP at q;rw[e]at q;exact q.elim
   |t n=>unfold wK zP at q;rw[e]at q;exact q.elim
   |o c n=>unfold wK zP at q;rw[e]at q;exact q.elim
   |x c n=>unfold wK zP at q;rw[e]at q;exact q.elim
   |sc n=>unfold wK zP at q;rw[e]at q;exact q.elim
   |dt n=>unfold wK zP at q;rw[e]at q;exact q.elim
end
def tGz(c:TE):TE:=λe H Q=>(∃a b,H a=some (.dK b)/\∀o,c e (upd H a (.frz o (.dK b))) (λv d=>(∃o,d a=some (.frz o (.dK b)))/\Q v (upd d a (.dK b))))\/c e H Q
def Mq(h:PE X e te):PE X e (tGz te):=by
 intro b s c H Q I q;rcases q with⟨a,m,f,q⟩|q
 .obtain⟨o,i⟩:=I.Pe f;have hz:=I.px f;refine thn (h b s c _ _ i (q o)) λv n ⟨x,l,J,g,⟨j,hf⟩,d⟩=>⟨x,_,J.GL hf hz,g,d⟩
 .exact h b s c H Q I q
theorem V3{g:MG}{c:MT}{e:ME}{k:Nat}{fs:Tc}:∀{f:SX}{d:Sto}{a:SX},lcP g c e f d a≠.exc k fs
 |[],d,a=>by exact λz=>by cases z
 |x::f,d,a=>by
  unfold lcP;cases g x d with
  |none=>exact λz=>by cases z
  |some b=>
   show(noX (c b)).bind _≠_;cases c b with
   |wall=>exact λz=>by cases z
   |exc _ _=>exact λz=>by cases z
   |ok t=>
    show(if t=true then _ else _)≠_;split
    .cases e b with
     |wall=>exact λz=>by cases z
     |exc _ _=>exact λz=>by cases z
     |ok y=>
      show(if a.length<sizeLine then _ else _)≠_;split
      .exact V3
      .exact λz=>by cases z
    .exact V3
def EO{g:TG}{K:TT}{N:TE}{fr:SW}{w:Sy}(E:S[i]?≠some 2)(U:w=inS S fr)(O:LG ⟨C.W,E0,false⟩ w w g mg)(W:LT ⟨C.W,E0,false⟩ w K mc)(he:LE ⟨C.W,E0,false⟩ w false N me):LFr C S (tGz (tLC (ie (cE i)) g K N fr)) (mLC (zP i) fr mg mc me):=λB P H σ A R Q q=>by
 cases f:zP i A with
 |wall=>unfold mLC at q;rw[f]at q;exact q.elim
 |exc c fs=>unfold zP at f;split at f<;>cases f
 |ok X=>
  obtain⟨d,t⟩:∃d,A[i]?=some (some (.d d)):=by
   unfold zP at f;split at f
   .rename_i d h;exact⟨d,h⟩
   .cases f
  have F:X=d.map λj=>kP j.1:=by unfold zP at f;rw[t]at f;cases f;rfl
  subst F;obtain⟨a,D,n,na,J,M⟩:=m7 R E t;rcases J with l|⟨o,l⟩
  .refine .inl ⟨a,D,l,λo=>?_⟩;have T:=m8 R na l;have Y:=R.loop.sw T (.inl rfl) (.inr ⟨o,rfl⟩);refine m4 (mi:=zP i) (λRr y=>?_) rfl U O W he Y _ ?_
   .rw[f]at y;exact⟨.ref a,n,a,o,D,rfl,ze,y _ _ (zr.refl _) (Qo ze M)⟩
   .unfold mLC at q ⊢;rw[f]at q ⊢;have q:zF C B H (RFr C.W (Mof B S P) H) Q (lcP mg mc me (d.map λj=>kP j.1) (Ka A fr) []):=q;show zF C _ _ _ _ (lcP mg mc me (d.map λj=>kP j.1) (Ka A fr) []);revert q;cases ho:lcP mg mc me (d.map λj=>kP j.1) (Ka A fr) []with
    |wall=>exact id
    |exc c fs=>exact absurd ho V3
    |ok x=>
     intro q v H2 s r;have hf:=s a _ (ze);refine⟨⟨o,hf⟩,q v _ (λb u G=>?_) ?_⟩
     .by_cases e:b=a
      .subst e;rw[l]at G;rw[ze];exact G
      .rw[zh e];exact s b u (by rw[zh e];exact G)
     .obtain⟨p,e,hp,r⟩:=r;have L:p≠a:=λz=>by rw[z,ze]at hp;cases hp
      rw[zh L]at hp;refine⟨p,e,hp,aP.sw L (.inr ⟨o,hf⟩) (.inl ze) (λb z=>zh z) (r.gen rfl Fr.refl λb m _=>⟨?_,m.2⟩)⟩;have Z:(B.loop S P H R.hz).H0 a≠none:=by rw[T];exact λz=>by cases z
      have I:=(EK Z).mp m.1;exact⟨⟨aX R I.1.1,I.1.2⟩,I.2⟩
  .refine .inr (m4 (λRr y=>?_) rfl U O W he R _ q);rw[f]at y;exact⟨.ref a,n,a,o,D,rfl,l,y _ _ (zr.refl _) (Qo l M)⟩
def ig(N:SA)(fr:SW)(b:Sy)(m:X.calm=true)(f:tY X scope N fr=true)(q:PE X jc (cE i))(j:∀z:CI,GM (cxI X scope N z) ⟨C.W,E0,false⟩ b b tg mg)(u:∀z:CI,TsM (cxI X scope N z) ⟨C.W,E0,false⟩ b ifs mc)(he:∀z:CI,EM (cxI X scope N z) ⟨C.W,E0,false⟩ b false elt me)(e:S[i]?≠some 2:=by decide)(t:b=inS S fr:=by rfl)
  (v:∀x,foldedSetIterable jc X.env x=pure x:=by intro _;rfl):FM X C S (.ListComp elt [⟨tg,jc,ifs,0⟩] scope pos) (mLC (zP i) fr mg mc me):=λd=>by
 obtain⟨g,o,h⟩:=aZ j λ_=>d;obtain⟨w,l,p⟩:=aY u λ_=>d;obtain⟨y,r,n⟩:=e_ he λ_=>d;exact⟨_,Mq (Gb N fr m f (V2 q) (λa c s H L=>o ⟨a,c,s,H,L⟩) (λa c s H L=>l ⟨a,c,s,H,L⟩) (λa c s H L=>r ⟨a,c,s,H,L⟩) v),EO e t h p n⟩
def Mr:List V->Hp->VK->Prop:=λb H Q=>∃(p:Addr)(a:SH),b=[.ref p]/\Rd H p (.dK a)/\∀l,H l=none->Q (.ref l) (upd H l (.dK a))
def sH:Qb X (.type "dict") Mr:=by intro a s i H j f Q I r h;obtain⟨p,m,rfl,d,q⟩:=h;obtain⟨u,rfl,c⟩:=vals1 r;cases c;exact Cb I d λl g e b=>⟨.ref l,_,b,rfl,q l e⟩
end L2
namespace L2
open PySem
def Pg{c:Type}{P:List c->Prop}{us:List c}(d:us.length=1)(h:∀a,P [a]):P us:=by rcases us with _|⟨a,_|⟨b,us⟩⟩<;>first|exact h _|cases d
def Ph{d:Type}{P:List d->Prop}{us:List d}(e:us.length=2)(h:∀a b,P [a,b]):P us:=by rcases us with _|⟨a,_|⟨b,_|⟨c,us⟩⟩⟩<;>first|exact h _ _|cases e
def Pj{e:Type}{P:List e->Prop}{us:List e}(f:us.length=3)(h:∀a b c,P [a,b,c]):P us:=by rcases us with _|⟨a,_|⟨b,_|⟨c,_|⟨d,us⟩⟩⟩⟩<;>first|exact h _ _ _|cases f
def Pk{f:Type}{P:List f->Prop}{us:List f}(g:us.length=4)(h:∀a b c d,P [a,b,c,d]):P us:=by rcases us with _|⟨a,_|⟨b,_|⟨c,_|⟨d,_|⟨e,us⟩⟩⟩⟩⟩<;>first|exact h _ _ _ _|cases g
def Pl{g:Type}{P:List g->Prop}{us:List g}(i:us.length=5)(h:∀a b c d e,P [a,b,c,d,e]):P us:=by rcases us with _|⟨a,_|⟨b,_|⟨c,_|⟨d,_|⟨e,_|⟨f,us⟩⟩⟩⟩⟩⟩<;>first|exact h _ _ _ _ _|cases i
def ij(z:CXe P w outer H s (λ_ _ _=>False) v s'):False:=by obtain⟨_,_,_,_,_,_,_,_,_,_,_,_,_,_,_,_,_,_,q⟩:=z;exact q
def okb{b c:Type}{a:b}{f:b->Out c}:(Out.ok a).bind f=f a:=rfl
section
variable {α σ:Type}{g:MG}{b:MS}{c:MT}{e:ME}{ρ ρ':Sto}{s t:MS}{m:ME}{x:PV}{mi:MI}{o:Out Fw}{i:Nat}
def zd(h:∃ρ',s ρ=.ok (.nx ρ')/\t ρ'=o):zD s t ρ=o:=let⟨_,a,b⟩:=h;(GA a).trans b
def UR{fr:SW}{xs:SX}(h:mi ρ=.ok xs)(a:lcP g c e xs (Ka ρ fr) []=.ok x):mLC mi fr g c e ρ=.ok x:=by unfold mLC;rw[h,kc,a]
def z8(h:m ρ=.ok x):yo i m ρ=.ok (.nx (ρ.set i (some x))):=by unfold yo;rw[h,kc]
def qX(h:mi ρ=.ok xs)(a:Qm g b xs ρ=o):wK mi g b ρ=o:=by unfold wK;rw[h,kc,a]
def CG{n:Nat}(h:n<=1000000):sD [.i (n:Int)]=.ok (mY 0 n):=by unfold sD;exact(if_pos ⟨by omega,by omega⟩).trans (by rw[a07])
def ER(h:ms ρ=.ok [.i (n:Int)])(a:n<=1000000):VU ms ρ=.ok (mY 0 n):=by unfold VU;rw[h,kc,CG a]
def a_(h:ms ρ=.ok [.i n])(a:0<=n)(d:n<=1000000):VU ms ρ=.ok (mY 0 n.toNat):=ER (by grind) (by omega)
def yx(h:m ρ=.ok (.l xs)):yi m ρ=.ok xs:=by unfold yi;rw[h];rfl
def CH:mY 0 n=(List.range n).map λk=>PV.i ((k:Nat):Int):=by exact a1c λk _=>by congr 1;omega
theorem Qp(n:α->PV)(J:σ->Sto->Prop)(N:σ->α->σ->Prop):∀(j:List α)(u:σ)(ρ:Sto),J u ρ->(∀x∈j,∀u ρ,J u ρ->∃d,g (n x) ρ=some d/\∃f a,N u x f/\J f a/\(b d=.ok (.nx a)\/b d=.ok (.ct a)))->∃f ρ',J f ρ'/\Qm g b (j.map n) ρ=.ok (.nx ρ')
 |[],u,ρ,h,_=>⟨u,ρ,h,rfl⟩
 |x::j,u,ρ,h,q=>by obtain⟨d,B,f,a,_,A,l⟩:=q x u8 u ρ h;obtain⟨v,p,r,z⟩:=Qp n J N j f a A λy w=>q y (S0 _ w);refine⟨v,p,r,?_⟩;rw[T6,ib,B,VZ,kc];rcases l with l|l<;>(rw[l];exact z)
theorem pA(l:α->PV)(J:Nat->Sto->Prop):∀(f:List α)(j:Nat)(ρ:Sto),J j ρ->(∀(k:Nat)(h:k<f.length)(ρ:Sto),J (j+k) ρ->∃a,g (l f[k]) ρ=some a/\∃d,J (j+k+1) d/\(b a=.ok (.nx d)\/b a=.ok (.ct d)))->∃ρ',J (j+f.length) ρ'/\Qm g b (f.map l) ρ=.ok (.nx ρ')
 |[],j,ρ,h,_=>⟨ρ,h,rfl⟩
 |x::f,j,ρ,h,r=>by
  obtain⟨a,z,d,w,n⟩:=r 0 (a2U _) ρ h;obtain⟨p,u,v⟩:=pA l J f (j+1) d w λk y ρ q=>by have:=r (k+1) (a2V y) ρ (by grind);rw[show j+(k+1)+1=j+1+k+1 by omega]at this;exact this
  refine⟨p,by rw[v4,show j+(f.length+1)=j+1+f.length by omega];exact u,?_⟩;rw[T6,ib,show g (l x) ρ=some a from z,VZ,kc];rcases n with n|n<;>(rw[n];exact v)
def GP(f:α->PV)(J:Nat->Sto->Prop)(xs:List α)(ρ:Sto)(h:J 0 ρ)(l:∀(k:Nat)(h:k<xs.length)(ρ:Sto),J k ρ->∃a,g (f xs[k]) ρ=some a/\∃d,J (k+1) d/\(b a=.ok (.nx d)\/b a=.ok (.ct d))):∃ρ',J xs.length ρ'/\Qm g b (xs.map f) ρ=.ok (.nx ρ'):=by
 have:=pA f J xs 0 ρ h λk n ρ j=>by have:=l k n ρ (by grind);rwa [a3M]
 rwa [a3M]at this
def V4(J:Nat->Sto->Prop)(n:Nat)(ρ:Sto)(h:J 0 ρ)(j:∀(k:Nat),k<n->∀(ρ:Sto),J k ρ->∃a,g (.i (k:Int)) ρ=some a/\∃d,J (k+1) d/\(b a=.ok (.nx d)\/b a=.ok (.ct d))):∃ρ',J n ρ'/\Qm g b (mY 0 n) ρ=.ok (.nx ρ'):=by
 have:=GP (λk:Nat=>PV.i k) J (List.range n) ρ h λk l ρ f=>by rw[a1l];exact j k (by grind) ρ f
 rwa [a0x,<- CH]at this
end
end L2
namespace L2
open PySem PySem.Spec PyProof.Rows PySem.W
section
variable {prog:SV}{w:S_}{A:Tf}{E:Sz}{h:Heap}{g:Array GenState}{d:Drawn}{t:Nat}{os:OsState}{a:Addr}{its:Tu}{n:Nat}{sl:Tt}
def ik:typeLookup (.type "list") "keys"=pure none:=by kernel_rfl
def ba:typeLookup (.type "list") "__getattr__"=pure none:=by rw[a1O,a1o];kernel_rfl
def xF:isSubtype (.type "AttributeError") (.type "AttributeError")=pure true:=by kernel_rfl
def GQ(he:h.get? e=some ⟨.type "AttributeError",none,.fields #[T,.none,.none,.none,.bool false,X,rawInt 0,rawInt 0],#[]⟩)
  (j:∀c,(∀b o,b≠e->h.get? b=some o->c.get? b=some o)->(∃f,c.get? e=some f/\f.cls=.type "AttributeError")->Q () ⟨c,g,d,t,os⟩):
  wpAny (model prog w) A (noteAttr (.ref e) o name) Q E ⟨h,g,d,t,os⟩:=by
 have i:(⟨h,g,d,t,os⟩:Shared).TypeIs (.ref e) "AttributeError":=⟨_,he,rfl⟩;refine t0 ?_;refine t0 (a1J i xF ?_);refine t0 (a3q he ?_);dsimp only;refine S8 ?_;refine t0 (a3w ?_);refine t0 (a1H i ?_);refine t0 (a3q he ?_);refine wpAny_update he ?_;refine j _ (λb o l m=>(a0w _ _ (Ne.symm l)).trans m) ⟨_,a00 _ he rfl,rfl⟩
def sI(hh:A.handled=none)(hx:h.get? a=some ⟨.type "list",none,.seq its n,sl⟩)
  (hE:∀h' tk e,(∀b o,h.get? b=some o->h'.get? b=some o)->(∃oe,h'.get? e=some oe/\oe.cls=.type "AttributeError")->E (.ref e) ⟨h',g,d,tk,os⟩):
  wpAny (model prog w) A (Builtin.«object.__getattribute__» ⟨[.ref a,.str "keys" tk],[]⟩) Q E ⟨h,g,d,t,os⟩:=by
 have hT:(⟨h,g,d,t,os⟩:Shared).TypeIs (.ref a) "list":=⟨_,hx,rfl⟩;have f4:=ik
 repeat(any_goals(first|assumption|wp_step))
 unfold raiseAttrError;refine t0 (wpAny_mkStr (t0 ?_) (by decide +kernel));unfold newExc newTuple;refine t0 (a1T ?_);refine t0 (m:=firstArgMember _ _) (a3e (a:=Value.none) (by simp only[firstArgMember];kernel_rfl) ?_);refine a1T ?_;refine t0 (a3L (t0 ?_));refine GQ (a0k _ rfl) λh' hk he=>?_;unfold raiseNew;refine t0 (wpAny_handled ?_);rw[hh]
 first
  |refine a3S ?_
  |refine t0 (S8 (a3S ?_))
 exact hE _ _ _ (λb o e=>hk b o (a0g (a0c (S9 e) (by simp))) (S6 _ (S6 _ e))) he
def xG(m:A.handled=none)(f:h.get? a=some ⟨.type "list",none,.seq its n,sl⟩)
  (l:∀c j e,(∀b o,h.get? b=some o->c.get? b=some o)->(∃i,c.get? e=some i/\i.cls=.type "AttributeError")->R (.error (.ref e)) ⟨c,g,d,j,os⟩):
  codeAny (model prog w) A (.call (.builtin "list.__getattribute__") ⟨[.ref a,.str "keys" j],[]⟩) R ⟨h,g,d,t,os⟩:=
 a2d F.slot_list_getattribute.plain F.entry_list_ga (F.slot_list_getattribute.check _ _ _ _ _ _ _ _ (show(⟨h,g,d,t,os⟩:Shared).TypeIs (.ref a) "list" from⟨_,f,rfl⟩) (F.args_list_getattribute_2 _ _) (sI m f l))
def GR(p:A.handled=none)(l:h.get? a=some ⟨.type "list",none,.seq its n,sl⟩)(m:∀c i,(∀b o,h.get? b=some o->c.get? b=some o)->Q none ⟨c,g,d,i,os⟩):
  wpAny (model prog w) A (getAttr? (.ref a) "keys") Q E ⟨h,g,d,t,os⟩:=by
 have v:∀t,(⟨h,g,d,t,os⟩:Shared).TypeIs (.ref a) "list":=λt=>⟨_,l,rfl⟩;have s:=F.slot_list_getattribute.lookup;have q:=F.slot_list_getattribute.bind (.ref a);refine t0 (a3L ?_);refine t0 (a1X ?_);refine a05 ?_;refine t0 (a1H (v _) ?_);refine t0 (a3e s ?_);dsimp only;unfold getAttrByItsOwn hookBefore;refine t0 (S8 ?_);refine t0 (a1X ?_);refine a05 ?_;unfold callGetattribute;refine t0 (a3e q ?_);refine a1I (xG p l λc i e u j=>?_);obtain⟨x,j,r⟩:=j;have f:(⟨c,g,d,i,os⟩:Shared).TypeIs (.ref e) "AttributeError":=⟨_,j,r⟩;refine t0 (a1J f xF ?_);rw[if_pos rfl];unfold hookBehind;refine t0 (a3e ba ?_);unfold hookOrError attributeErrorLeaves;refine t0 (a3S ?_);refine t0 (a1J f xF ?_);exact S8 (m c i u)
end
def Kl:entryFor table "dict.update.loop"=some Builtin.«dict.update.loop»:=entryFor_of_tree (by kernel_rfl)
def ky:plainId "dict.update.loop"=true:=by decide +kernel
section
variable {prog:SV}{w:S_}{A:Tf}{R:Result->Shared->Prop}{I:Addr}{fp wr:To}{G:Array GenState->Array GenState->Prop}{n:Nat}{P:Nat->Value->Prop}{St:Nat->Shared->Prop}{K:Type}[DecidableEq K] {knd:KeyKind prog w K}
def TupAt(h:Heap)(a:Addr)(k v:Value):Prop:=∃o m,h.get? a=some o/\o.cls=.type "tuple"/\o.data=.seq #[k,v] m
def BR(key:Nat->K)(val:TZ):Nat->List (K×Value)
 |0=>[]
 |i+1=>stored (BR key val i) (key i) (val i)
theorem ff(key:Nat->K)(val:TZ):∀i,(BR key val i).length<=i
 |0=>S5 _
 |i+1=>by
  have:=ff key val i;unfold BR stored;split
  .rw[f8];omega
  .rw[S4];show _+1<=_;omega
def CJ(W:WalksS prog w A.in1 I fp wr G n P St)(D:Addr)(p:D∉fp)(key:Nat->K)(kv val:TZ)(ad:SJ)(hP:∀i v,P i v->v=.ref (ad i))(hk:∀i,i<n->knd.is (key i) (kv i)=true)(hw:∀i,i<n->ad i∉D::wr)(hn:n<=sizeLine):
  ∀(k i:Nat)(H:Tok)(s:SE),n-i=k->i<=n->St i s->(∀j,j<n->TupAt s.heap (ad j) (kv j) (val j))->s.heap.DictOf knd D (BR key val i)->
   (∀a,Moved (D::wr) G s a->a.heap.DictOf knd D (BR key val n)->R (.ok (.ret .none)) a)->
   codeAny (model prog w) A (.builtin "dict.update.loop" ⟨[.ref D,.ref I,.int (i:Int) H,.none],[]⟩) R s:=by
 have z:=λh=>p (W.sub _ h);have d:∀b∈wr,b∈D::wr:=λb y=>S0 _ y;have r:∀{s a:SE},Moved (D::wr) G s a->(∀j,j<n->TupAt s.heap (ad j) (kv j) (val j))->∀j,j<n->TupAt a.heap (ad j) (kv j) (val j):=λg h j hj=>by obtain⟨o,m,C,Q,h3⟩:=h j hj;exact⟨o,m,g.heap _ _ (hw j hj) C,Q,h3⟩
 intro k
 induction k with
 |zero=>
  intro i H s E hi f Y hD N;have Z:i=n:=by omega
  subst Z;refine codeAny_builtin Kl ?_;refine t0 (W.done s _ _ f λa g=>?_);refine t0 ?_;refine S8 ?_;exact S8 (N a (g.mono d) (by
   obtain⟨o,S,O,U,rest⟩:=hD;exact⟨o,S,O,g.heap D _ z U,rest⟩))
 |succ k ih=>
  intro i H s E hi f Y hD N;have c:i<n:=by omega
  refine codeAny_builtin Kl ?_;refine t0 (W.item i s _ _ c f λv a F x g=>?_);cases hP i v F;have u:=g.mono d;have L:=r u Y;obtain⟨o,m,C,Q,h3⟩:=L i c;have M:a.heap.DictOf knd D (BR key val i):=by obtain⟨o,S,O,U,rest⟩:=hD;exact⟨o,S,O,g.heap D _ z U,rest⟩
  have hT:a.TypeIs (.ref (ad i)) "tuple":=⟨o,C,Q⟩;refine t0 (a05 (t0 (wpAny_tryCatch ?_)));refine t0 (a1H hT ?_);refine t0 (t0 (a3q C ?_));rw[h3];refine S8 (S8 ?_);refine a05 (wpAny_dictSet_pairs (hsz:=T9 (ff key val i) (T9 hi hn)) (hk i c) M λh' X q=>?_);have e1:(i+1)=((i+1:Nat):Int):=by omega
  have t:Moved (D::wr) G s { a with heap:=h',toks:=a.toks+1 }:=u.then_heap (a1s _) λb o y e=>by rw[q.2 b (λh:b=D=>y (by grind))];exact e
  refine S8 ⟨a2u ky _,?_⟩;refine ih (i+1) 0 _ (by omega) c (W.frame _ a _ _ x (a1s _) λb y o e=>?_) (r t Y) X λJ B l=>N J (Moved.trans W.gtrans t B) l;rw[q.2 b (λh:b=D=>p (by grind))];exact e
end
section
variable {prog:SV}{w:S_}{A:Tf}{E:Sz}{s:SE}{K:Type}[DecidableEq K] {knd:KeyKind prog w K}
def fg{l:Addr}{items:Tu}{m:Nat}{sl:Tt}{Q:Sz}{key:Nat->K}{kv val:TZ}{ad:SJ}(hh:A.handled=none)(hl:s.heap.get? l=some ⟨.type "list",none,.seq items m,sl⟩)
  (hP:∀i,i<items.size->items[i]?=some (.ref (ad i))) (ht:∀i,i<items.size->TupAt s.heap (ad i) (kv i) (val i)) (hk:∀i,i<items.size->knd.is (key i) (kv i)=true) (hn:items.size<=sizeLine)
  (h:∀h' tk,(∀b o,s.heap.get? b=some o->h'.get? b=some o)->h'.DictOf knd s.heap.objs.size (BR key val items.size)->Q (.ref s.heap.objs.size) { s with heap:=h',toks:=tk }):
  wpAny (model prog w) A (call (.type "dict") [.ref l]) Q E s:=by
 refine a3j (Q₁:=λobj s₁=>obj=.ref s.heap.objs.size/\s₁={ s with heap:=s.heap.push { cls:=.type "dict",data:=.dict #[] } }) F.kt_called_dict (F.kt_typeCall_dict_1 _) F.entry_dict_init (kt_code_dict_new _ ⟨rfl,rfl⟩) ?_
 rintro obj s₁ ⟨rfl,rfl⟩
 have hnew:(s.heap.push { cls:=.type "dict",data:=.dict #[] }).DictOf knd s.heap.objs.size []:=Heap.DictOf.new s.heap;have hl':(s.heap.push { cls:=.type "dict",data:=.dict #[] }).get? l=some ⟨.type "list",none,.seq items m,sl⟩:=S6 _ hl;refine⟨hnew.typeIs,F.args_dict_init_2 _ _,?_⟩;unfold Builtin.«dict.__init__»;refine t0 ?_;unfold Builtin.Dict.selfAndRest;refine t0 (wpAny_notOrdered_dict hnew.typeIs ?_);show wpAny _ _ (pure (s.heap.objs.size,[Value.ref l])) _ _ _;refine S8 ?_;show wpAny _ _ (Builtin.Dict.updateFrom "dict.__init__" s.heap.objs.size (.ref l) [] .none) _ _ _;unfold Builtin.Dict.updateFrom;refine t0 (a1H (T:="list") ⟨_,hl',rfl⟩ ?_);rw[if_pos (by decide)];refine t0 ?_;refine GR hh hl' λh1 t1 k1=>?_;rw[if_pos (show(none:Option Value).isNone=true from rfl)];refine t0 (a3w ?_);have hl1:h1.get? l=some ⟨.type "list",none,.seq items m,sl⟩:=k1 _ _ hl';have hil:h1.IsList l items:=⟨_,hl1,rfl,m,rfl⟩;refine t0 (wpAny_pyIter_list hil ?_);have D1:h1.DictOf knd s.heap.objs.size []:=by obtain⟨o,es,ep,ho,rest⟩:=hnew;exact⟨o,es,ep,k1 _ _ ho,rest⟩
 have ls:l<s.heap.objs.size:=S9 hl;have l1:l<h1.objs.size:=S9 hl1;have ds:s.heap.objs.size<h1.objs.size:=by obtain⟨o,_,_,ho,_⟩:=D1;exact S9 ho
 have hne:l≠h1.objs.size:=a0g l1;have kp:∀b o,h1.get? b=some o->(h1.push { cls:=.type "list_iterator",data:=.fields #[.ref l,.int 0 0] }).get? b=some o:=λb o e=>S6 _ e;have tl:∀j,j<items.size->ad j<s.heap.objs.size:=λj hj=>by obtain⟨o,_,h1,_⟩:=ht j hj;exact S9 h1
 refine S8 ⟨a2u ky _,CJ (knd:=knd) (Walks.list (A:=A.in1.in1) hh h1.objs.size l hne items).toS s.heap.objs.size (by simp;exact⟨a0g ds,a1g ls⟩) key kv val ad (λi v hv=>?_) hk (λi hi=>?_) hn items.size 0 0 _ (by omega) (a0y _) ⟨⟨_,a0k _ rfl,rfl,rfl⟩,?_⟩ (λj hj=>?_) ?_ λs' hm hD=>?_⟩
 .have hi:i<items.size:=by
   by_cases c:i<items.size
   .exact c
   .rw[a3c (by omega)]at hv;cases hv
  rw[hP i hi]at hv;cases hv;rfl
 .have:=tl i hi;intro hm;rcases T1.mp hm with e|hm
  .exact a0g this e
  .exact a0g (a2c this ds) (T2.mp hm)
 .exact⟨_,kp _ _ hl1,rfl,m,rfl⟩
 .obtain⟨o,q,e1,e2,e3⟩:=ht j hj;exact⟨o,q,kp _ _ (k1 _ _ (S6 _ e1)),e2,e3⟩
 .obtain⟨o,es,ep,ho,rest⟩:=D1;exact⟨o,es,ep,kp _ _ ho,rest⟩
 .rw[a3B hm];refine⟨rfl,h s'.heap s'.toks (λb o e=>hm.heap b o (λhmem=>?_) (kp _ _ (k1 _ _ (S6 _ e)))) hD⟩;have:=S9 e;rcases T1.mp hmem with e'|hm
  .exact a0g this e'
  .exact a0g (a2c this ds) (T2.mp hm)
end
section
variable {X:Cx}
def fh(K:Tj)(H:Hp):List V->List (Key×V)->Prop
 |[],b=>b=[]
 |x::c,b=>∃a k v r,x=.ref a/\b=(k,v)::r/\SqT K H a [kV k,v]/\fh K H c r
def xH(es:SH):List (Key×V):=es.foldl (λa b=>putK a b.1 b.2) []
def ES(K:Tj):List V->Hp->VK->Prop:=λc H Q=>∃(p:Addr)(a:SR)(b:SH),c=[.ref p]/\SqL K H p a/\fh K H a b/\∀l,H l=none->Q (.ref l) (upd H l (.dK (xH b)))
theorem pB{pins:Sw}{σ:St}{H:Hp}{s:SE}(I:Inv X pins σ H s):∀{g:SR}{d:SH}{b:SO},fh X.K H g d->Vals g b->∃c:List (Addr×Value×Value),b=c.map (λp=>Value.ref p.1)/\c.length=d.length/\(∀p∈c,TupAt s.heap p.1 p.2.1 p.2.2)/\∀(i:Nat) p e,c[i]?=some p->d[i]?=some e->RelV (kV e.1) p.2.1/\RelV e.2 p.2.2
 |[],_,b,h,r=>by cases h;cases r;exact⟨[],rfl,rfl,(λ_ h=>by cases h),λ_ _ _ h=>by cases h⟩
 |x::g,_,b,h,r=>by
  obtain⟨a,k,v,d,rfl,rfl,B,u⟩:=h;cases r with
  |cons D r=>
   cases D;obtain⟨c,F,n,w,q⟩:=pB I u r;obtain⟨G,y,⟨o,A,t,m,E⟩,_⟩:=I.tuple B;obtain⟨C,j,rfl,l,z⟩:=vals2 y;refine⟨(a,C,j)::c,by rw[F];rfl,by rw[v4,v4,n],λp hp=>?_,λi p e hp f=>?_⟩
   .rcases T1.mp hp with rfl|hp
    .exact⟨o,m,A,t,E⟩
    .exact w p hp
   .cases i with
    |zero=>cases hp;cases f;exact⟨l,z⟩
    |succ i=>exact q i p e hp f
theorem xI{es:SH}{key:Nat->Key}{val:TZ}:∀n,n<=es.length->(∀i e,i<n->es[i]?=some e->key i=e.1/\RelV e.2 (val i))->KV ((es.take n).foldl (λb c=>putK b c.1 c.2) []) (BR key val n)
 |0,_,_=>.nil
 |n+1,j,h=>by have a:=j;have d:=T7 a;rw[List.take_succ,d,List.foldl_append];obtain⟨m,f⟩:=h n _ (a0T n) d;show KV (putK _ _ _) (stored (BR key val n) (key n) (val n));rw[m];exact(xI n (a19 a) λi e g l=>h i e (a1E g) l).put _ f
def sJ(R:X.calm=true):Qb X (.type "dict") (ES X.K):=by
 intro J s Z H P Y Q I r h;obtain⟨p,P,b,rfl,W,hp,q⟩:=h;obtain⟨u,rfl,T⟩:=vals1 r;cases T;obtain⟨t,A,⟨o,m,U,F,L,C⟩,hz⟩:=I.list W;obtain⟨g,M,D,S,E⟩:=pB I hp A;have d:t.length=b.length:=by rw[M,f8,D]
 have y:∀i,i<b.length->∃a,g[i]?=some a/\b[i]?=some (b.getD i (.inl 0,.non))/\g.getD i (0,.none,.none)=a:=λi c=>by
  have w:i<g.length:=by rw[D];exact c
  refine⟨g[i],T7 w,by rw[a1d,T7 c];rfl,by rw[a1d,T7 w];rfl⟩
 have f:t.toArray.size=b.length:=by simpa using d
 obtain⟨cls,G,K,B⟩:=o;subst F L C;refine fg (knd:=yB X.prog X.w) (key:=λi=>(b.getD i (.inl 0,.non)).1) (kv:=λi=>(g.getD i (0,.none,.none)).2.1) (val:=λi=>(g.getD i (0,.none,.none)).2.2) (ad:=λi=>(g.getD i (0,.none,.none)).1) (I.ok.hd R) U (λi c=>?_) (λi c=>?_) (λi c=>?_) ?_ λh' N O hD=>?_
 .rw[f]at c;obtain⟨a,l,_,j⟩:=y i c;simp[M,l]
 .rw[f]at c;obtain⟨a,l,_,j⟩:=y i c;rw[j];exact S a (a0Q l)
 .rw[f]at c;obtain⟨a,l,x,j⟩:=y i c;rw[j];exact gR (E i a _ l x).1
 .rw[f,<- d,<- A.length];exact hz
 .rw[f]at hD;have v:KV (xH b) (BR (λi=>(b.getD i (.inl 0,.non)).1) (λi=>(g.getD i (0,.none,.none)).2.2) b.length):=by
   have:=xI (key:=λi=>(b.getD i (.inl 0,.non)).1) (val:=λi=>(g.getD i (0,.none,.none)).2.2) b.length (S5 _) λi e c x=>?_
   .rwa [List.take_length]at this
   .obtain⟨a,l,n,j⟩:=y i c;rw[x]at n;cases n;rw[j];exact⟨by rw[a1d,x],(E i a _ l x).2⟩
  have z:=I.hok.fresh (S5 s.heap.objs.size);refine⟨.ref s.heap.objs.size,_,I.laid O (S5 _) (oR ?_ (a0N.mpr (Ne.symm (a0g I.big))) v hD),rfl,q _ z⟩;rw[v.length];refine T9 (ff _ _ _) ?_;rw[<- d,<- A.length];exact hz
end
def mz:List PV->Option (List (Key×PV))
 |[]=>some []
 |.t [k,v]::a=>(pk k).bind λq=>(mz a).map ((q,v)::·)
 |_=>none
def ZT(es:SY):List (Key×PV):=es.foldl (λa b=>dput a b.1 b.2) []
def jD:List PV->Out PV
 |[.d a]=>.ok (.d a)
 |[.l a]=>k7 ((mz a).map λb=>.d (ZT b))
 |_=>.wall
section
variable {W:RC}{M:SD}{H:Hp}
theorem xJ:∀{c:SX}{f:SR}{d:SY},zU W M H c f->mz c=some d->∃ev,fh W.K H f ev/\qY W M H d ev
 |[],_,_,h,e=>by cases e;cases h;exact⟨[],rfl,rfl⟩
 |x::c,_,d,h,e=>by
  obtain⟨v,r,rfl,n,i⟩:=h;unfold mz at e;split at e
  .cases ‹_::_=[]›
  .rename_i k y A a;cases a;obtain⟨q,j,e⟩:=a0l.mp e;obtain⟨t,hz,rfl⟩:=v0.mp e;obtain⟨ev,s,m⟩:=xJ i hz;obtain⟨p,u,rfl,hp,B,w,rfl,g,b,z,rfl,o,l⟩:=n;cases l;cases eU (yK.iff.mpr g) j;exact⟨(q,b)::ev,⟨p,q,b,ev,rfl,rfl,hp,s⟩,⟨b,ev,rfl,o,m⟩⟩
  .cases e
theorem dE:∀{es:SY}{ev:SH}{a:SY}{av:SH},qY W M H a av->qY W M H es ev->qY W M H (es.foldl (λacc kv=>dput acc kv.1 kv.2) a) (ev.foldl (λacc kv=>putK acc kv.1 kv.2) av)
 |[],_,_,_,h,e=>by cases e;exact h
 |kx::es,_,a,av,h,⟨v,q,e,h1,h2⟩=>by subst e;rw[a08,a08];exact dE (h.put h1) h2
def CK:LfF W (λc H Q=>Mr c H Q\/ES W.K c H Q) jD:=λM C B H m c Q n h q=>by
 unfold jD at q;split at q
 .obtain⟨v,r,rfl,⟨p,f,rfl,_,a,b⟩,d⟩:=h;cases d;exact .inl ⟨p,f,rfl,a,λl a=>q _ _ (zr.upd a) (Gn b a)⟩
 .obtain⟨z,e,q⟩:=jg q;obtain⟨f,j,rfl⟩:=v0.mp e;obtain⟨v,r,rfl,⟨p,ws,rfl,_,a,b⟩,d⟩:=h;cases d;obtain⟨ev,i,g⟩:=xJ b j;exact .inr ⟨p,ws,ev,rfl,SqL.of a,i,λl a=>q _ _ (zr.upd a) (Gn (dE rfl g) a)⟩
 .exact q.elim
end
def JM(d:X.calm=true)(c:Gl X "dict")(b:X.mg "dict"=none)(f:AM X C S ws [e] ms)(he:starEach [e] X.env=[(false,eval e X.env)]:=by rfl):FM X C S (.Call (.Name "dict" p) [e] [] pos) (zj jD ms):=
 pd (λa=>a▸sH.or (sJ d)) CK c b PyProof.Rows.boot_dict f (he:=he)
section
variable {prog:SV}{w:S_}{A:Tf}{E:Sz}{s:SE}
def len_dict:typeLookup (.type "dict") "__len__"=pure (some (.builtin "dict.__len__")):=by rw[a1O];kernel_rfl
def GS(a:s.TypeIs (.ref d) "dict")(h:Q false s):wpAny (model prog w) A (Builtin.List.listLengthHint (.ref d)) Q E s:=by
 refine t0 (a2f a len_dict ?_);generalize hid:("dict.__len__":String)=id0
 (fail_if_success (clear hid id0));wp_delta
 rw[show splitId id0=some ("dict","__len__")from by subst hid;decide +kernel];refine t0 (a1J (b:=true) a rfl ?_);subst hid;rw[if_neg (by decide)];refine t0 (a1H a ?_);exact S8 h
variable {K:Type}[DecidableEq K] {knd:KeyKind prog w K}
def GU{Q:Sz}{d:Addr}{kvs:List (K×Value)}{ep:Nat}(Z:A.handled=none)(hd:(d==sysModules)=false)(hm:s.heap.DictAt knd d kvs ep)(hn:kvs.length<=sizeLine)
  (Y:∀I X c M,(∀b o,s.heap.get? b=some o->I.get? b=some o)->I.get? s.heap.objs.size=some { cls:=.type "list",dict:=none,data:=.seq c M,slots:=#[] }->ItemsOf (λi v=>∃k x,kvs[i]?=some (k,x)/\knd.is k v=true) c kvs.length->Q (.ref s.heap.objs.size) { s with heap:=I,toks:=X }):
  wpAny (model prog w) A (call (.type "list") [.ref d]) Q E s:=by
 have R:d<s.heap.objs.size:=by obtain⟨o,_,ho,_⟩:=hm;exact S9 ho
 refine a3j (Q₁:=λn g=>n=.ref s.heap.objs.size/\g={ s with heap:=s.heap.push { cls:=.type "list",data:=.seq #[] } }) a3D (a22 _) a23
  (code_list_new _ ⟨rfl,rfl⟩) λn g r=>?_
 obtain⟨rfl,rfl⟩:=r;have H:(s.heap.push { cls:=.type "list",data:=.seq #[] }).get? s.heap.objs.size=some { cls:=.type "list",data:=.seq #[] }:=a0k _ rfl;refine⟨⟨_,H,rfl⟩,a2T _ _,?_⟩;refine t0 ?_;refine t0 (wpAny_seqItems H rfl (S8 ?_));refine t0 (a2h H rfl ?_);have a:=a00 (Obj.mapSeq (λ_=>(#[]:Array Value))) H rfl;refine t0 (a3R ?_);have L:∀b o,s.heap.get? b=some o->((s.heap.push { cls:=.type "list",data:=.seq #[] }).update s.heap.objs.size (Obj.mapSeq (λ_=>(#[]:Array Value)))).get? b=some o:=λb o e=>
  (a0w _ _ (a1g (S9 e))).trans (S6 _ e)
 generalize((s.heap.push { cls:=.type "list",data:=.seq #[] }).update s.heap.objs.size (Obj.mapSeq (λ_=>(#[]:Array Value))))=h2 at a L;have m:=hm.at' λo e=>L _ _ e;have C:∀{p:SE},p.heap.DictAt knd d kvs ep->p.TypeIs (.ref d) "dict":=λz=>z.dictOf.typeIs;refine t0 (a1H (C m) ?_);have f:=a1g R;have h1:Builtin.List.listSameRef (.ref s.heap.objs.size) (.ref d)=false:=by simp[Builtin.List.listSameRef,f]
 rw[if_neg (by grind)];refine t0 (wpAny_pyIter_dict hd m ?_);have j:∀b o,h2.get? b=some o->(h2.push { cls:=.type "dict_keyiterator",data:=.fields #[.ref d,.int 0 0,.int kvs.length 0,.int ep 0] }).get? b=some o:=λb o e=>S6 _ e;have l:=m.at' λo e=>j _ _ e;refine t0 (a05 (GS (C l) ?_));refine t0 (a3w ?_);have J:=S9 a;have W:=a0g (a2c R J);have h:=j _ _ a;have y:(h2.push { cls:=.type "dict_keyiterator",data:=.fields #[.ref d,.int 0 0,.int kvs.length 0,.int ep 0] }).get? h2.objs.size=some { cls:=.type "dict_keyiterator",data:=.fields #[.ref d,.int 0 0,.int kvs.length 0,.int ep 0] }:=a0k _ rfl;have S:=λb o e=>j _ _ (L b o e);generalize(h2.push { cls:=.type "dict_keyiterator",data:=.fields #[.ref d,.int 0 0,.int kvs.length 0,.int ep 0] })=h3 at h y S l;refine t0 (t0 (a2h h rfl ?_));have q:=a00 (Obj.mapSeq (λx:Array Value=>x.push Value.none)) h rfl;refine a2h q rfl ?_;have G:=a00 (Obj.mapSeq (λx:Array Value=>x.pop)) q rfl;have O:∀b o,b≠s.heap.objs.size->h3.get? b=some o->((h3.update s.heap.objs.size (Obj.mapSeq λx=>x.push Value.none)).update s.heap.objs.size (Obj.mapSeq λx=>x.pop)).get? b=some o:=λb o U e=>
  (a0w _ _ (Ne.symm U)).trans ((a0w _ _ (Ne.symm U)).trans e)
 have F:=l.at' λo e=>O _ _ (Ne.symm f) e;have D:=O _ _ (a1g J) y;have P:=λb o e=>O b o (a0g (S9 e)) (S b o e);generalize((h3.update s.heap.objs.size (Obj.mapSeq λx=>x.push Value.none)).update s.heap.objs.size (Obj.mapSeq λx=>x.pop))=h5 at G F D P;refine S8 ⟨a2u a2H _,a3v (Walks.dictKeys (A:=A.in1.in1) Z h2.objs.size d W kvs ep).toS hn s.heap.objs.size (by grind) _ kvs.length 0 _ _ _ rfl (a0y _) (show _/\_ from⟨⟨_,D,rfl,rfl⟩,F⟩) G (ItemsOf.nil _) λp c M t N u=>?_⟩;rw[a3B t];refine⟨rfl,Y p.heap p.toks c M (λb o e=>t.heap b o (λB=>?_) (P b o e)) N u⟩;have:=S9 e;rcases T1.mp B with e'|hm
 .exact a0g this e'
 .exact a0g (a2c this J) (T2.mp hm)
end
section
variable {X:Cx}
def ET:List V->Hp->VK->Prop:=λc H Q=>∃p a,c=[.ref p]/\Rd H p (.dK a)/\∀l,H l=none->Q (.ref l) (upd H l (.lst (a.map λb=>kV b.1)))
def sL(F:X.calm=true):Qb X (.type "list") ET:=by
 intro i s U H W T Q I r h;obtain⟨p,G,rfl,P,q⟩:=h;obtain⟨u,rfl,L⟩:=vals1 r;cases L;obtain⟨z,M,f,a,o,N,g,S,B,K,E,D,R⟩:=Vk I.hok P;have n:f.length=G.length:=a.length.symm;refine GU (I.ok.hd F) M ⟨o,N,S,B,K,E,D,R⟩ (by omega) λh' d c Y w C e=>?_;refine pw I (S5 _) w C ?_ ?_ ?_ q
 .rw[f8];exact z
 .rw[f8,e.1,n]
 .intro j x v l O;obtain⟨k,y,b,J⟩:=e.2 j v O;rw[a0e]at l;obtain⟨m,A,rfl⟩:=v0.mp l;obtain⟨Z,t⟩:=EI a A;rw[t]at b;cases b;exact ic J
end
def vT:List PV->Out PV
 |[.l a]=>.ok (.l a)
 |[.t a]=>.ok (.l a)
 |[.sc a]=>.ok (.l (a.map PV.i))
 |[.d b]=>.ok (.l (b.map λc=>kP c.1))
 |_=>.wall
theorem pC{W:RC}{M:SD}{H:Hp}:∀{a:SY}{c:SH},qY W M H a c->zU W M H (a.map λb=>kP b.1) (c.map λd=>kV d.1)
 |[],_,h=>by cases(show _=_ from h);rfl
 |b::r,_,⟨v,q,e,g,f⟩=>by subst e;exact⟨_,_,rfl,EL _,pC f⟩
def CM(L:LfF W r Ct):LfF W (λa H Q=>r a H Q\/ET a H Q) vT:=λM C B H f a Q n h q=>by
 unfold vT at q;split at q
 .exact .inl (L M C B H _ a Q n h q)
 .exact .inl (L M C B H _ a Q n h q)
 .exact .inl (L M C B H _ a Q n h q)
 .obtain⟨v,r,rfl,⟨p,d,rfl,_,b,c⟩,e⟩:=h;cases(show _=_ from e);exact .inr ⟨p,d,rfl,b,λl b=>q _ _ (zr.upd b) (VO (pC c) b)⟩
 .exact q.elim
def kA(d:X.calm=true)(c:Gl X "list")(b:X.mg "list"=none)(f:AM X C S ws [e] ms)(he:starEach [e] X.env=[(false,eval e X.env)]:=by rfl):FM X C S (.Call (.Name "list" p) [e] [] pos) (zj vT ms):=
 pd (λa=>a▸gQ.or (sL d)) (CM Gp) c b a3d f (he:=he)
inductive HV where
 |v (x:PV)|g (k:Nat)|t (xs:List HV)
inductive Cell where
 |l (xs:List HV)|d (kvs:List (Key×HV))|z (kvs:List (Key×HV))|o (c:Nat) (fs:List (Str×HV))|y (b:Bool)|m (l c:Nat) (q:Str)
abbrev AH:=List Cell
abbrev Qd:=List (Option HV)
structure HC where
 W:RC
 H0:Hp
 M0:Addr->Prop
def HM(Z:HC)(A:SJ)(n:Nat):Addr->Prop:=λa=>(Z.M0 a\/Z.H0 a=none)/\∀k,k<n->A k≠a
mutual
def kB(W:RC)(M:SD)(A:SJ)(n:Nat)(H:Hp):HV->V->Prop
 |.v x,v=>Rep W M H x v
 |.g k,v=>k<n/\v=.ref (A k)
 |.t b,v=>∃p a,v=.ref p/\SqT W.K H p a/\yy W M A n H b a
def yy(W:RC)(M:SD)(A:SJ)(n:Nat)(H:Hp):List HV->List V->Prop
 |[],a=>a=[]
 |x::b,a=>∃v r,a=v::r/\kB W M A n H x v/\yy W M A n H b r
end
def qw{c:Type}(R:HV->V->Prop):List (c×HV)->List (c×V)->Prop
 |[],a=>a=[]
 |b::r,a=>∃v q,a=(b.1,v)::q/\R b.2 v/\qw R r q
section
variable {W:RC}{M M':SD}{A A':SJ}{n n':Nat}{H H':Hp}
mutual
theorem kB.gen(f:Fr M H H')(s:∀a,M a->H a≠none->M' a)(c:n<=n')(b:∀k,k<n->A' k=A k):∀{x:HV}{v:V},kB W M A n H x v->kB W M' A' n' H' x v
 |.v x,v,h=>Rep.gen f s h
 |.g k,v,h=>⟨a0c h.1 c,by rw[b k h.1];exact h.2⟩
 |.t g,v,h=>by unfold kB at h ⊢;obtain⟨p,d,e,r,q⟩:=h;exact⟨p,d,e,f.sqT r,yy.gen f s c b q⟩
theorem yy.gen(f:Fr M H H')(s:∀a,M a->H a≠none->M' a)(c:n<=n')(b:∀k,k<n->A' k=A k):∀{x:List HV}{v:SR},yy W M A n H x v->yy W M' A' n' H' x v
 |[],v,h=>h
 |x::i,j,h=>by unfold yy at h ⊢;obtain⟨v,r,e,g,d⟩:=h;exact⟨v,r,e,kB.gen f s c b g,yy.gen f s c b d⟩
end
theorem qw.imp{f:Type}{R d:HV->V->Prop}(h:∀x v,R x v->d x v):∀{c:List (f×HV)}{g:List (f×V)},qw R c g->qw d c g
 |[],_,q=>q
 |_::_,_,⟨v,q,e,a,b⟩=>⟨v,q,e,h _ _ a,qw.imp h b⟩
def Mde(l c:Nat)(q:Str)(H:Hp)(d:Tu):Prop:=∃a b ws t,d = #[rawInt l,rawInt c,.ref a]/\H a=some (.frz b (.own a))/\b.data=.fields ws/\ws[1]?=some (.str q t)
def Mde.gen(f:Fr M H H'):Mde l c q H ps->Mde l c q H' ps:=λ⟨b,a,ws,t,e,h,r⟩=>⟨b,a,ws,t,e,f _ _ h (.inr trivial),r⟩
def dF(W:RC)(M:SD)(A:SJ)(n:Nat)(H:Hp)(p:Addr):Cell->Prop
 |.l g=>∃f,H p=some (.lst f)/\yy W M A n H g f
 |.d d=>∃a,H p=some (.dK a)/\qw (kB W M A n H) d a
 |.z d=>∃o a,H p=some (.frz o (.dK a))/\qw (kB W M A n H) d a
 |.o c fs=>∃h a,H p=some (.ins (W.cls c) h a)/\qw (kB W M A n H) fs a
 |.y b=>p=W.cls 1000/\∃e,H p=some (.tbl e)/\(b=true->e = #[])
 |.m l c q=>p=W.cls 1000/\∃e,H p=some (.tbl e)/\Mde l c q H e
def dF.gen{p:Addr}(hp:H' p=H p)(f:Fr M H H')(s:∀a,M a->H a≠none->M' a)(g:n<=n')(d:∀k,k<n->A' k=A k):∀{c:Cell},dF W M A n H p c->dF W M' A' n' H' p c
 |.l _,⟨j,e,q⟩=>⟨j,hp.trans e,q.gen f s g d⟩
 |.d _,⟨b,e,q⟩=>⟨b,hp.trans e,q.imp λ_ _=>kB.gen f s g d⟩
 |.z _,⟨o,b,e,q⟩=>⟨o,b,hp.trans e,q.imp λ_ _=>kB.gen f s g d⟩
 |.o _ _,⟨l,b,e,q⟩=>⟨l,b,hp.trans e,q.imp λ_ _=>kB.gen f s g d⟩
 |.y _,⟨h,i,e,q⟩=>⟨h,i,hp.trans e,q⟩
 |.m _ _ _,⟨h,i,e,q⟩=>⟨h,i,hp.trans e,q.gen f⟩
def dF.ob{p:Addr}:∀{c:Cell},dF W M A n H p c->∃o,H p=some o
 |.l _,⟨_,e,_⟩=>⟨_,e⟩
 |.d _,⟨_,e,_⟩=>⟨_,e⟩
 |.z _,⟨_,_,e,_⟩=>⟨_,e⟩
 |.o _ _,⟨_,_,e,_⟩=>⟨_,e⟩
 |.y _,⟨_,_,e,_⟩=>⟨_,e⟩
 |.m _ _ _,⟨_,_,e,_⟩=>⟨_,e⟩
end
structure Gro(Z:HC)(A:SJ)(n:Nat)(H:Hp)(A':SJ)(n':Nat)(H':Hp):Prop where
 le:n<=n'
 agr:∀k,k<n->A' k=A k
 fresh:∀k,n<=k->k<n'->H (A' k)=none
 fr:Fr (HM Z A n) H H'
 dom:∀a,H' a=none->H a=none
structure HH(Z:HC)(A:SJ)(H:Hp)(G:AH):Prop where
 same:zr Z.H0 H
 cell:∀(k:Nat) c,G[k]?=some c->dF Z.W (HM Z A G.length) A G.length H (A k) c
 inj:∀j k,j<G.length->k<G.length->A j=A k->j=k
 own:∀k,k<G.length->Z.H0 (A k)=none
structure HR(Z:HC)(A:SJ)(H:Hp)(σ:St)(ρ:Qd)(G:AH):Prop extends HH Z A H G where
 len:σ.length=ρ.length
 var:∀(i:Nat) x,ρ[i]?=some (some x)->∃v,σ[i]?=some (some v)/\kB Z.W (HM Z A G.length) A G.length H x v
section
variable {Z:HC}{A A' A'':SJ}{n n' n'':Nat}{H H' H'':Hp}{G G':AH}{σ:St}{ρ:Qd}
def Gro.sM(g:Gro Z A n H A' n' H'):∀a,HM Z A n a->H a≠none->HM Z A' n' a:=λa m h=>⟨m.1,λk b e=>by
 by_cases c:k<n
 .exact m.2 k c (by rw[<- g.agr k c];exact e)
 .exact h (e▸g.fresh k (by omega) b)⟩
def Gro.same(s:zr H H'):Gro Z A n H A n H':=⟨S5 _,λ_ _=>rfl,λk a b=>absurd b (by omega),s.fr,λa h=>zr.none s h⟩
def Gro.refl:Gro Z A n H A n H:=Gro.same (zr.refl _)
def Gro.trans(g:Gro Z A n H A' n' H')(k:Gro Z A' n' H' A'' n'' H''):Gro Z A n H A'' n'' H'':=by
 refine⟨T9 g.le k.le,λj b=>(k.agr j (a0c b g.le)).trans (g.agr j b),λj e d=>?_,λa o h m=>?_,λa h=>g.dom a (k.dom a h)⟩
 .by_cases c:j<n'
  .rw[k.agr j c];exact g.fresh j e c
  .exact g.dom _ (k.fresh j (by omega) d)
 .refine k.fr a o (g.fr a o h m) (m.imp (λm=>g.sM a m (by grind)) id)
def kB.gro(g:Gro Z A n H A' n' H')(h:kB W (HM Z A n) A n H x v):kB W (HM Z A' n') A' n' H' x v:=h.gen g.fr g.sM g.le g.agr
def yy.gro(g:Gro Z A n H A' n' H')(h:yy W (HM Z A n) A n H x v):yy W (HM Z A' n') A' n' H' x v:=h.gen g.fr g.sM g.le g.agr
def HR.gro(R:HR Z A H σ ρ G)(h:HH Z A' H' G')(g:Gro Z A G.length H A' G'.length H'):HR Z A' H' σ ρ G':=
 ⟨h,R.len,λi x e=>let⟨v,h1,h2⟩:=R.var i x e;⟨v,h1,h2.gro g⟩⟩
def HH.ob(h:HH Z A H G)(a:k<G.length):∃o,H (A k)=some o:=(h.cell k _ (T7 a)).ob
def HH.keep(h:HH Z A H G)(s:zr H H'):HH Z A H' G:=⟨h.same.trans s,λk c e=>by
 have q:=h.cell k c e;obtain⟨o,a⟩:=q.ob;exact q.gen ((s _ _ a).trans a.symm) s.fr (λ_ m _=>m) (S5 _) λ_ _=>rfl,h.inj,h.own⟩
def HH.new(h:HH Z A H G):New (HM Z A G.length) H:=λp hp=>⟨.inr (zr.none h.same hp),λk b e=>by
 obtain⟨o,a⟩:=h.ob b;rw[e,hp]at a;cases a⟩
def HR.keep(R:HR Z A H σ ρ G)(s:zr H H'):HR Z A H' σ ρ G:=R.gro (R.toHH.keep s) (Gro.same s)
def exA(A:SJ)(n:Nat)(p:Addr):Nat->Addr:=λk=>if k=n then p else A k
def V5:exA A n p n=p:=if_pos rfl
def V6(h:k<n):exA A n p k=A k:=if_neg (by omega)
def Gro.ext(s:zr H H')(hp:H p=none):Gro Z A n H (exA A n p) (n+1) H':=
 ⟨a1s _,λk b=>V6 b,λk d c=>by rw[show k=n by omega,V5];exact hp,s.fr,λa h=>zr.none s h⟩
def HH.alloc(h:HH Z A H G)(s:zr H H')(hp:H p=none)(u:dF Z.W (HM Z (exA A G.length p) (G.length+1)) (exA A G.length p) (G.length+1) H' p c):HH Z (exA A G.length p) H' (G++[c]):=by
 have g:Gro Z A G.length H (exA A G.length p) (G.length+1) H':=Gro.ext s hp;have i:(G++[c]).length=G.length+1:=by simp
 have m:∀k,k<G.length->A k≠p:=λk a e=>by obtain⟨o,b⟩:=h.ob a;rw[e,hp]at b;cases b
 refine⟨h.same.trans s,λk d e=>?_,λj k r a e=>?_,λk a=>?_⟩
 .rw[i];by_cases a:k<G.length
  .rw[a0o a]at e;have q:=h.cell k d e;obtain⟨o,b⟩:=q.ob;rw[V6 a];exact q.gen ((s _ _ b).trans b.symm) g.fr g.sM g.le g.agr
  .have v:=(S7.mp e).1;have t:k=G.length:=by omega
   subst t;rw[a0h (S5 _),a0M]at e;cases e;rw[V5];exact u
 .by_cases f:j=G.length
  .by_cases l:k=G.length
   .rw[f,l]
   .rw[f,V5,V6 (by omega)]at e;exact absurd e.symm (m k (by omega))
  .by_cases l:k=G.length
   .rw[l,V5,V6 (by omega)]at e;exact absurd e (m j (by omega))
   .rw[V6 (by omega),V6 (by omega)]at e;exact h.inj j k (by omega) (by omega) e
 .by_cases f:k=G.length
  .rw[f,V5];exact zr.none h.same hp
  .rw[V6 (by omega)];exact h.own k (by omega)
def HH.frw(h:HH Z A H G)(f:k<G.length)(c:H (A k)=Option.some o0)(d:¬Imm o0):Gro Z A G.length H A G.length (upd H (A k) o):=by
 refine⟨S5 _,λ_ _=>rfl,λk a b=>absurd b (by omega),λa q e m=>?_,λa e=>?_⟩
 .have:a≠A k:=λz=>by
   rcases m with m|m
   .exact m.2 k f z.symm
   .rw[z,c]at e;cases e;exact d m
  rw[zh this];exact e
 .by_cases z:a=A k
  .rw[z,ze]at e;cases e
  .rw[zh z]at e;exact e
def HH.write(h:HH Z A H G)(l:k<G.length)(m:H (A k)=Option.some o0)(s:¬Imm o0)(t:dF Z.W (HM Z A G.length) A G.length (upd H (A k) o) (A k) c):HH Z A (upd H (A k) o) (G.set k c):=by
 have g:=h.frw (o:=o) l m s;have f:(G.set k c).length=G.length:=a0L ..;refine⟨λa q e=>?_,λj d e=>?_,λi j r b=>h.inj i j (f▸r) (f▸b),λj b=>h.own j (f▸b)⟩
 .have:a≠A k:=λz=>by rw[z,h.own k l]at e;cases e
  rw[zh this];exact h.same a q e
 .rw[f];by_cases b:k=j
  .subst b;rw[a0v l]at e;cases e;exact t
  .rw[a0s b]at e;have p:=(S7.mp e).1;exact(h.cell j d e).gen (zh λz=>b (h.inj j k p l z).symm) g.fr g.sM g.le g.agr
def HR.set(R:HR Z A H σ ρ G)(c:kB Z.W (HM Z A G.length) A G.length H x v):HR Z A H (σ.set i (Option.some v)) (ρ.set i (Option.some x)) G:=by
 refine⟨R.toHH,by rw[a0L,a0L];exact R.len,λj y e=>?_⟩;by_cases a:i=j
 .subst a;have b:i<ρ.length:=by
   have:=(S7.mp e).1
   rwa [a0L]at this
  rw[a0v b]at e;cases e;exact⟨v,by rw[a0v (by rw[R.len];exact b)],c⟩
 .rw[a0s a]at e ⊢;exact R.var j y e
end
inductive HX(α:Type)where
 |ok (a:α) (G:AH)|exc (c:Nat) (fs:Tc) (G:AH)|wall
def HX.bind{d b:Type}:HX d->(d->AH->HX b)->HX b
 |.ok a G,f=>f a G
 |.exc c fs G,_=>.exc c fs G
 |.wall,_=>.wall
def EU(Z:HC)(E:XK)(A:SJ)(n:Nat)(H:Hp)(c:Nat)(fs:Tc)(G':AH):Prop:=∀d a e b f,HH Z d a G'->Gro Z A n H d G'.length a->a e=some (XC e (Z.W.cls c) b)->a b=some (XD b f)->j5 Z.W (HM Z d G'.length) a fs f->E (.ref e) (some b) a
def HPx{e:Type}(Z:HC)(E:XK)(A:SJ)(n:Nat)(H:Hp)(K:e->(Nat->Addr)->Hp->AH->Prop):HX e->Prop
 |.ok x a=>∀d b,HH Z d b a->Gro Z A n H d a.length b->K x d b a
 |.exc c fs a=>EU Z E A n H c fs a
 |.wall=>False
section
variable {α β:Type}{K:β->(Nat->Addr)->Hp->AH->Prop}{K':α->(Nat->Addr)->Hp->AH->Prop}
def EU.gro(h:EU Z E A n H c fs G)(g:Gro Z A n H A' n' H'):EU Z E A' n' H' c fs G:=λd b e f j i a=>h d b e f j i (g.trans a)
def HPx.gro{o:HX β}(h:HPx Z E A n H K o)(g:Gro Z A n H A' n' H'):HPx Z E A' n' H' K o:=by
 cases o with
 |ok x f=>exact λd b e a=>h d b e (g.trans a)
 |exc c fs f=>exact EU.gro h g
 |wall=>exact h
def HPx.bind{o:HX α}{f:α->AH->HX β}(h:HPx Z E A n H K (o.bind f))(k:∀x d b a,HH Z d b a->Gro Z A n H d a.length b->HPx Z E d a.length b K (f x a)->K' x d b a):HPx Z E A n H K' o:=by
 cases o with
 |ok x a=>exact λi g j e=>k x i g a j e (HPx.gro (o:=f x a) h e)
 |exc c fs a=>exact h
 |wall=>exact h
end
abbrev HME:=Qd->AH->HX HV
abbrev HMT:=Qd->AH->HX Bool
abbrev HMA:=Qd->AH->HX (List HV)
def KV'(Z:HC)(Q:VK):HV->(Nat->Addr)->Hp->AH->Prop:=λx c a b=>∀v,kB Z.W (HM Z c b.length) c b.length a x v->Q v a
def KT'(Q:Bool->Hp->Prop):Bool->(Nat->Addr)->Hp->AH->Prop:=λb _ a _=>Q b a
def KA'(Z:HC)(Q:List V->Hp->Prop):List HV->(Nat->Addr)->Hp->AH->Prop:=λe d a c=>∀b,yy Z.W (HM Z d c.length) d c.length a e b->Q b a
def HE(X:Cx)(W:RC)(E:XK)(e:SN)(m:HME):Prop:=X.K=W.K->∃a,PE X e a/\∀(Z:HC),Z.W=W->∀A H c b G,HR Z A H c b G->∀Q,HPx Z E A G.length H (KV' Z Q) (m b G)->a c H Q
def HT(X:Cx)(W:RC)(E:XK)(e:SN)(m:HMT):Prop:=X.K=W.K->∃a,PT X e a/\∀(Z:HC),Z.W=W->∀A H c b G,HR Z A H c b G->∀Q,HPx Z E A G.length H (KT' Q) (m b G)->a c H Q
def HTW(X:Cx)(W:RC)(E:XK)(e:SN)(m:HMT):Prop:=X.K=W.K->∃a,PW X e a/\∀(Z:HC),Z.W=W->∀A H c b G,HR Z A H c b G->∀Q,HPx Z E A G.length H (KT' Q) (m b G)->a c H Q
def HA(X:Cx)(W:RC)(E:XK)(es:SG)(m:HMA):Prop:=X.K=W.K->∃a,PA X es a/\∀(Z:HC),Z.W=W->∀A H c b G,HR Z A H c b G->∀Q,HPx Z E A G.length H (KA' Z Q) (m b G)->a c H Q
mutual
def imm:PV->Bool
 |.i _=>true | .s _=>true | .b _=>true | .n=>true
 |.t a=>fi a
 |.l _=>false | .d _=>false | .o _ _=>false | .x _ _=>false | .sc _=>false | .dt _=>false
def fi:List PV->Bool
 |[]=>true
 |x::a=>imm x&&fi a
end
def BS:List (Str×PV)->Bool
 |[]=>true
 |x::a=>imm x.2&&BS a
section
variable {W:RC}{M M':SD}{H:Hp}
mutual
theorem bb:∀{x:PV}{v:V},imm x=true->Rep W M H x v->Rep W M' H x v
 |.i _,_,_,h=>h
 |.s _,_,_,h=>h
 |.b _,_,_,h=>h
 |.n,_,_,h=>h
 |.t c,_,e,h=>by obtain⟨p,a,b,r,q⟩:=h;exact⟨p,a,b,r,V7 e q⟩
 |.l _,_,e,_=>by cases e
 |.d _,_,e,_=>by cases e
 |.o _ _,_,e,_=>by cases e
 |.x _ _,_,e,_=>by cases e
 |.sc _,_,e,_=>by cases e
 |.dt _,_,e,_=>by cases e
theorem V7:∀{x:SX}{v:SR},fi x=true->zU W M H x v->zU W M' H x v
 |[],_,_,h=>h
 |x::d,_,e,h=>by unfold fi at e;simp only[Bool.and_eq_true]at e;obtain⟨v,r,c,a,b⟩:=h;exact⟨v,r,c,bb e.1 a,V7 e.2 b⟩
end
theorem JN:∀{x:Tc}{v:Tg},BS x=true->j5 W M H x v->j5 W M' H x v
 |[],_,_,h=>h
 |x::d,_,e,h=>by unfold BS at e;simp only[Bool.and_eq_true]at e;obtain⟨v,r,c,a,b⟩:=h;exact⟨v,r,c,bb e.1 a,JN e.2 b⟩
def Kb:List Bool->Qd->Option Sto
 |_,[]=>some []
 |[],_::a=>(Kb [] a).map (none::·)
 |false::bs,_::a=>(Kb bs a).map (none::·)
 |true::bs,some (.v x)::a=>(Kb bs a).map (some x::·)
 |true::_,_=>none
def cH(f:HV->Option PV):List HV->Option (List PV)
 |[]=>some []
 |x::a=>(f x).bind λy=>(cH f a).map (y::·)
def il{a:Type}(f:HV->Option PV):List (a×HV)->Option (List (a×PV))
 |[]=>some []
 |x::b=>(f x.2).bind λy=>(il f b).map ((x.1,y)::·)
def je(G:AH):Nat->HV->Option PV
 |0,_=>none
 |_+1,.v x=>some x
 |n+1,.t b=>(cH (je G n) b).map .t
 |n+1,.g k=>match G[k]? with
  |some (.l b)=>(cH (je G n) b).map .l
  |some (.d a)=>(il (je G n) a).map .d
  |some (.z a)=>(il (je G n) a).map .d
  |some (.o c fs)=>(il (je G n) fs).map (.o c)
  |_=>none
def Km(G:AH):List Bool->Qd->Option Sto
 |_,[]=>some []
 |[],_::a=>(Km G [] a).map (none::·)
 |false::bs,_::a=>(Km G bs a).map (none::·)
 |true::bs,some x::a=>(je G 8 x).bind λy=>(Km G bs a).map (some y::·)
 |true::_,none::_=>none
theorem Yg{f:HV->Option PV}{N:SD}(hf:∀x v y,kB W M A n H x v->f x=some y->Rep W N H y v):∀{a:List HV}{c:SR}{b:SX},yy W M A n H a c->cH f a=some b->zU W N H b c
 |[],_,_,h,e=>by cases e;exact h
 |x::a,_,b,h,e=>by obtain⟨v,r,rfl,j,g⟩:=h;unfold cH at e;obtain⟨y,i,e⟩:=a0l.mp e;obtain⟨l,d,rfl⟩:=v0.mp e;exact⟨v,r,rfl,hf _ _ _ j i,Yg hf g d⟩
theorem JO{f:HV->Option PV}{N:SD}(hf:∀x v y,kB W M A n H x v->f x=some y->Rep W N H y v):∀{a:List (Key×HV)}{c:SH}{b:SY},qw (kB W M A n H) a c->il f a=some b->qY W N H b c
 |[],_,_,h,e=>by cases e;exact h
 |x::a,_,b,h,e=>by obtain⟨v,r,rfl,j,g⟩:=h;unfold il at e;obtain⟨y,i,e⟩:=a0l.mp e;obtain⟨l,d,rfl⟩:=v0.mp e;exact⟨v,r,rfl,hf _ _ _ j i,JO hf g d⟩
theorem fj{f:HV->Option PV}{N:SD}(hf:∀x v y,kB W M A n H x v->f x=some y->Rep W N H y v):∀{a:List (Str×HV)}{c:Tg}{b:Tc},qw (kB W M A n H) a c->il f a=some b->j5 W N H b c
 |[],_,_,h,e=>by cases e;exact h
 |x::a,_,b,h,e=>by obtain⟨v,r,rfl,j,g⟩:=h;unfold il at e;obtain⟨y,i,e⟩:=a0l.mp e;obtain⟨l,d,rfl⟩:=v0.mp e;exact⟨v,r,rfl,hf _ _ _ j i,fj hf g d⟩
end
section
variable {Z:HC}{A:SJ}{H:Hp}{G:AH}{σ:St}{ρ:Qd}
theorem Xm(h:HH Z A H G):∀(n:Nat)(x:HV)(v:V)(y:PV),kB Z.W (HM Z A G.length) A G.length H x v->je G n x=some y->Rep Z.W (λ_=>True) H y v
 |0,_,_,_,_,e=>by cases e
 |n+1,.v x,v,y,r,e=>by cases e;exact Rep.sub r λ_ _ _=>trivial
 |n+1,.t g,v,y,r,e=>by obtain⟨i,b,rfl⟩:=v0.mp e;obtain⟨p,a,rfl,s,q⟩:=r;exact⟨p,a,rfl,s,Yg (Xm h n) q b⟩
 |n+1,.g k,v,y,r,e=>by
  obtain⟨l,rfl⟩:=r;unfold je at e;split at e
  .rename_i g d;obtain⟨i,b,rfl⟩:=v0.mp e;obtain⟨a,f,q⟩:=h.cell k _ d;exact⟨A k,a,rfl,trivial,f,Yg (Xm h n) q b⟩
  .rename_i g d;obtain⟨i,b,rfl⟩:=v0.mp e;obtain⟨a,f,q⟩:=h.cell k _ d;exact⟨A k,a,rfl,trivial,.inl f,JO (Xm h n) q b⟩
  .rename_i g d;obtain⟨i,b,rfl⟩:=v0.mp e;obtain⟨o,a,f,q⟩:=h.cell k _ d;exact⟨A k,a,rfl,trivial,.inr ⟨o,f⟩,JO (Xm h n) q b⟩
  .rename_i c g d;obtain⟨i,b,rfl⟩:=v0.mp e;obtain⟨j,a,f,q⟩:=h.cell k _ d;exact⟨A k,j,a,rfl,trivial,f,fj (Xm h n) q b⟩
  .cases e
theorem V8:∀{bs:SI}{ρ:Qd}{r:Sto}{i:Nat}{x:PV},Kb bs ρ=some r->r[i]?=some (some x)->ρ[i]?=some (some (.v x))
 |_,[],r,i,x,e,h=>by cases e;simp at h
 |[],_::ρ,r,i,x,e,h=>by
  obtain⟨b,a,rfl⟩:=v0.mp e;cases i with
  |zero=>cases h
  |succ i=>rw[a0p]at h ⊢;exact V8 a h
 |false::bs,_::ρ,r,i,x,e,h=>by
  obtain⟨b,a,rfl⟩:=v0.mp e;cases i with
  |zero=>cases h
  |succ i=>rw[a0p]at h ⊢;exact V8 a h
 |true::bs,some (.v y)::ρ,r,i,x,e,h=>by
  obtain⟨b,a,rfl⟩:=v0.mp e;cases i with
  |zero=>cases h;rfl
  |succ i=>rw[a0p]at h ⊢;exact V8 a h
 |true::bs,none::ρ,r,i,x,e,h=>by cases e
 |true::bs,some (.g _)::ρ,r,i,x,e,h=>by cases e
 |true::bs,some (.t _)::ρ,r,i,x,e,h=>by cases e
theorem V9:∀{bs:SI}{ρ:Qd}{r:Sto},Kb bs ρ=some r->r.length=ρ.length
 |_,[],r,e=>by cases e;rfl
 |[],_::ρ,r,e=>by obtain⟨b,a,rfl⟩:=v0.mp e;rw[v4,v4,V9 a]
 |false::bs,_::ρ,r,e=>by obtain⟨b,a,rfl⟩:=v0.mp e;rw[v4,v4,V9 a]
 |true::bs,some (.v y)::ρ,r,e=>by obtain⟨b,a,rfl⟩:=v0.mp e;rw[v4,v4,V9 a]
 |true::bs,none::ρ,r,e=>by cases e
 |true::bs,some (.g _)::ρ,r,e=>by cases e
 |true::bs,some (.t _)::ρ,r,e=>by cases e
theorem ah:∀{bs:SI}{ρ:Qd}{r:Sto}{i:Nat}{x:PV},Km G bs ρ=some r->r[i]?=some (some x)->∃y,ρ[i]?=some (some y)/\je G 8 y=some x
 |_,[],r,i,x,e,h=>by cases e;simp at h
 |[],_::ρ,r,i,x,e,h=>by
  obtain⟨b,a,rfl⟩:=v0.mp e;cases i with
  |zero=>cases h
  |succ i=>rw[a0p]at h ⊢;exact ah a h
 |false::bs,_::ρ,r,i,x,e,h=>by
  obtain⟨b,a,rfl⟩:=v0.mp e;cases i with
  |zero=>cases h
  |succ i=>rw[a0p]at h ⊢;exact ah a h
 |true::bs,some y::ρ,r,i,x,e,h=>by
  obtain⟨z,c,e⟩:=a0l.mp e;obtain⟨b,a,rfl⟩:=v0.mp e;cases i with
  |zero=>cases h;exact⟨y,rfl,c⟩
  |succ i=>rw[a0p]at h ⊢;exact ah a h
 |true::bs,none::ρ,r,i,x,e,h=>by cases e
theorem ai:∀{bs:SI}{ρ:Qd}{r:Sto},Km G bs ρ=some r->r.length=ρ.length
 |_,[],r,e=>by cases e;rfl
 |[],_::ρ,r,e=>by obtain⟨b,a,rfl⟩:=v0.mp e;rw[v4,v4,ai a]
 |false::bs,_::ρ,r,e=>by obtain⟨b,a,rfl⟩:=v0.mp e;rw[v4,v4,ai a]
 |true::bs,some y::ρ,r,e=>by obtain⟨z,c,e⟩:=a0l.mp e;obtain⟨b,a,rfl⟩:=v0.mp e;rw[v4,v4,ai a]
 |true::bs,none::ρ,r,e=>by cases e
def Ms{S:Sy}(a:S.all (·==0)=true){i c:Nat}(h:S[i]?=some c):c=0:=by have:=a1v.mp a c (a0Q h);simpa using this
def Mu(l:σ.length=r.length)(d:S.all (·==0)=true)(o:∀(i:Nat) x,r[i]?=some (some x)->∃v,σ[i]?=some (some v)/\Rep Z.W M H x v):Rel Z.W (BQ H M) S (λ_=>0) H σ r:=by
 have c:∀{k:Nat},S[k]?=some 2->False:=λ{k} h=>by have:=Ms d h;omega
 have f:∀{k:Nat},S[k]?=some 1->False:=λ{k} h=>by have:=Ms d h;omega
 refine⟨zr.refl _,l,λi x e=>?_,λi b=>(c b).elim,λi j b=>(c b).elim,λb=>(c b).elim,λa h=>h.elim,λi b=>(c b).elim⟩;obtain⟨v,n,g⟩:=o i x e;exact⟨v,n,λz=>(c z).elim,λz=>(f z).elim,λ_ _=>g.sub λa m _=>⟨⟨.inl m,id⟩,λi b=>(c b).elim⟩⟩
def GV(R:HR Z A H σ ρ G)(e:Kb bs ρ=some r)(a:S.all (·==0)=true):Rel Z.W (BQ H (HM Z A G.length)) S (λ_=>0) H σ r:=
 Mu (R.len.trans (V9 e).symm) a λi x h=>R.var i _ (V8 e h)
def GW(R:HR Z A H σ ρ G)(e:Km G bs ρ=some r)(a:S.all (·==0)=true):Rel Z.W (BQ H λ_=>True) S (λ_=>0) H σ r:=
 Mu (R.len.trans (ai e).symm) a λi x h=>by obtain⟨y,f,d⟩:=ah e h;obtain⟨v,c,b⟩:=R.var i y f;exact⟨v,c,Xm R.toHH _ _ _ _ b d⟩
def Mv(h:HH Z A H G):∀a,Mof (BQ H (HM Z A G.length)) S P a->HM Z A G.length a:=λa m=>m.1.1.elim id λn=>h.new a n
end
def hP(bs:SI)(m:ME):HME:=λa G=>match Kb bs a with
 |some r=>match m r with
  |.ok x=>.ok (.v x) G
  |.exc c fs=>.exc c fs G
  |.wall=>.wall
 |none=>match Km G bs a with
  |some r=>match m r with
   |.ok x=>if imm x=true then .ok (.v x) G else .wall
   |.exc c fs=>if BS fs=true then .exc c fs G else .wall
   |.wall=>.wall
  |none=>.wall
def hPT(bs:SI)(m:MT):HMT:=λa G=>match Kb bs a with
 |some r=>match m r with
  |.ok x=>.ok x G
  |.exc c fs=>.exc c fs G
  |.wall=>.wall
 |none=>match Km G bs a with
  |some r=>match m r with
   |.ok x=>.ok x G
   |.exc c fs=>if BS fs=true then .exc c fs G else .wall
   |.wall=>.wall
  |none=>.wall
def vK{a:Type}(xs:List (a×PV)):List (a×HV):=xs.map λp=>(p.1,.v p.2)
def CN:PV->Option Cell
 |.l b=>some (.l (b.map .v))
 |.d a=>some (.d (vK a))
 |.o c fs=>some (.o c (vK fs))
 |_=>none
def Pn:PV->Bool
 |.l b=>fi b
 |.d a=>fi (a.map (·.2))
 |.o _ fs=>BS fs
 |_=>false
def hF(bs:SI)(m:ME):HME:=λa G=>match Kb bs a with
 |some r=>match m r with
  |.ok x=>match CN x with
   |some c=>.ok (.g G.length) (G++[c])
   |none=>.wall
  |.exc c fs=>.exc c fs G
  |.wall=>.wall
 |none=>match Km G bs a with
  |some r=>match m r with
   |.ok x=>if Pn x=true then match CN x with
    |some c=>.ok (.g G.length) (G++[c])
    |none=>.wall else .wall
   |.exc c fs=>if BS fs=true then .exc c fs G else .wall
   |.wall=>.wall
  |none=>.wall
section
variable {W:RC}{M M':SD}{A:SJ}{n:Nat}{H:Hp}
theorem Mw:∀{a:SX}{b:SR},zU W M H a b->yy W M A n H (a.map .v) b
 |[],_,h=>h
 |_::_,_,⟨v,r,e,d,c⟩=>⟨v,r,e,d,Mw c⟩
theorem Mx:∀{a:SY}{b:SH},qY W M H a b->qw (kB W M A n H) (vK a) b
 |[],_,h=>h
 |_::_,_,⟨v,r,e,d,c⟩=>⟨v,r,e,d,Mx c⟩
theorem My:∀{a:Tc}{b:Tg},j5 W M H a b->qw (kB W M A n H) (vK a) b
 |[],_,h=>h
 |_::_,_,⟨v,r,e,d,c⟩=>⟨v,r,e,d,My c⟩
theorem pD:∀{x:SY}{v:SH},fi (x.map (·.2))=true->qY W M H x v->qY W M' H x v
 |[],_,_,h=>h
 |x::d,_,e,h=>by rw[T6]at e;unfold fi at e;simp only[Bool.and_eq_true]at e;obtain⟨v,r,c,a,b⟩:=h;exact⟨v,r,c,bb e.1 a,pD e.2 b⟩
def Mz(b:aP W M H p x)(e:CN x=some c):dF W M A n H p c:=by
 cases x with
 |l f=>cases e;obtain⟨a,h,r⟩:=b;exact⟨a,h,Mw r⟩
 |d f=>cases e;obtain⟨a,h,r⟩:=b;exact⟨a,h,Mx r⟩
 |o k f=>cases e;obtain⟨g,a,h,r⟩:=b;exact⟨g,a,h,My r⟩
 |_=>cases e
def CO(e:Pn x=true)(b:aP W M H p x):aP W M' H p x:=by
 cases x with
 |l c=>obtain⟨a,h,r⟩:=b;exact⟨a,h,V7 e r⟩
 |d c=>obtain⟨a,h,r⟩:=b;exact⟨a,h,pD e r⟩
 |o k c=>obtain⟨f,a,h,r⟩:=b;exact⟨f,a,h,JN e r⟩
 |_=>cases e
end
section
variable {X:Cx}{W:RC}{E:XK}{fr:Bool}{S:Sy}{e a b:SN}{es:SG}{m:ME}{t:MT}{bs:SI}{pos p:Pos}{i:Nat}{m1:HME}{ms:HMA}{t1 t2:HMT}
def sO(h:HH Z A H G)(q:EU Z E A G.length H c fs G)(l:∀d es,j5 Z.W (λa=>M a\/H a=none) d fs es->j5 Z.W (HM Z A G.length) d fs es):XPo ⟨Z.W,E,fr⟩ (BQ H M) c fs:=
 λe f es d s n j g=>q A d e f es (h.keep s) (Gro.same s) n j (l d es g)
def Sh(bs:SI)(h:EM X ⟨W,E,fr⟩ S false e m)(u:S.all (·==0)=true:=by rfl):HE X W E e (hP bs m):=λw=>by
 obtain⟨y,B,o⟩:=h w;refine⟨y,B,λZ z A H l C G R Q q=>?_⟩;subst z;unfold hP at q;split at q
 .rename_i r g;refine o _ _ H l r (GV R g u) Q ?_;revert q;cases m r with
  |ok x=>exact λq v d s j=>q A d (R.toHH.keep s) (Gro.same s) v (j.rep.sub λa m _=>Mv R.toHH a m)
  |exc c fs=>exact λq=>sO R.toHH q λd es h=>h.sub λa m _=>m.elim id λn=>R.toHH.new a n
  |wall=>exact id
 .split at q
  .rename_i r g;refine o _ _ H l r (GW R g u) Q ?_;revert q;cases m r with
   |ok x=>
    intro q v d s j;dsimp only at q;split at q
    .rename_i f;exact q A d (R.toHH.keep s) (Gro.same s) v (bb f j.rep)
    .exact q.elim
   |exc c fs=>
    intro q;dsimp only at q;split at q
    .rename_i f;exact sO R.toHH q λd es h=>JN f h
    .exact q.elim
   |wall=>exact id
  .exact q.elim
def N9(bs:SI)(h:TM X ⟨W,E,fr⟩ S e t)(l:S.all (·==0)=true:=by rfl):HT X W E e (hPT bs t):=λo=>by
 obtain⟨u,y,j⟩:=h o;refine⟨u,y,λZ w A H g z G R Q q=>?_⟩;subst w;unfold hPT at q;split at q
 .rename_i r f;refine j _ _ H g r (GV R f l) Q ?_;revert q;cases t r with
  |ok x=>exact λq d s=>q A d (R.toHH.keep s) (Gro.same s)
  |exc c fs=>exact λq=>sO R.toHH q λd es h=>h.sub λa m _=>m.elim id λn=>R.toHH.new a n
  |wall=>exact id
 .split at q
  .rename_i r f;refine j _ _ H g r (GW R f l) Q ?_;revert q;cases t r with
   |ok x=>exact λq d s=>q A d (R.toHH.keep s) (Gro.same s)
   |exc c fs=>
    intro q;dsimp only at q;split at q
    .rename_i v;exact sO R.toHH q λd es h=>JN v h
    .exact q.elim
   |wall=>exact id
  .exact q.elim
def xK{Z:HC}{A:SJ}{H d:Hp}{G:AH}{c:Cell}{p:Addr}{Q:VK}(h:HH Z A H G)(s:zr H d)(hp:H p=none)(g:dF Z.W (HM Z (exA A G.length p) (G.length+1)) (exA A G.length p) (G.length+1) d p c)(q:HPx Z E A G.length H (KV' Z Q) (.ok (.g G.length) (G++[c]))):Q (.ref p) d:=by
 have f:(G++[c]).length=G.length+1:=by simp
 refine q _ d (h.alloc s hp g) (by rw[f];exact Gro.ext s hp) _ ⟨by rw[f];exact a0T _,?_⟩;rw[V5]
def MB{Z:HC}{A:SJ}{n:Nat}{p a:Addr}(m:HM Z A n a)(h:a≠p):HM Z (exA A n p) (n+1) a:=⟨m.1,λk d e=>by
 by_cases c:k=n
 .rw[c,V5]at e;exact h e.symm
 .rw[V6 (by omega)]at e;exact m.2 k (by omega) e⟩
def Rm(bs:SI)(y:LFr ⟨W,E,fr⟩ S te m)(z:S.all (·==0)=true:=by rfl):∀(Z:HC),Z.W=W->∀A H d f G,HR Z A H d f G->∀Q,HPx Z E A G.length H (KV' Z Q) (hF bs m f G)->te d H Q:=λZ B A H d f G R Q q=>by
 subst B;unfold hF at q;split at q
 .rename_i r o;refine y _ _ H d r (GV R o z) Q ?_;revert q;cases m r with
  |ok x=>
   intro q v j s w;dsimp only at q;split at q
   .rename_i c l;obtain⟨p,rfl,hp,u⟩:=w;exact xK R.toHH s hp (Mz (u.gen rfl Fr.refl λa m _=>MB (Mv R.toHH a m.1) m.2) l) q
   .exact q.elim
  |exc c fs=>exact λq=>sO R.toHH q λj es h=>h.sub λa m _=>m.elim id λn=>R.toHH.new a n
  |wall=>exact id
 .split at q
  .rename_i r o;refine y _ _ H d r (GW R o z) Q ?_;revert q;cases m r with
   |ok x=>
    intro q v j s w;dsimp only at q;split at q
    .rename_i g;split at q
     .rename_i c l;obtain⟨p,rfl,hp,u⟩:=w;exact xK R.toHH s hp (Mz (CO g u) l) q
     .exact q.elim
    .exact q.elim
   |exc c fs=>
    intro q;dsimp only at q;split at q
    .rename_i g;exact sO R.toHH q λj es h=>JN g h
    .exact q.elim
   |wall=>exact id
  .exact q.elim
def Sj(bs:SI)(h:FM X ⟨W,E,fr⟩ S e m)(d:S.all (·==0)=true:=by rfl):HE X W E e (hF bs m):=λg=>by obtain⟨c,j,f⟩:=h g;exact⟨c,j,Rm bs f d⟩
def qJ(i:Nat):HME:=λc G=>match c[i]? with
 |some (some x)=>.ok x G
 |_=>.wall
def yN(h:PE X e (cE i)):HE X W E e (qJ i):=λ_=>⟨_,h,λZ j A H l g G R Q q=>by
 unfold qJ at q;split at q
 .rename_i x c;obtain⟨v,f,d⟩:=R.var i x c;exact⟨v,f,q A H R.toHH Gro.refl v d⟩
 .exact q.elim⟩
def cK:HMA:=λ_ G=>.ok [] G
def yQ(m:HME)(ms:HMA):HMA:=λc G=>(m c G).bind λx g=>(ms c g).bind λf d=>.ok (x::f) d
def V_:HA X W E [] cK:=λ_=>⟨_,dy,λZ d A H f c G R Q q=>q A H R.toHH Gro.refl [] rfl⟩
def qx(h:HE X W E e m1)(y:HA X W E es ms)(I:starEach (e::es) X.env=(false,eval e X.env)::starEach es X.env:=by rfl):HA X W E (e::es) (yQ m1 ms):=λc=>by obtain⟨O,J,z⟩:=h c;obtain⟨U,B,l⟩:=y c;refine⟨_,Vi J B I,λZ j A H d f G R Q q=>z Z j A H d f G R _ (HPx.bind q λx u M D F K C v L=>?_)⟩;exact l Z j u M d f D (R.gro F K) _ (HPx.bind C λP o s T w n r g N=>(r o s w Gro.refl (v::g) ⟨v,g,rfl,L.gro n,N⟩))
theorem yy.len{W:RC}{M:SD}{A:SJ}{n:Nat}{H:Hp}:∀{c:List HV}{d:SR},yy W M A n H c d->d.length=c.length
 |[],_,h=>by cases h;rfl
 |x::c,_,h=>by obtain⟨v,r,rfl,_,f⟩:=h;rw[v4,v4,yy.len f]
def EV:List HV->Option (List PV)
 |[]=>some []
 |.v x::c=>(EV c).map (x::·)
 |_::_=>none
def mkT(xs:List HV):HV:=match EV xs with
 |some c=>.v (.t c)
 |none=>.t xs
theorem aj{W:RC}{M:SD}{A:SJ}{n:Nat}{H:Hp}:∀{c:List HV}{d:SX}{f:SR},EV c=some d->yy W M A n H c f->zU W M H d f
 |[],_,_,e,h=>by cases e;exact h
 |.v x::c,d,_,e,h=>by obtain⟨o,j,rfl⟩:=v0.mp e;obtain⟨v,r,rfl,l,g⟩:=h;exact⟨v,r,rfl,l,aj j g⟩
 |.g _::_,_,_,e,_=>by cases e
 |.t _::_,_,_,e,_=>by cases e
def MC(ms:HMA):HME:=λd G=>(ms d G).bind λc f=>if c.length<=sizeLine then .ok (mkT c) f else .wall
def EW{x1}(h:HA X W E es ms):HE X W E (.Tuple es x1 pos) (MC ms):=λo=>by
 obtain⟨F,B,w⟩:=h o;refine⟨_,Eg B,λZ y A H r u G R Q q=>w Z y A H r u G R _ (HPx.bind q λD g j x z J f d l=>?_)⟩;split at f
 .rename_i C;refine⟨by rw[l.len];exact C,λp hp=>?_⟩;have s:zr j (upd j p (.tup d)):=zr.upd hp;refine f g _ (z.keep s) (Gro.same s) _ ?_;have c:=l.gro (Gro.same s);unfold mkT;split
  .rename_i I v;exact⟨p,d,rfl,.inl (.inl ze),aj v c⟩
  .exact⟨p,d,rfl,.inl (.inl ze),c⟩
 .exact f.elim
def hOr(t u:HMT):HMT:=λd G=>(t d G).bind λc f=>if c=true then .ok true f else u d f
def HTW.tm(h:HTW X W E e t1):HT X W E e t1:=λc=>let⟨tt,a1,a2⟩:=h c;⟨tt,a1.pt,a2⟩
def MD(h:HT X W E a t1):HTW X W E (.BoolOp .Or [a] pos) t1:=λc=>let⟨tt,a1,a2⟩:=h c;⟨tt,pw_or1 a1,a2⟩
variable {rest:SG}
def Po(h:HT X W E a t1)(v:HTW X W E (.BoolOp .Or (b::rest) pos) t2):HTW X W E (.BoolOp .Or (a::b::rest) pos) (hOr t1 t2):=λg=>by
 obtain⟨C,z,w⟩:=h g;obtain⟨l,x,u⟩:=v g;refine⟨_,pw_or z x,λZ r A H f j G R Q q=>w Z r A H f j G R _ (HPx.bind q λc n d y s B o=>?_)⟩;cases c with
 |true=>show(if true=true then Q true d else l f d Q);exact o n d s Gro.refl
 |false=>show(if false=true then Q true d else l f d Q);exact u Z r n d f j y (R.gro s B) _ o
def N_(m:HME):HMT:=λd G=>(m d G).bind λx f=>match x with
 |.v (.b c)=>.ok c f
 |_=>.wall
def MF(h:HE X W E e m1)(he:∀d,isTrue e X.env d=(do let v<-d;standAt e.pos;holding [v] (truthy v)):=by intro _;rfl):HT X W E e (N_ m1):=λg=>by
 obtain⟨z,u,o⟩:=h g;refine⟨_,D_ u he,λZ r A H j l G R Q q=>o Z r A H j l G R _ (HPx.bind q λx n y B s C f v w=>?_)⟩;split at f
 .rename_i c;exact⟨c,w,f n y s Gro.refl⟩
 .exact f.elim
end
section
variable {W:RC}{M:SD}{A:SJ}{n:Nat}{H:Hp}
theorem yy.get:∀{a:List HV}{b:SR}{i:Nat}{x:HV},yy W M A n H a b->a[i]?=some x->∃v,b[i]?=some v/\kB W M A n H x v
 |[],_,_,_,_,e=>by simp at e
 |x::a,_,0,y,h,e=>by obtain⟨v,r,rfl,d,c⟩:=h;simp at e;subst e;exact⟨v,rfl,d⟩
 |x::a,_,i+1,y,h,e=>by obtain⟨v,r,rfl,d,c⟩:=h;simp only[List.getElem?_cons_succ]at e ⊢;exact yy.get c e
def yy.at(h:yy W M A n H xs vs)(e:atI xs i=some x):∃v,atI vs i=some v/\kB W M A n H x v:=by
 unfold atI at e ⊢;rw[h.len];cases q:ixN xs.length i with
 |none=>rw[q]at e;cases e
 |some j=>rw[q]at e;exact h.get e
theorem yy.append:∀{a c:List HV}{d b:SR},yy W M A n H a d->yy W M A n H c b->yy W M A n H (a++c) (d++b)
 |[],_,_,_,h,k=>by cases h;exact k
 |x::a,_,_,_,h,k=>by obtain⟨v,r,rfl,f,e⟩:=h;exact⟨v,_,rfl,f,yy.append e k⟩
variable {κ:Type}[DecidableEq κ] {R:HV->V->Prop}
theorem qw.len:∀{a:List (κ×HV)}{b:List (κ×V)},qw R a b->b.length=a.length
 |[],_,h=>by cases h;rfl
 |_::_,_,⟨v,q,e,d,c⟩=>by subst e;rw[v4,v4,qw.len c]
theorem qw.get:∀{a:List (κ×HV)}{b:List (κ×V)}{k:κ}{x:HV},qw R a b->zm a k=some x->∃v,dz b k=some v/\R x v
 |[],_,_,_,_,e=>by cases e
 |f::r,_,k,x,h,e=>by
  obtain⟨v,q,rfl,j,i⟩:=h;unfold zm at e;rw[a2e]at e;by_cases c:f.1=k
  .rw[a0d c]at e;cases e;exact⟨v,U_ c,j⟩
  .rw[T5 c]at e;obtain⟨u,d,g⟩:=qw.get i e;exact⟨u,by rw[aa c];exact d,g⟩
theorem qw.lookup:∀{a:List (Str×HV)}{b:Tg}{f:Str}{x:HV},qw R a b->a.lookup f=some x->∃v,b.lookup f=some v/\R x v
 |[],_,_,_,_,e=>by cases e
 |d::r,_,f,x,h,e=>by
  obtain⟨v,q,rfl,i,g⟩:=h;rw[a0z]at e ⊢;cases c:(f==d.1)with
  |true=>rw[c]at e;cases e;exact⟨v,rfl,i⟩
  |false=>rw[c]at e;exact qw.lookup g e
def qw.put{k:κ}{a:List (κ×HV)}{es:List (κ×V)}(h:qw R a es)(i:R x v):qw R (dput a k x) (putK es k v):=by
 have f:∀{a:List (κ×HV)}{es:List (κ×V)},qw R a es->a.any (λb=>decide (b.1=k))=es.any (λb=>decide (b.1=k))/\qw R (a.map λb=>if b.1=k then(b.1,x)else b) (es.map λb=>if b.1=k then(b.1,v)else b)/\qw R (a++[(k,x)]) (es++[(k,v)]):=by
  intro a
  induction a with
  |nil=>intro es h;cases h;exact⟨rfl,rfl,v,[],rfl,i,rfl⟩
  |cons l a m=>
   intro es h;obtain⟨u,q,rfl,j,o⟩:=h;obtain⟨d,c,g⟩:=m o;refine⟨by rw[a04,a04,d],?_,⟨u,_,rfl,j,g⟩⟩;rw[T6,T6];by_cases e:l.1=k
   .rw[if_pos e,if_pos e];exact⟨v,_,rfl,i,c⟩
   .rw[if_neg e,if_neg e];exact⟨u,_,rfl,j,c⟩
 obtain⟨d,c,g⟩:=f h;unfold dput putK;rw[d];split
 .exact c
 .exact g
end
def ixH(G:AH):HV->HV->Option HV
 |.g k,.v y=>match G[k]? with
  |some (.l b)=>match y with
   |.i j=>atI b j
   |_=>none
  |some (.d a)=>(pk y).bind λq=>zm a q
  |some (.z a)=>(pk y).bind λq=>zm a q
  |_=>none
 |.t b,.v (.i j)=>atI b j
 |.v x,.v y=>match pIx x y with
  |.ok z=>some (.v z)
  |_=>none
 |_,_=>none
def hIx(e c:HME):HME:=λb G=>(e b G).bind λx d=>(c b d).bind λy a=>match ixH a x y with
 |some z=>.ok z a
 |none=>.wall
def MH(cs:Sy)(f:Str)(m:HME):HME:=λb G=>(m b G).bind λx a=>match x with
 |.g k=>match a[k]? with
  |some (.o c fs)=>if c∈cs then match fs.lookup f with
   |some z=>.ok z a
   |none=>.wall else .wall
  |_=>.wall
 |_=>.wall
def Qe(f:List HV->AH->HX HV)(ms:HMA):HME:=λc G=>(ms c G).bind λa b=>f a b
def hsp(W:RC)(n:Nat)(f:List HV->AH->HX HV):Sp:=λb H Q E=>∃(Z:HC)(A:SJ)(G:AH)(a:List HV),Z.W=W/\a.length=n/\HH Z A H G/\yy Z.W (HM Z A G.length) A G.length H a b/\HPx Z E A G.length H (KV' Z Q) (f a G)
def xM:∀a H Q E,hsp W n f a H Q E->a.length=n:=λa H Q E ⟨Z,A,G,c,_,b,_,r,_⟩=>r.len.trans b
def Pp(h:HH Z A H G)(m:kB Z.W (HM Z A G.length) A G.length H x v)(g:kB Z.W (HM Z A G.length) A G.length H y u)(e:ixH G x y=some z)(q:∀d v,zr H d->kB Z.W (HM Z A G.length) A G.length d z v->Q v d):Rj Z.W.K v u H Q:=by
 unfold ixH at e;split at e
 .rename_i k y;obtain⟨t,rfl⟩:=m;split at e
  .rename_i B f;obtain⟨c,hp,r⟩:=h.cell k _ f;split at e
   .obtain⟨w,b,a⟩:=r.at e;exact .inl (.inl ⟨_,c,_,w,rfl,g,SqL.of hp,b,q H w (zr.refl _) a⟩)
   .cases e
  .rename_i i f;obtain⟨c,hp,r⟩:=h.cell k _ f;obtain⟨j,l,e⟩:=a0l.mp e;obtain⟨w,b,a⟩:=r.get e;exact .inr ⟨_,w,rfl,by rw[eU (yK.iff.mpr g) l,<- b];exact oQ.rk (.inl hp),q H w (zr.refl _) a⟩
  .rename_i i f;obtain⟨o,c,hp,r⟩:=h.cell k _ f;obtain⟨j,l,e⟩:=a0l.mp e;obtain⟨w,b,a⟩:=r.get e;exact .inr ⟨_,w,rfl,by rw[eU (yK.iff.mpr g) l,<- b];exact oQ.rk (.inr ⟨o,hp⟩),q H w (zr.refl _) a⟩
  .cases e
 .obtain⟨p,c,rfl,n,r⟩:=m;obtain⟨w,b,a⟩:=r.at e;exact .inl (.inr (.inl ⟨p,c,_,w,rfl,g,n,b,q H w (zr.refl _) a⟩))
 .split at e
  .rename_i C hz;cases e;refine LB (HM Z A G.length) ⟨Z.W,E0,false⟩ (BQ H λ_=>True) H _ _ v u Q h.new (Rep.weak m) (Rep.weak g) ?_;rw[hz];exact λw d s r=>q d w s r
  .cases e
 .cases e
def Pq(t:X.A.units+1<cLine)(g:HE X W E a m1)(c:HE X W E b m2)(I:eP b:=by intro _ _;rfl):HE X W E (.Subscript a b pos) (hIx m1 m2):=λd=>by
 obtain⟨S,J,o⟩:=g d;obtain⟨O,p,j⟩:=c d;refine⟨_,IX (Ei.or (uT t)) J p I,λZ f A H h i G R Q q=>o Z f A H h i G R _ (HPx.bind q λx n M C g K B v L=>?_)⟩;refine j Z f n M h i C (R.gro g K) _ (HPx.bind B λy m N P c l e u D=>?_);split at e
 .rename_i z hz;rw[d,<- f];exact Pp c (L.gro l) D hz λF w s r=>e m F (c.keep s) (Gro.same s) w r
 .exact e.elim
def MJ(h:HE X W E e m1)(f:∀c∈cs,Cls X.K (W.cls c)/\vk X.K (W.cls c) fn)(y:attributeBase e fn X.env (eval e X.env)=eval e X.env:=by rfl):HE X W E (.Attribute e fn pos) (MH cs fn m1):=λj=>by
 obtain⟨I,B,t⟩:=h j;refine⟨_,Ed B y,λZ g A H n o G R Q q=>t Z g A H n o G R _ (HPx.bind q λx s D J i K a v C=>?_)⟩;subst g;split at a
 .rename_i k;obtain⟨F,rfl⟩:=C;split at a
  .rename_i c fs u;obtain⟨m,p,hp,r⟩:=i.cell k _ u;split at a
   .rename_i b;split at a
    .rename_i z hz;obtain⟨w,l,d⟩:=r.lookup hz;exact⟨_,_,m,p,w,rfl,hp,(f c b).1,(f c b).2,l,a s D i Gro.refl w d⟩
    .exact a.elim
   .exact a.elim
  .exact a.elim
 .exact a.elim
def Vo(F:yz X.prog X.w X.K X.mg X.base (CXe X.prog X.w) k f fd ps (hsp W n g))(w:vF k X.A)(t:Gl X x)(s:X.mg x=some (.ref f))(m:keepIn X.K (.ref f)=true)(z:Binds X.K fd ps [])(l:Passes (CXe X.prog X.w) X E)(I:HA X W E (e::es) ms)(J:∀d G a b,ms d G=.ok a b->a.length=n)
  (h:(x==("__debug__":Str))=false:=by decide) (he:starEach (e::es) X.env=(false,eval e X.env)::starEach es X.env:=by rfl) (hpl:(backTo pos (starEach es X.env)).any (·.1)=false:=by rfl):HE X W E (.Call (.Name x p) (e::es) [] pos) (Qe g ms):=λj=>by
 obtain⟨M,C,y⟩:=I j;refine⟨_,mH F w t s m z .nil l C h he hpl,λZ i A H r d G R Q q=>y Z i A H r d G R _ ?_⟩;unfold Qe at q;revert q;cases v:ms d G with
 |wall=>exact id
 |exc c fs b=>exact id
 |ok a b=>intro q u N B D L K;rw[a0m];exact⟨Z,u,b,a,i,J _ _ _ _ v,B,K,HPx.gro q D⟩
def bc:∀b G a c,cK b G=.ok a c->a.length=0:=λb G a c e=>by cases e;rfl
def ke(h:∀b G a d,ms b G=.ok a d->a.length=n):∀b G a d,yQ m ms b G=.ok a d->a.length=n+1:=λb G a d e=>by
 unfold yQ at e;cases i:m b G with
 |wall=>rw[i]at e;cases e
 |exc c fs f=>rw[i]at e;cases e
 |ok x f=>
  rw[i]at e;have e:(ms b f).bind (λa j=>.ok (x::a) j)=.ok a d:=e;cases g:ms b f with
  |wall=>rw[g]at e;cases e
  |exc c fs f=>rw[g]at e;cases e
  |ok l j=>rw[g]at e;cases e;rw[v4,h _ _ _ _ g]
inductive HFw where
 |nx (ρ:Qd) (G:AH)|rt (x:HV) (G:AH)|bk (ρ:Qd) (G:AH)|ct (ρ:Qd) (G:AH)|exc (c:Nat) (fs:Tc) (G:AH)|wall
abbrev HMS:=Qd->AH->HFw
def HPs(Z:HC)(E:XK)(A:SJ)(n:Nat)(H:Hp)(D:Ends):HFw->Prop
 |.nx f d=>∀e b a,HR Z e b a f d->Gro Z A n H e d.length b->D.nx a b
 |.rt x d=>∀e b v,HH Z e b d->Gro Z A n H e d.length b->kB Z.W (HM Z e d.length) e d.length b x v->D.rt v b
 |.bk f d=>∀e b a,HR Z e b a f d->Gro Z A n H e d.length b->D.bk a b
 |.ct f d=>∀e b a,HR Z e b a f d->Gro Z A n H e d.length b->D.ct a b
 |.exc c fs d=>EU Z E A n H c fs d
 |.wall=>False
def HX.fw{b:Type}:HX b->(b->AH->HFw)->HFw
 |.ok a G,f=>f a G
 |.exc c fs G,_=>.exc c fs G
 |.wall,_=>.wall
def LHS(W:RC)(E:XK)(c:TS)(m:HMS):Prop:=∀(Z:HC),Z.W=W->∀A H b a G,HR Z A H b a G->∀D,HPs Z E A G.length H D (m a G)->c D b H
def HS(X:Cx)(W:RC)(E:XK)(st:TB)(m:HMS):Prop:=X.K=W.K->∃a,PS X st a/\LHS W E a m
def HSs(X:Cx)(W:RC)(E:XK)(st:Ts)(m:HMS):Prop:=X.K=W.K->∃a,PSs X st a/\LHS W E a m
section
variable {α:Type}{K':α->(Nat->Addr)->Hp->AH->Prop}
def HPs.gro(h:HPs Z E A n H D o)(g:Gro Z A n H A' n' H'):HPs Z E A' n' H' D o:=by
 cases o with
 |nx f G=>exact λe d a r b=>h e d a r (g.trans b)
 |rt x G=>exact λe d v r b=>h e d v r (g.trans b)
 |bk f G=>exact λe d a r b=>h e d a r (g.trans b)
 |ct f G=>exact λe d a r b=>h e d a r (g.trans b)
 |exc c fs G=>exact EU.gro h g
 |wall=>exact h
def HPs.bind{o:HX α}{f:α->AH->HFw}(h:HPs Z E A n H D (o.fw f))(k:∀x d b a,HH Z d b a->Gro Z A n H d a.length b->HPs Z E d a.length b D (f x a)->K' x d b a):HPx Z E A n H K' o:=by
 cases o with
 |ok x a=>exact λi g j e=>k x i g a j e (HPs.gro h e)
 |exc c fs a=>exact h
 |wall=>exact h
end
def CP:HMS:=λa G=>.nx a G
def wJ(a b:HMS):HMS:=λf G=>match a f G with
 |.nx d e=>b d e
 |.rt x e=>.rt x e
 |.bk d e=>.bk d e
 |.ct d e=>.ct d e
 |.exc c fs e=>.exc c fs e
 |.wall=>.wall
def Xn(i:Nat)(m:HME):HMS:=λa G=>(m a G).fw λx b=>.nx (a.set i (some x)) b
def Xo(m:HME):HMS:=λa G=>(m a G).fw λ_ b=>.nx a b
def ip(m:HME):HMS:=λb G=>(m b G).fw λx a=>.rt x a
def hIf(t:HMT)(a b:HMS):HMS:=λd G=>(t d G).fw λc e=>if c=true then a d e else b d e
section
variable {X:Cx}{W:RC}{E:XK}{e a b o:SN}{es:SG}{pos p pos' jK:Pos}{m m1 m2:HME}{t1:HMT}{s1 s2:HMS}{x:Str}{st:TB}{sts stt:Ts}{i:Nat}
def m9:HSs X W E [] CP:=λ_=>⟨_,ub,λZ f A H c d G R D q=>q A H c R Gro.refl⟩
def MK(y:LHS W E t s1)(w:LHS W E u s2):LHS W E (Ou t u) (wJ s1 s2):=λZ l A H r j G R D q=>by
 refine y Z l A H r j G R _ ?_;unfold wJ at q;revert q;cases s1 j G with
 |nx d f=>exact λq n s h v g=>w Z l n s h d f v D (HPs.gro q g)
 |rt x f=>exact id
 |bk d f=>exact id
 |ct d f=>exact id
 |exc c fs f=>exact id
 |wall=>exact id
def zH(l:HS X W E st s1)(j:HSs X W E sts s2):HSs X W E (st::sts) (wJ s1 s2):=λc=>by obtain⟨t,g,d⟩:=l c;obtain⟨u,f,h⟩:=j c;exact⟨_,VH g f,MK d h⟩
def jb(g:HS X W E st s1):HSs X W E [st] s1:=λd=>by obtain⟨t,f,c⟩:=g d;exact⟨_,j7 f,c⟩
def EX(g:∀(Z:HC),Z.W=W->∀A H c d G,HR Z A H c d G->∀Q,HPx Z E A G.length H (KV' Z Q) (m d G)->te c H Q):LHS W E (FG te (eM i)) (Xn i m):=λZ j A H c d G R D q=>
 g Z j A H c d G R _ (HPs.bind q λx f s t l n h v r=>h f s _ ((R.gro l n).set r) Gro.refl)
def X7(l:X.N.Nodup)(hi:X.N[i]?=some x)(j:Loc X.env.scope x)(h:HE X W E e m)(g:swapsWith e (some (.Name x pos')) pos.line X.env=pure false:=by rfl)(hf:X.fn x=true\/X.env.scope.names.lookup x=some .local:=by first|exact .inl rfl|exact .inr rfl|assumption):
  HS X W E (.Assign [.Name x pos'] e pos) (Xn i m):=λd=>by
 obtain⟨n,f,c⟩:=h d;exact⟨_,oF l hi j f g hf,EX c⟩
def Xp(h:HE X W E e m)(s:swapsWith e none pos.line X.env=pure false:=by rfl):HS X W E (.Expr e pos) (Xo m):=λd=>by obtain⟨y,t,j⟩:=h d;exact⟨_,aH t s,λZ n A H c f G R D q=>j Z n A H c f G R _ (HPs.bind q λx g w z r u l v B=>l g w c (R.gro r u) Gro.refl)⟩
def X8(h:HE X W E e m):HS X W E (.Return (some e) pos) (ip m):=λc=>by obtain⟨w,s,j⟩:=h c;exact⟨_,oE s,λZ n A H d f G R D q=>j Z n A H d f G R _ (HPs.bind q λx g u y r z l v t=>l g u v r Gro.refl t)⟩
def GX(h:HT X W E c t1)(g:HSs X W E sts s1)(B:HSs X W E stt s2):HS X W E (.If c sts stt pos) (hIf t1 s1 s2):=λj=>by
 obtain⟨K,J,C⟩:=h j;obtain⟨t,F,y⟩:=g j;obtain⟨u,z,I⟩:=B j;refine⟨_,II J F z,λZ n A H d l G R D q=>C Z n A H d l G R _ (HPs.bind q λk r f v g w s=>?_)⟩;cases k with
 |true=>show(if true=true then t D d f else u D d f);exact y Z n r f d l v (R.gro g w) D s
 |false=>show(if false=true then t D d f else u D d f);exact I Z n r f d l v (R.gro g w) D s
def Rn(h j:HME):HMS:=λc G=>(h c G).fw λx g=>match x with
 |.g k=>match g[k]? with
  |some (.l _)=>(j c g).fw λy d=>match d[k]? with
   |some (.l f)=>if f.length<sizeLine then .nx c (d.set k (.l (f++[y])))else .wall
   |_=>.wall
  |_=>.wall
 |_=>.wall
def Pr{Z:HC}{A:SJ}{H:Hp}{G:AH}{σ:St}{ρ:Qd}{D:Ends}{k:Nat}{c:Cell}{o h:HO}(R:HR Z A H σ ρ G)(j:k<G.length)(d:H (A k)=some h)(f:¬Imm h)(l:dF Z.W (HM Z A G.length) A G.length (upd H (A k) o) (A k) c)(q:HPs Z E A G.length H D (.nx ρ (G.set k c))):D.nx σ (upd H (A k) o):=by
 have g:Gro Z A G.length H A (G.set k c).length (upd H (A k) o):=by rw[a0L];exact R.toHH.frw j d f
 exact q A _ σ (R.gro (R.toHH.write j d f l) g) g
def xN(ho:HE X W E o m1)(h:HE X W E e m2)(U:attributeBase o "append" X.env (eval o X.env)=eval o X.env:=by rfl)
  (Ii:((backTo p (starEach [e] X.env)).all (λx=>!x.1)&&(backToKw p (keywordEach [] X.env)).all (λx=>x.1.isSome)&&decide ([e].length+([]:List Keyword).length+(if([]:List Keyword).isEmpty then 0 else 1)<30))=true:=by rfl)
  (cC:(jK.endLine==p.line)=true:=by rfl) (N:starEach [e] X.env=[(false,eval e X.env)]:=by rfl) (j:swapsWith (.Call (.Attribute o "append" jK) [e] [] p) none pos.line X.env=pure false:=by rfl):
  HS X W E (.Expr (.Call (.Attribute o "append" jK) [e] [] p) pos) (Rn m1 m2):=λz=>by
 obtain⟨to,Q,O⟩:=ho z;obtain⟨te,a1,a2⟩:=h z;refine⟨_,aH (FZ a1A a2Q a2R aL Q (Vi a1 dy N) U Ii cC N rfl) j,λZ L A H F I G R D q=>O Z L A H F I G R _ (HPs.bind q λx Y H1 G1 M g1 g v rx=>?_)⟩;split at g
 .rename_i k;obtain⟨C,rfl⟩:=rx;split at g
  .rename_i xs0 s;obtain⟨P,w,_⟩:=M.cell k _ s;have K:=R.gro M g1;refine⟨.inl ⟨rfl,_,SqL.of w⟩,a2 Z L Y H1 F I G1 K _ (HPs.bind g λy B T t n l d u ry=>?_)⟩;split at d
   .rename_i S hc;split at d
    .rename_i hl;obtain⟨J,hp,r⟩:=n.cell k _ hc;have f:=a0c C l.le;rw[<- l.agr k C];have g3:=n.frw (o:=.lst (J++[u])) f hp id;have one:yy Z.W (HM Z B t.length) B t.length T [y] [u]:=⟨u,[],rfl,ry,rfl⟩;exact⟨_,J,u,rfl,rfl,hp,by rw[r.len];exact hl,Pr (c:=.l (S++[y])) (K.gro n l) f hp id ⟨_,ze,(r.append one).gro g3⟩ d⟩
    .exact d.elim
   .exact d.elim
  .exact g.elim
 .exact g.elim
def mB(h mk mv:HME):HMS:=λd G=>(mv d G).fw λy j=>(h d j).fw λx g=>(mk d g).fw λz f=>match x,z with
 |.g k,.v z=>match f[k]?,pk z with
  |some (.d c),some q=>if c.length<sizeLine then .nx d (f.set k (.d (dput c q y)))else .wall
  |_,_=>.wall
 |_,_=>.wall
def pE(hu:X.A.units+1<cLine)(ho:HE X W E o m)(g:HE X W E a m1)(hv:HE X W E e m2)(hs:swapsWith e (some (.Subscript o a pos')) pos.line X.env=pure false:=by rfl):
  HS X W E (.Assign [.Subscript o a pos'] e pos) (mB m m1 m2):=λl=>by
 obtain⟨to,N,J⟩:=ho l;obtain⟨ta,a1,a2⟩:=g l;obtain⟨tv,b1,K⟩:=hv l;refine⟨_,uz hu N a1 b1 hs,λZ B A H s t G R D q=>K Z B A H s t G R _ (HPs.bind q λy S H1 G1 h1 g1 q1 v ry=>?_)⟩;have I:=R.gro h1 g1;refine J Z B S H1 s t G1 I _ (HPs.bind q1 λx L P G2 U F M w rx=>?_);have R2:=I.gro U F;refine a2 Z B L P s t G2 R2 _ (HPs.bind M λz A3 H3 O C j d u Q=>?_);split at d
 .rename_i k z;obtain⟨g,rfl⟩:=rx;split at d
  .rename_i n q T Y;split at d
   .rename_i hl;obtain⟨es,hp,r⟩:=C.cell k _ T;have f:=a0c g j.le;have g4:=C.frw (o:=.dK (putK es q v)) f hp id;rw[<- j.agr k g];refine⟨_,_,rfl,by rw[eU (yK.iff.mpr Q) Y];exact Im.k hp (by rw[r.len];exact hl),Pr (c:=.d (dput n q y)) (R2.gro C j) f hp id ⟨_,ze,?_⟩ d⟩;exact(r.put ((ry.gro F).gro j)).imp λ_ _ h=>h.gro g4
   .exact d.elim
  .exact d.elim
 .exact d.elim
def Oa(i:Nat)(f:TY)(m:HME):HMS:=λc G=>match c[i]? with
 |some (some (.v (.i a)))=>(m c G).fw λy d=>match y with
  |.v (.i b)=>.nx (c.set i (some (.v (.i (f a b))))) d
  |_=>.wall
 |_=>.wall
def GY(j:X.N.Nodup)(hi:X.N[i]?=some x)(g:Loc X.env.scope x)(h:HE X W E e m)(B:PIp X op (ipI f))(hf:X.fn x=true\/X.env.scope.names.lookup x=some .local:=by first|exact .inl rfl|exact .inr rfl|assumption):
  HS X W E (.AugAssign (.Name x pos') op e pos) (Oa i f m):=λd=>by
 obtain⟨N,K,w⟩:=h d;refine⟨_,IK j hi g K B hf,λZ F A H l n G R D q=>?_⟩;unfold Oa at q;split at q
 .rename_i y s;obtain⟨v,J,C⟩:=R.var i _ s;refine⟨v,J,w Z F A H l n G R _ (HPs.bind q λz t M O I L c u r=>?_)⟩;split at c
  .rename_i b;exact⟨y,b,C,r,c t M _ ((R.gro I L).set rfl) Gro.refl⟩
  .exact c.elim
 .exact q.elim
def yA(c:HMT)(b:HMS):Nat->Qd->AH->HFw
 |0,_,_=>.wall
 |n+1,g,G=>(c g G).fw λt h=>if t=true then match b g h with
   |.nx d f=>yA c b n d f
   |.ct d f=>yA c b n d f
   |.bk d f=>.nx d f
   |.rt v f=>.rt v f
   |.exc c fs f=>.exc c fs f
   |.wall=>.wall
  else .nx g h
open Classical in
def iq(c:HMT)(b:HMS):HMS:=λd G=>if h:∃n,yA c b n d G≠.wall then yA c b (choose h) d G else .wall
def CQ(hp:PassesOwn (a32 X) X.A X.env X.xe)(O:HT X W E c mc)(Q:HSs X W E body mb):HS X W E (.While c body [] pos) (iq mc mb):=λB=>by
 obtain⟨tc,U,P⟩:=O B;obtain⟨tb,N,S⟩:=Q B;refine⟨_,oG hp U N,λZ K A H σ M G R D q=>?_⟩;unfold iq at q;split at q
 .rename_i h;generalize Classical.choose h=n0 at q;refine⟨λn g v=>∃d s l,HR Z s v g d l/\HPs Z E s l.length v D (yA mc mb n d l),⟨n0,M,A,G,R,q⟩,?_⟩
  rintro n g v ⟨d,s,l,C,w⟩
  cases n with
  |zero=>exact w.elim
  |succ n=>
   refine P Z K s v g d l C _ (HPs.bind w λk F L J T Y t=>?_);have I:=C.gro T Y;dsimp only[KT'];cases k with
   |false=>exact En (t F L g I Gro.refl)
   |true=>
    refine Eo ⟨λj u=>∃d s l,HR Z s u j d l/\HPs Z E s l.length u D (yA mc mb n d l),λj u h=>⟨n,a0T n,h⟩,S Z K F L g d J I _ ?_⟩;revert t;cases mb d J with
    |nx f r=>exact λt z u j R2 y=>⟨f,z,r,R2,HPs.gro t y⟩
    |ct f r=>exact λt z u j R2 y=>⟨f,z,r,R2,HPs.gro t y⟩
    |bk f r=>exact id
    |rt x r=>exact id
    |exc c fs r=>exact id
    |wall=>exact id
 .exact q.elim
end
abbrev HMG:=HV->Qd->Option Qd
def HG(X:Cx)(W:RC)(f:SN)(e:HMG):Prop:=X.K=W.K->∃g,PG X f g/\∀(Z:HC),Z.W=W->∀A H d c G x v,HR Z A H d c G->kB Z.W (HM Z A G.length) A G.length H x v->∀Q:St->Hp->Prop,(∃b,e x c=some b/\∀a,HR Z A H a b G->Q a H)->g v d H Q
abbrev Sv:=List HV->Qd->Option Qd
def hgN(i:Nat):HMG:=λx a=>some (a.set i (some x))
def fk(c:X.N.Nodup)(hi:X.N[i]?=some x)(a:Loc X.env.scope x)(hf:X.fn x=true\/X.env.scope.names.lookup x=some .local:=by first|exact .inl rfl|exact .inr rfl|assumption):HG X W (.Name x pos) (hgN i):=
 λ_=>⟨_,uc c hi a hf,λZ f A H g d G x v R r Q ⟨b,e,k⟩=>by cases e;exact k _ (R.set r)⟩
def Xf(g:HMG)(b:HMS):List HV->Qd->AH->HFw
 |[],e,G=>.nx e G
 |x::h,e,G=>match g x e with
  |none=>.wall
  |some f=>match b f G with
   |.nx a d=>Xf g b h a d
   |.ct a d=>Xf g b h a d
   |.bk a d=>.nx a d
   |.rt v d=>.rt v d
   |.exc c fs d=>.exc c fs d
   |.wall=>.wall
def isZ:Cell->Bool
 |.z _=>true
 |_=>false
def CS(A:SJ)(G:AH)(a:Addr):Prop:=∃k c,G[k]?=some c/\isZ c=false/\A k=a
section
variable {W:RC}{E:XK}{Z:HC}{A A':SJ}{H H':Hp}{G G':AH}{σ:St}{ρ:Qd}{D:Ends}
def dF.live{M:SD}{n:Nat}{p:Addr}:∀{c:Cell},dF W M A n H p c->isZ c=false->∃o,H p=Option.some o/\¬Imm o
 |.l _,⟨_,e,_⟩,_=>⟨_,e,id⟩
 |.d _,⟨_,e,_⟩,_=>⟨_,e,id⟩
 |.z _,_,h=>by cases h
 |.o _ _,⟨_,_,e,_⟩,_=>⟨_,e,id⟩
 |.y _,⟨_,_,e,_⟩,_=>⟨_,e,id⟩
 |.m _ _ _,⟨_,_,e,_⟩,_=>⟨_,e,id⟩
def dF.zed{M:SD}{n:Nat}{p:Addr}:∀{c:Cell},dF W M A n H p c->isZ c=true->∃o,H p=Option.some o/\Imm o
 |.l _,_,h=>by cases h
 |.d _,_,h=>by cases h
 |.z _,⟨_,_,e,_⟩,_=>⟨_,e,trivial⟩
 |.o _ _,_,h=>by cases h
 |.y _,_,h=>by cases h
 |.m _ _ _,_,h=>by cases h
def Gro.rest(h:HH Z A H G)(h':HH Z A' H' G')(g:Gro Z A G.length H A' G'.length H'):Fr (λa=>¬CS A G a) H H':=λa o e m=>by
 rcases m with m|m
 .by_cases c:∃k,k<G.length/\A k=a
  .obtain⟨k,b,rfl⟩:=c;have f:=T7 b;have hz:isZ G[k]=true:=by
    cases z:isZ G[k]with
    |true=>rfl
    |false=>exact absurd ⟨k,_,f,z,rfl⟩ m
   obtain⟨j,d,i⟩:=(h.cell k _ f).zed hz;rw[d]at e;cases e;exact g.fr _ _ d (.inr i)
  .cases q:Z.H0 a with
   |none=>exact g.fr a o e (.inl ⟨.inr q,λk b z=>c ⟨k,b,z⟩⟩)
   |some u=>have:=h.same a u q;rw[e]at this;cases this;exact h'.same a _ q
 .exact g.fr a o e (.inr m)
open Classical in
def bsH(Z:HC)(A:SJ)(H:Hp)(G:AH):Bs:=⟨λa=>if CS A G a then none else H a,HM Z A G.length,λ_=>False,λ_ h=>h.elim,none,CS A G⟩
def Pu(R:HR Z A H σ ρ G)(e:Kb bs ρ=some r)(g:S.all (·==0)=true):Rel Z.W (bsH Z A H G) S (λ_=>0) H σ r:=by
 have d:∀{k:Nat},S[k]?=some 2->False:=λ{k} h=>by have:=Ms g h;omega
 have q:∀{k:Nat},S[k]?=some 1->False:=λ{k} h=>by have:=Ms g h;omega
 refine⟨λa o h=>?_,R.len.trans (V9 e).symm,λi x l=>?_,λi b=>(d b).elim,λi j b=>(d b).elim,λb=>(d b).elim,λa h=>?_,λi b=>(d b).elim⟩
 .unfold bsH at h;dsimp only at h;split at h
  .cases h
  .exact h
 .obtain⟨v,u,p⟩:=R.var i _ (V8 e l);refine⟨v,u,λz=>(d z).elim,λz=>(q z).elim,λ_ _=> p.sub λa m _=>⟨⟨.inl m,λ⟨k,c,f,_,n⟩=>m.2 k (S7.mp f).1 n⟩,λi b=>(d b).elim⟩⟩
 .obtain⟨k,c,f,hz,rfl⟩:=h;obtain⟨o,t,s⟩:=(R.toHH.cell k c f).live hz;exact⟨o,t,s,by unfold bsH;dsimp only;rw[if_pos ⟨k,c,f,hz,rfl⟩]⟩
def fm(P:Z.W=W)
  (hi:∀R:It->Hp->Prop,(∀J u,zr H u->Gu Z.W (HM Z A G.length) (λa=>¬CS A G a) u J xs->R J u)->wi σ H R)
  (hg:∀(Z:HC),Z.W=W->∀A H σ ρ G x v,HR Z A H σ ρ G->kB Z.W (HM Z A G.length) A G.length H x v->∀Q:St->Hp->Prop,(∃b,mg x ρ=some b/\∀d,HR Z A H d b G->Q d H)->g v σ H Q) (hb:LHS W E tb mb) (R:HR Z A H σ ρ G) (q:HPs Z E A G.length H D (Xf mg mb (xs.map .v) ρ G)):Ik wi g tb D σ H:=by
 refine hi _ λJ u S io=>?_;have R2:=R.keep S;have T:=HPs.gro q (Gro.same S);refine⟨λi n d H'=>n=xs.length-i/\i<=xs.length/\∃b A' G',HR Z A' H' d b G'/\Gro Z A G.length u A' G'.length H'/\HPs Z E A' G'.length H' D (Xf mg mb ((xs.drop i).map .v) b G'),⟨_,rfl,a0y _,ρ,A,G,R2,Gro.refl,T⟩,?_⟩
 rintro i n d H' ⟨rfl,Y,b,A',G',L,O,f⟩
 have w:=io H' (Gro.rest R2.toHH L.toHH O);by_cases r:i<xs.length
 .have U:=T7 r;obtain⟨go,yl⟩:=w.1 i _ U;refine .inr ⟨go,λy p=>i+1<=xs.length/\∃b A' G',HR Z A' p y b G'/\Gro Z A G.length u A' G'.length p/\HPs Z E A' G'.length p D (Xf mg mb ((xs.drop (i+1)).map .v) b G'),λy p h=>⟨xs.length-(i+1),by omega,rfl,h.1,h.2⟩,λv j hy=>?_⟩;obtain⟨C,ry⟩:=yl v j hy;have Ry:=L.keep C;have N:=O.trans (Gro.same C);have rx:=ry _ λa m hn=>N.sM a m hn;rw[a0Y r,T6]at f;unfold Xf at f;split at f
  .exact f.elim
  .rename_i t F;refine hg Z P A' j d b G' _ v Ry (show kB Z.W _ _ _ j (.v xs[i]) v from rx) _ ⟨t,F,λM R1=>hb Z P A' j M t G' R1 _ ?_⟩;have f:=HPs.gro f (Gro.same C);revert f;cases mb t G' with
   |wall=>exact id
   |exc c fs s=>exact id
   |nx l s=>exact λf K H3 B I z=>⟨r,l,K,s,I,N.trans z,HPs.gro f z⟩
   |ct l s=>exact λf K H3 B I z=>⟨r,l,K,s,I,N.trans z,HPs.gro f z⟩
   |bk l s=>exact id
   |rt x s=>exact id
 .have e:i=xs.length:=by omega
  subst e;rw[a10]at f;exact .inl ⟨w.2,f A' H' d L Gro.refl⟩
end
def ir(bs:SI)(mi:MI)(g:HMG)(b:HMS):HMS:=λa G=>match Kb bs a with
 |some r=>match mi r with
  |.ok c=>Xf g b (c.map .v) a G
  |_=>.wall
 |none=>.wall
section
variable {X:Cx}{W:RC}{E:XK}{fr:Bool}{S:Sy}{tg jc:SN}{body:Ts}{mi:MI}{mg:HMG}{mb:HMS}{pos:Pos}
def m_(bs:SI)(hp:PassesOwn (a32 X) X.A X.env X.xe)(I:X.calm=true)(hi:IM X ⟨W,E,fr⟩ S false tg jc mi)(y:HG X W tg mg)(N:HSs X W E body mb)(n:S.all (·==0)=true:=by rfl)(U:∀x,foldedSetIterable jc X.env x=pure x:=by intro _;rfl):
  HS X W E (.For tg jc body [] pos) (ir bs mi mg mb):=λe=>by
 obtain⟨wi,Y,L⟩:=hi e;obtain⟨g,M,p⟩:=y e;obtain⟨tb,B,Q⟩:=N e;refine⟨_,oH hp I Y M B U,λZ P A H t ρ G R D q=>?_⟩;unfold ir at q;split at q
 .rename_i r K;split at q
  .rename_i xs c;subst P;refine fm rfl (λw k=>?_) p Q R q;refine L _ _ H t r (Pu R K n) w ?_;rw[c];intro J F s C;refine k J F s λu f=>?_;have n2:∀{k:Nat},S[k]?=some 2->False:=λ{k} h=>by have:=Ms n h;omega
   obtain⟨j,T⟩:=C u λa o h m=>f a o h (m.imp (λm z=>m.1 z) id);refine⟨λi x c=>⟨(j i x c).1,λv d l=>⟨((j i x c).2 v d l).1,λO sM=>((j i x c).2 v d l).2 O λa m hn=>sM a ?_ hn⟩⟩,T⟩;have b:HM Z A G.length a\/(bsH Z A H G).H0 a=none:=m.1.1;rcases b with b|b
   .exact b
   .unfold bsH at b;dsimp only at b;split at b
    .rename_i hl;exact absurd hl m.1.2
    .exact R.toHH.new a b
  .exact q.elim
 .exact q.elim
end
def hB(p:SU)(ms:HMA):HME:=λb G=>(ms b G).bind λc a=>match cH (je a 8) c with
 |some d=>match p d with
  |.ok z=>if imm z=true then .ok (.v z) a else .wall
  |_=>.wall
 |none=>.wall
def BU(n:Nat)(ms:HMS)(xs:List HV)(G:AH):HX HV:=match ms (xs.map some++List.replicate (n-xs.length) none) G with
 |.nx _ a=>.ok (.v .n) a
 |.rt x a=>.ok x a
 |.exc c fs a=>.exc c fs a
 |_=>.wall
def sQ{xs:List HV}{n k:Nat}{x:HV}(h:(xs.map some++List.replicate (n-xs.length) none)[k]?=some (some x)):xs[k]?=some x:=by grind
def CT(h:HH Z A H G)(r:yy Z.W (HM Z A G.length) A G.length H xs vs):HR Z A H (start N vs) (xs.map some++List.replicate (N.length-xs.length) none) G:=by
 refine⟨h,?_,λi x e=>?_⟩
 .unfold start;rw[S4,S4,f8,f8,a1n,a1n,r.len]
 .obtain⟨v,a,b⟩:=r.get (sQ e);have c:=(S7.mp a).1;refine⟨v,?_,b⟩;unfold start;rw[a0o (by grind),a0e,a];rfl
section
variable {P:SV}{w:S_}{K:Tj}{mg:Sx}{base:Heap}
def X9{x b:Str}{st:TB}{f:Addr}{t:Td}{N o:SA}{k n l:Nat}{W:RC}{ms:HMS}(F:Fun K x b st f t)(S:zl N o (zi st))(z:K=W.K)(u:o.length=l)(B:N.length=n)
  (h:∀(d:Value)(A:Tf)(a:List Env)(s:SE)(H:Hp)(E:XK),vF k (A.deeper (envOfC b (zi st) s.heap.objs.size f d))->HSs (thr (r8 (CXe P w) P w K mg base N b (zi st) f d A a s H E) E) W E (Ya st) ms):
  yz P w K mg base (CXe P w) (k+1) f t o (hsp W l (BU n ms)):=by
 subst B u;refine F.okX S xM λd A a s H X Q E J ⟨Z,C,G,p,U,u,D,r,q⟩=>?_;obtain⟨R,L,M⟩:=h d A a s H E J z;refine⟨R,L,M Z U C H _ _ G (CT D r) _ ?_⟩;unfold BU at q;revert q;cases ms (p.map some++List.replicate (N.length-p.length) none) G with
 |exc c fs g=>exact id
 |wall=>exact id
 |nx e g=>exact λq j m T R2 i=>q j m R2.toHH i .non rfl
 |rt y g=>exact λq j m v I i O=>q j m I i v O
 |bk e g=>exact λq=>q.elim
 |ct e g=>exact λq=>q.elim
end
def Zf(Z:HC)(a:Addr)(u:HO):HC:=⟨Z.W,λb=>if b=a then(match Z.H0 a with|none=>none|some _=>some u)else Z.H0 b,Z.M0⟩
section
variable {Z:HC}{A:SJ}{n:Nat}{H H':Hp}{a:Addr}{es:SH}{u u':HO}{W:RC}{M:SD}
def xO:(Zf Z a u).H0 b=none↔Z.H0 b=none:=by
 show(if b=a then _ else _)=none↔_;by_cases e:b=a
 .subst e;rw[if_pos rfl];cases Z.H0 b with
  |none=>exact a3k
  |some x=>exact⟨(λz=>by cases z),(λz=>by cases z)⟩
 .rw[if_neg e]
def fo:HM (Zf Z a u) A n=HM Z A n:=funext λb=>propext (and_congr (or_congr a3k xO) a3k)
def ML(h:Z.H0 a=none\/Z.H0 a=some u'):Zf (Zf Z a u) a u'=Z:=by
 unfold Zf;cases Z with
 |mk W d c=>
  dsimp only at h ⊢;congr 1
  funext b
  by_cases e:b=a
  .subst e;rw[if_pos rfl,if_pos rfl];rcases h with h|h<;>rw[h]
  .rw[if_neg e,if_neg e]
mutual
theorem kB.sw(d:Rd H a (.dK es))(f:Rd H' a (.dK es))(c:∀b,b≠a->H' b=H b):∀{x:HV}{v:V},kB W M A n H x v->kB W M A n H' x v
 |.v x,v,h=>Rep.sw d f c h
 |.g k,v,h=>h
 |.t i,v,h=>by unfold kB at h ⊢;obtain⟨p,g,e,r,q⟩:=h;exact⟨p,g,e,r.elim (λz=>.inl (JL d c z (λ_=>by nofun) λ_ _=>by nofun)) .inr,yy.sw d f c q⟩
theorem yy.sw(f:Rd H a (.dK es))(d:Rd H' a (.dK es))(c:∀b,b≠a->H' b=H b):∀{x:List HV}{v:SR},yy W M A n H x v->yy W M A n H' x v
 |[],v,h=>h
 |x::j,l,h=>by unfold yy at h ⊢;obtain⟨v,r,e,g,i⟩:=h;exact⟨v,r,e,kB.sw f d c g,yy.sw f d c i⟩
end
def dF.sw{p:Addr}(hp:p≠a)(f:Rd H a (.dK es))(h:Rd H' a (.dK es))(d:∀b,b≠a->H' b=H b):∀{c:Cell},dF W M A n H p c->dF W M A n H' p c
 |.l _,⟨g,e,q⟩=>⟨g,(d p hp).trans e,q.sw f h d⟩
 |.d _,⟨g,e,q⟩=>⟨g,(d p hp).trans e,q.imp λ_ _=>kB.sw f h d⟩
 |.z _,⟨o,g,e,q⟩=>⟨o,g,(d p hp).trans e,q.imp λ_ _=>kB.sw f h d⟩
 |.o _ _,⟨s,g,e,q⟩=>⟨s,g,(d p hp).trans e,q.imp λ_ _=>kB.sw f h d⟩
 |.y _,⟨l,j,e,q⟩=>⟨l,j,(d p hp).trans e,q⟩
 |.m _ _ _,⟨l,j,e,m,u,ws,t,v,i,r⟩=>⟨l,j,(d p hp).trans e,m,u,ws,t,v,(d m λz=>by
  rcases f with f|⟨o,f⟩
  .rw[<- z,i]at f;cases f
  .rw[<- z,i]at f;cases f).trans i,r⟩
def HH.sw(h:HH Z A H G)(m:HM Z A G.length a)(g:H a=some u)(l:DU es u)(f:DU es u'):HH (Zf Z a u') A (upd H a u') G:=by
 have n:Rd H a (.dK es):=l.rd g;have i:Rd (upd H a u') a (.dK es):=f.rd ze;have d:∀b,b≠a->upd H a u' b=H b:=λb z=>zh z;refine⟨λb o e=>?_,λk c e=>?_,h.inj,λk j=>xO.mpr (h.own k j)⟩
 .have e:(if b=a then(match Z.H0 a with|none=>none|some _=>some u')else Z.H0 b)=some o:=e;by_cases z:b=a
  .subst z;rw[if_pos rfl]at e;rw[ze];cases q:Z.H0 b with
   |none=>rw[q]at e;cases e
   |some x=>rw[q]at e;exact e
  .rw[if_neg z]at e;rw[zh z];exact h.same b o e
 .rw[fo];exact(h.cell k c e).sw (λz=>m.2 k (S7.mp e).1 z) n i d
def HR.sw(R:HR Z A H σ ρ G)(m:HM Z A G.length a)(d:H a=some u)(f:DU es u)(c:DU es u'):HR (Zf Z a u') A (upd H a u') σ ρ G:=
 ⟨R.toHH.sw m d f c,R.len,λi x e=>by
  obtain⟨v,g,h⟩:=R.var i x e;rw[fo];exact⟨v,g,h.sw (f.rd d) (c.rd ze) λb z=>zh z⟩⟩
def Gro.back(h:H a=some (.dK es))(g:Gro (Zf Z a (.frz o (.dK es))) A n (upd H a (.frz o (.dK es))) A' n' H'):Gro Z A n H A' n' (upd H' a (.dK es)):=by
 have d:HM (Zf Z a (.frz o (.dK es))) A n=HM Z A n:=fo;refine⟨g.le,g.agr,λk i f=>?_,λb q e m=>?_,λb e=>?_⟩
 .have:=g.fresh k i f;have c:A' k≠a:=λz=>by rw[z,ze]at this;cases this
  rwa [zh c]at this
 .by_cases z:b=a
  .subst z;rw[h]at e;rw[ze];exact e
  .rw[zh z];exact g.fr b q (by rw[zh z];exact e) (by rw[d];exact m)
 .have z:b≠a:=λz=>by rw[z,ze]at e;cases e
  rw[zh z]at e;have:=g.dom b e
  rwa [zh z]at this
def MM(h:HH Z A H G)(m:HM Z A G.length a)(s:H a=some (.dK es))(q:HPs Z E A G.length H D out):HPs (Zf Z a (.frz o (.dK es))) (Ef a es E) A G.length (upd H a (.frz o (.dK es))) (Df a es D) out:=by
 have t:DU es (.dK es):=.inl rfl;have p:DU es (.frz o (.dK es)):=.inr ⟨o,rfl⟩;have hz:Z.H0 a=none\/Z.H0 a=some (.dK es):=by
  cases q:Z.H0 a with
  |none=>exact .inl rfl
  |some x=>have:=h.same a x q;rw[s]at this;cases this;exact .inr rfl
 have fz:∀{f K j},Gro (Zf Z a (.frz o (.dK es))) A G.length (upd H a (.frz o (.dK es))) f K j->j a=some (.frz o (.dK es))/\HM Z f K a:=λg=>⟨g.fr a _ ze (.inr trivial),by
  have:=g.sM a (by rw[fo];exact m) (by rw[ze];exact λz=>by cases z)
  rwa [fo]at this⟩
 have bk:∀{f j i n l},HR (Zf Z a (.frz o (.dK es))) f j i n l->Gro (Zf Z a (.frz o (.dK es))) A G.length (upd H a (.frz o (.dK es))) f l.length j->HR Z f (upd j a (.dK es)) i n l:=λr d=>by
  have:=r.sw (by rw[fo];exact(fz d).2) (fz d).1 p t
  rwa [ML hz]at this
 have L:∀{f j l},HH (Zf Z a (.frz o (.dK es))) f j l->Gro (Zf Z a (.frz o (.dK es))) A G.length (upd H a (.frz o (.dK es))) f l.length j->HH Z f (upd j a (.dK es)) l:=λr d=>by
  have:=r.sw (by rw[fo];exact(fz d).2) (fz d).1 p t
  rwa [ML hz]at this
 cases out with
 |wall=>exact q
 |nx n l=>exact λf j i r d=>⟨⟨o,(fz d).1⟩,q f _ i (bk r d) (Gro.back s d)⟩
 |bk n l=>exact λf j i r d=>⟨⟨o,(fz d).1⟩,q f _ i (bk r d) (Gro.back s d)⟩
 |ct n l=>exact λf j i r d=>⟨⟨o,(fz d).1⟩,q f _ i (bk r d) (Gro.back s d)⟩
 |rt x l=>intro f j v B d I;refine⟨⟨o,(fz d).1⟩,q f _ v (L B d) (Gro.back s d) ?_⟩;rw[fo]at I;exact I.sw (p.rd (fz d).1) (t.rd ze) λb z=>zh z
 |exc c fs l=>
  intro f j e C N B d M F J;have w:Rd j a (.dK es):=p.rd (fz d).1;have u:e≠a:=UQ w M (λ_=>by nofun) λ_ _=>by nofun
  have y:C≠a:=UQ w F (λ_=>by nofun) λ_ _=>by nofun
  rw[fo]at J;exact⟨⟨o,(fz d).1⟩,q f _ e C N (L B d) (Gro.back s d) ((zh u).trans M) ((zh y).trans F) (J.sw w (t.rd ze) λb z=>zh z)⟩
end
def sR(i:Nat)(g:HMG)(b:HMS):HMS:=λc G=>match c[i]? with
 |some (some (.v (.d a)))=>Xf g b ((a.map λd=>kP d.1).map .v) c G
 |_=>.wall
def GZ(M:X.calm=true)(u:Own X)(O:∀b,PE (thr X b) jc (cE i))(F:∀b,HG (thr X b) W tg mg)(J:∀b,HSs (thr X b) W b body mb)(P:∀x,foldedSetIterable jc X.env x=pure x:=by intro _;rfl):
  HS (thr X E) W E (.For tg jc body [] pos) (sR i mg mb):=λp=>by
 refine⟨tFz (λb D r H=>∃g e,PG (thr X b) tg g/\PSs (thr X b) body e/\Ik (ie (cE i)) g e D r H) E,Mp λb l s r H D I ⟨g,e,h,n,q⟩=>oH (X:=thr X b) (zo u) M (V2 (O b)) h n P l s r H D I q,λZ N A H r S G R D q=>?_⟩;unfold sR at q;split at q
 .rename_i d K;obtain⟨v,j,a,c,rfl,m,w,rk⟩:=R.var i _ K;have C:=(qY.iff.mp rk).1;subst N;rcases w with f|⟨o,f⟩
  .refine .inl ⟨a,c,f,λo=>?_⟩;obtain⟨g,h,z⟩:=F (Ef a c E) p;obtain⟨e,n,B⟩:=J (Ef a c E) p;have L:=R.sw m f (.inl rfl) (.inr ⟨o,rfl⟩);refine⟨g,e,h,n,fm (Z:=Zf Z a (.frz o (.dK c))) rfl (λQ t=>?_) z B L (MM R.toHH m f q)⟩;exact⟨.ref a,j,a,o,c,rfl,ze,t _ _ (zr.refl _) (Qo ze C)⟩
  .obtain⟨g,h,z⟩:=F E p;obtain⟨e,n,B⟩:=J E p;refine .inr ⟨g,e,h,n,fm rfl (λQ t=>?_) z B R q⟩;exact⟨.ref a,j,a,o,c,rfl,f,t _ _ (zr.refl _) (Qo f C)⟩
 .exact q.elim
def Pw{st:TB}{i:TE}(h:PS X st (FG i (eM j))):PS X st (FG (tGz i) (eM j)):=by
 intro c s g H D I q;rcases q with⟨a,m,n,q⟩|q
 .obtain⟨o,p⟩:=I.Pe n;have hz:=I.px n;refine thn (h c s g _ { nx:=λb l=>(∃o,l a=some (.frz o (.dK m)))/\D.nx b (upd l a (.dK m)),rt:=λ_ _=>False } p (q o)) λf w z=>?_;cases f with
  |next=>obtain⟨b,e,J,⟨r,hf⟩,d⟩:=z;exact⟨b,_,J.GL hf hz,d⟩
  |brk=>obtain⟨b,e,J,d⟩:=z;exact d.elim
  |cont=>obtain⟨b,e,J,d⟩:=z;exact d.elim
  |ret u=>obtain⟨v,b,e,J,t,d⟩:=z;exact d.elim
 .exact h c s g H D I q
def MN(bs:SI)(N:SA)(fr:SW)(b:Sy)(m:X.N.Nodup)(p:X.N[j]?=some y)(G:X.env.scope.names.lookup y=some .local)(q:X.calm=true)(h:tY X scope N fr=true)(w:PE X jc (cE i))(n:∀z:CI,GM (cxI X scope N z) ⟨W,E0,false⟩ b b tg mg)(F:∀z:CI,TsM (cxI X scope N z) ⟨W,E0,false⟩ b ifs mc)(he:∀z:CI,EM (cxI X scope N z) ⟨W,E0,false⟩ b false elt me)(f:S[i]?≠some 2:=by decide)(B:b=inS S fr:=by rfl)(r:S.all (·==0)=true:=by rfl)
  (e:swapsWith (.ListComp elt [⟨tg,jc,ifs,0⟩] scope pos) (some (.Name y py)) t8.line X.env=pure true:=by rfl) (D:∀x,foldedSetIterable jc X.env x=pure x:=by intro _;rfl):HS X W E (.Assign [.Name y py] (.ListComp elt [⟨tg,jc,ifs,0⟩] scope pos) t8) (Xn j (hF bs (mLC (zP i) fr mg mc me))):=λd=>by
 obtain⟨g,u,l⟩:=aZ n λ_=>d;obtain⟨I,o,v⟩:=aY F λ_=>d;obtain⟨J,A,t⟩:=e_ he λ_=>d;exact⟨_,Pw (Lm N fr m p G q h (V2 w) (λa c s H L=>u ⟨a,c,s,H,L⟩) (λa c s H L=>o ⟨a,c,s,H,L⟩) (λa c s H L=>A ⟨a,c,s,H,L⟩) e D),EX (Rm bs (EO (C:=⟨W,E,false⟩) f B l v t) r)⟩
def G0{P:SV}{w:S_}{K:Tj}{g:Sx}{a:Heap}{CX:CXT}{k n:Nat}{f:Addr}{c:Td}{b:SA}{W:RC}(e:b.length=n):yz P w K g a CX k f c b (hsp W n λ_ _=>.wall):=
 ⟨λd H Q E h=>(xM d H Q E h).trans e.symm,λ_ _ _ _ _ _ _ _ _ _ _ _ _ h=>h.choose_spec.choose_spec.choose_spec.choose_spec.2.2.2.2.elim⟩
def ng{a:Type}:List (a×HV)->Option (List (a×PV))
 |[]=>some []
 | (k,.v x)::b=>(ng b).map ((k,x)::·)
 |_::_=>none
def CU:Cell->Option PV
 |.l b=>(EV b).map .l
 |.d a=>(ng a).map .d
 |.z a=>(ng a).map .d
 |.o c fs=>(ng fs).map (.o c)
 |.y _=>none
 |.m _ _ _=>none
def sres(G:AH):HV->Option PV
 |.v x=>some x
 |.t a=>(EV a).map .t
 |.g k=>(G[k]?).bind CU
def mD(G:AH):List Bool->Qd->Option Sto
 |_,[]=>some []
 |[],_::a=>(mD G [] a).map (none::·)
 |false::bs,_::a=>(mD G bs a).map (none::·)
 |true::bs,some x::a=>(sres G x).bind λy=>(mD G bs a).map (some y::·)
 |true::_,none::_=>none
section
variable {Z:HC}{A:SJ}{H:Hp}{G:AH}{σ:St}{ρ:Qd}
theorem fq{W:RC}{M:SD}{n:Nat}:∀{a:List (Key×HV)}{b:SY}{c:SH},ng a=some b->qw (kB W M A n H) a c->qY W M H b c
 |[],_,_,e,h=>by cases e;exact h
 | (k,.v x)::a,b,_,e,h=>by obtain⟨i,f,rfl⟩:=v0.mp e;obtain⟨v,r,rfl,g,d⟩:=h;exact⟨v,r,rfl,g,fq f d⟩
 | (_,.g _)::_,_,_,e,_=>by cases e
 | (_,.t _)::_,_,_,e,_=>by cases e
theorem pF{W:RC}{M:SD}{n:Nat}:∀{a:List (Str×HV)}{b:Tc}{c:Tg},ng a=some b->qw (kB W M A n H) a c->j5 W M H b c
 |[],_,_,e,h=>by cases e;exact h
 | (k,.v x)::a,b,_,e,h=>by obtain⟨i,f,rfl⟩:=v0.mp e;obtain⟨v,r,rfl,g,d⟩:=h;exact⟨v,r,rfl,g,pF f d⟩
 | (_,.g _)::_,_,_,e,_=>by cases e
 | (_,.t _)::_,_,_,e,_=>by cases e
def CV(h:HH Z A H G)(r:kB Z.W (HM Z A G.length) A G.length H x v)(e:sres G x=some y):yK Z.W (λa=>H a≠none) (HM Z A G.length) H y v:=by
 cases x with
 |v z=>have e:=e;cases e;exact yK.sub (yK.iff.mpr r) (λ_ _ n=>n) λ_ m _=>m
 |t i=>obtain⟨w,u,rfl⟩:=v0.mp (show(EV i).map PV.t=some y from e);obtain⟨p,j,rfl,s,q⟩:=r;exact⟨p,j,rfl,s,aj u q⟩
 |g k=>
  obtain⟨D,rfl⟩:=r;obtain⟨c,B,e⟩:=a0l.mp (show(G[k]?).bind CU=some y from e);cases c with
  |y b=>cases e
  |m _ _ _=>cases e
  |l i=>obtain⟨w,u,rfl⟩:=v0.mp (show(EV i).map PV.l=some y from e);obtain⟨j,f,q⟩:=h.cell k _ B;exact⟨A k,j,rfl,(λz=>by(rw[f]at z;cases z)),f,aj u q⟩
  |d i=>obtain⟨w,u,rfl⟩:=v0.mp (show(ng i).map PV.d=some y from e);obtain⟨j,f,q⟩:=h.cell k _ B;exact⟨A k,j,rfl,(λz=>by(rw[f]at z;cases z)),.inl f,fq u q⟩
  |z i=>obtain⟨w,u,rfl⟩:=v0.mp (show(ng i).map PV.d=some y from e);obtain⟨o,j,f,q⟩:=h.cell k _ B;exact⟨A k,j,rfl,(λz=>by(rw[f]at z;cases z)),.inr ⟨o,f⟩,fq u q⟩
  |o c i=>obtain⟨w,u,rfl⟩:=v0.mp (show(ng i).map (PV.o c)=some y from e);obtain⟨C,j,f,q⟩:=h.cell k _ B;exact⟨A k,C,j,rfl,(λz=>by(rw[f]at z;cases z)),f,pF u q⟩
theorem JP:∀{bs:SI}{ρ:Qd}{r:Sto}{i:Nat}{x:PV},mD G bs ρ=some r->r[i]?=some (some x)->i<bs.length/\∃y,ρ[i]?=some (some y)/\sres G y=some x
 |_,[],r,i,x,e,h=>by cases e;simp at h
 |[],_::ρ,r,i,x,e,h=>by
  obtain⟨b,a,rfl⟩:=v0.mp e;cases i with
  |zero=>cases h
  |succ i=>exact absurd (JP a h).1 (a09 _)
 |false::bs,_::ρ,r,i,x,e,h=>by
  obtain⟨b,a,rfl⟩:=v0.mp e;cases i with
  |zero=>cases h
  |succ i=>exact⟨a2V (JP a h).1,(JP a h).2⟩
 |true::bs,some y::ρ,r,i,x,e,h=>by
  obtain⟨z,c,e⟩:=a0l.mp e;obtain⟨b,a,rfl⟩:=v0.mp e;cases i with
  |zero=>cases h;exact⟨a2U _,y,rfl,c⟩
  |succ i=>exact⟨a2V (JP a h).1,(JP a h).2⟩
 |true::bs,none::ρ,r,i,x,e,h=>by cases e
theorem ak:∀{bs:SI}{ρ:Qd}{r:Sto},mD G bs ρ=some r->r.length=ρ.length
 |_,[],r,e=>by cases e;rfl
 |[],_::ρ,r,e=>by obtain⟨b,a,rfl⟩:=v0.mp e;rw[v4,v4,ak a]
 |false::bs,_::ρ,r,e=>by obtain⟨b,a,rfl⟩:=v0.mp e;rw[v4,v4,ak a]
 |true::bs,some y::ρ,r,e=>by obtain⟨z,c,e⟩:=a0l.mp e;obtain⟨b,a,rfl⟩:=v0.mp e;rw[v4,v4,ak a]
 |true::bs,none::ρ,r,e=>by cases e
def Px(R:HR Z A H σ ρ G)(e:mD G bs ρ=some r)(q:S.all (·==1)=true)(o:bs.length<=S.length):Rel Z.W (BQ H (HM Z A G.length)) S (λ_=>0) H σ r:=by
 have one:∀{k c:Nat},S[k]?=some c->c=1:=λ{k c} h=>by have:=a1v.mp q c (a0Q h);simpa using this
 have d:∀{k:Nat},S[k]?=some 2->False:=λ{k} h=>by have:=one h;omega
 refine⟨zr.refl _,R.len.trans (ak e).symm,λi x h=>?_,λi b=>(d b).elim,λi j b=>(d b).elim,λb=>(d b).elim,λa h=>h.elim,λi b=>(d b).elim⟩;obtain⟨b,y,p,l⟩:=JP e h;obtain⟨v,s,g⟩:=R.var i y p;have f:S[i]?=some 1:=by have t:i<S.length:=a0c b o;have:=T7 t;rw[this,one this]
 exact⟨v,s,λz=>(d z).elim,λ_=>yK.sub (CV R.toHH g l) (λ_ n _=>n) λa m _=>⟨⟨.inl m,id⟩,λi b=>(d b).elim⟩,λ_ z=>absurd f z⟩
end
def pD1(x:PV):PV->Out PV
 |.i n=>match pk x with|some k=>.ok (.d [(k,.i n)])|none=>.wall
 |_=>.wall
def mD1(mk mv:ME):ME:=λa=>(mk a).bind λx=>(mv a).bind λy=>pD1 x y
def MP(K:EM X C S w1 a m1)(F:EM X C S w2 b m2):FM X C S (.Dict [some a] [b] pos) (mD1 m1 m2):=λt=>by
 obtain⟨N,M,G⟩:=K t;obtain⟨O,I,A⟩:=F t;refine⟨_,F5 (B_ M I F4) rfl rfl (by simp) (show 1<=15 by decide),λB P H e d R Q q=>λp hp=>?_⟩;have r:zr H (upd H p (.dK [])):=zr.upd hp;unfold mD1 at q;refine G B P _ e d (R.keep r) _ ?_;cases s:m1 d with
 |exc c fs=>rw[s]at q;exact q
 |wall=>rw[s]at q;exact q
 |ok x=>
  rw[s]at q;intro v T l D;refine A B P _ e d (R.keep (r.trans l)) _ ?_;cases f:m2 d with
  |exc c fs=>have q:=q;rw[f]at q;exact q
  |wall=>have q:=q;rw[f]at q;exact q
  |ok y=>
   have q:=q;rw[f]at q;intro u E w J;have q:=q;cases y with
   |i n=>
    cases m:pk x with
    |none=>have q:zF C B H _ Q (match pk x with|some k=>.ok (.d [(k,.i n)])|none=>.wall):=q;rw[m]at q;exact q.elim
    |some k=>
    have q:zF C B H _ Q (match pk x with|some k=>.ok (.d [(k,.i n)])|none=>.wall):=q;rw[m]at q;have ev:=eU (D.weak) m;have L:=J.weak;subst ev L;have g:=(l.trans w) _ _ ze;refine⟨g,[(k,.int n)],rfl,by show 1<=15;decide,q _ _ (λc o j=>?_) ⟨p,rfl,hp,[(k,.int n)],ze,⟨_,_,rfl,rfl,rfl⟩⟩⟩;have:c≠p:=λz=>by rw[z,hp]at j;cases j
    rw[zh this];exact(r.trans (l.trans w)) _ _ j
   |_=>exact q.elim
def cI(G:AH):Nat->HV->Option PV
 |0,_=>none
 |_+1,.v x=>if imm x=true then some x else none
 |n+1,.t a=>(cH (cI G n) a).map .t
 |n+1,.g k=>match G[k]? with
  |some (.l a)=>(cH (cI G n) a).map .l
  |some (.d b)=>(il (cI G n) b).map .d
  |_=>none
section
variable {Z:HC}{A:SJ}{H:Hp}{G:AH}
theorem ao{N:SD}(h:HH Z A H G)(b:∀k,k<G.length->N (A k)):∀(n:Nat)(x:HV)(v:V)(y:PV),kB Z.W (HM Z A G.length) A G.length H x v->cI G n x=some y->Rep Z.W N H y v
 |0,_,_,_,_,e=>by cases e
 |n+1,.v x,v,y,r,e=>by
  unfold cI at e;split at e
  .rename_i l;cases e;exact bb l r
  .cases e
 |n+1,.t g,v,y,r,e=>by obtain⟨i,c,rfl⟩:=v0.mp e;obtain⟨p,a,rfl,s,q⟩:=r;exact⟨p,a,rfl,s,Yg (ao h b n) q c⟩
 |n+1,.g k,v,y,r,e=>by
  obtain⟨j,rfl⟩:=r;unfold cI at e;split at e
  .rename_i g d;obtain⟨i,c,rfl⟩:=v0.mp e;obtain⟨a,f,q⟩:=h.cell k _ d;exact⟨A k,a,rfl,b k j,f,Yg (ao h b n) q c⟩
  .rename_i g d;obtain⟨i,c,rfl⟩:=v0.mp e;obtain⟨a,f,q⟩:=h.cell k _ d;exact⟨A k,a,rfl,b k j,.inl f,JO (ao h b n) q c⟩
  .cases e
def CW:HH ⟨Z.W,H,λ_=>True⟩ A H []:=⟨zr.refl _,λk c e=>(by cases e),λj k a=>absurd a (a09 _),λk b=>absurd b (a09 _)⟩
def dG(g:Gro ⟨Z.W,H,λ_=>True⟩ A 0 H A' n H'):zr H H':=λa o e=>g.fr a o e (.inl ⟨.inl trivial,λk b=>absurd b (a09 _)⟩)
end
def vOf(g:List HV->AH->HX HV)(xs:SX):Out PV:=match g (xs.map .v) []with
 |.ok y X=>match cI X 8 y with
  |some z=>.ok z
  |none=>.wall
 |.exc c fs _=>if BS fs=true then .exc c fs else .wall
 |.wall=>.wall
theorem EY{W:RC}{M:SD}{H:Hp}{Z:HC}{A:SJ}(d:∀a,HM Z A 0 a):∀{ws:SI}{e:SX}{f:SR},jC W M H ws e f->yy W (HM Z A 0) A 0 H (e.map .v) f
 |[],_,_,⟨c,b⟩=>by subst c;exact b
 |w::ws,_,_,⟨x,v,j,g,c,b,i,h⟩=>by subst c;exact⟨v,g,b,yK.iff.mp (yK.sub i (λa _ _=>d a) λa _ _=>d a),EY d h⟩
def xP{P:SV}{w:S_}{K:Tj}{o:Sx}{b:Heap}{k n:Nat}{f:Addr}{l:Td}{p:SA}{W:RC}{g:List HV->AH->HX HV}{ws:SI}(F:yz P w K o b (CXe P w) k f l p (hsp W n g))(G:ws.length=n):yz P w K o b (CXe P w) k f l p (lsp W false ws (vOf g)):=
 F.imp λJ H Q E ⟨M,j,a,q⟩=>by
  have D:∀a,HM ⟨W,H,λ_=>True⟩ (λ_=>0) 0 a:=λa=>⟨.inl trivial,λk i=>absurd i (a09 _)⟩;refine⟨⟨W,H,λ_=>True⟩,λ_=>0,[],j.map .v,rfl,by rw[f8,a.len.2,G],CW (Z:=⟨W,H,λ_=>True⟩),EY D a,?_⟩;unfold vOf at q;revert q;cases g (j.map .v) []with
  |wall=>exact λq=>q.elim
  |exc c fs r=>
   intro q;dsimp only at q;split at q
   .rename_i u;exact λs h e t x m d I C B=>q e t x h (dG (Z:=⟨W,H,λ_=>True⟩) d) I C (JN u B)
   .exact q.elim
  |ok y r=>
   intro q;dsimp only at q;split at q
   .rename_i z hz;intro s h m d v A;exact q v h (dG (Z:=⟨W,H,λ_=>True⟩) d) (show Rep W _ h z v from ao m (λk i=>.inr (d.fresh k (a0y _) i)) 8 y v z A hz)
   .exact q.elim
section
variable {X:Cx}{C:LC}{S Sb Sc:Sy}{e:SN}{pos p pos':Pos}{x y:Str}{i j:Nat}{f:Addr}
theorem zU.MQ{W:RC}{M:SD}{H:Hp}:∀{xs:SX}{vs:SR},zU W M H xs vs->zU W M H xs.dropLast vs.dropLast
 |[],_,h=>by cases h;exact rfl
 |[x],_,⟨v,r,e,_,h⟩=>by subst e;cases h;exact rfl
 |x::y::xs,_,⟨v,r,e,h1,h2⟩=>by subst e;obtain⟨u,r',e',h3,h4⟩:=h2;subst e';have:=zU.MQ (xs:=y::xs) ⟨u,r',rfl,h3,h4⟩;exact⟨v,_,rfl,h1,this⟩
def sS(i j:Nat):MS:=λb=>match b[i]? with
 |some (some (.l a))=>match a[a.length-1]? with
  |some y=>.ok (.nx ((b.set i (some (.l a.dropLast))).set j (some y)))
  |none=>.wall
 |_=>.wall
def G4(l:X.N.Nodup)(n:X.N[j]?=some x)(c:Loc X.env.scope x)(u:PE X o (cE i))(hi:S[i]?=some 2:=by rfl)(t:attributeBase o "pop" X.env (eval o X.env)=eval o X.env:=by rfl)(A:(jK.endLine==p.line)=true:=by rfl)(z:swapsWith (.Call (.Attribute o "pop" jK) [] [] p) (some (.Name x pos')) pos.line X.env=pure false:=by rfl)(hf:X.fn x=true\/X.env.scope.names.lookup x=some .local:=by first|exact .inl rfl|exact .inr rfl|assumption):
  SM X C S (S.set j 0) Sb Sc (.Assign [.Name x pos'] (.Call (.Attribute o "pop" jK) [] [] p) pos) (sS i j):=λF=>by
 refine⟨_,oF l n c (IZ a1A PySem.F.slot_list_pop PySem.F.type_list_pop I0 u t A) z hf,λB P H G I R D q=>?_⟩;unfold sS at q;split at q
 .rename_i r c;obtain⟨a,⟨b,hp,d⟩,E⟩:=R.at2 hi c;split at q
  .rename_i y s;obtain⟨v,h,w⟩:=d.get s;have h:b[b.length-1]?=some v:=by rw[d.len];exact h
   have f:=Mof.wr (o:=.lst b.dropLast) R hi;refine⟨_,a,.inl ⟨rfl,_,SqL.of hp⟩,_,b,v,rfl,rfl,hp,h,q P _ _ ((R.wr (x':=.l r.dropLast) (o:=.lst b.dropLast) hi E a (by exact id) ⟨_,ze,d.MQ.gen f λ_ m _=>m⟩).set (w.gen f λ_ m _=>m))⟩
  .exact q.elim
 .exact q.elim
end
def signsOf:PV->Out (List PV)
 |.s z=>.ok (z.cps.toList.map λc=>.s ⟨#[c]⟩)
 |_=>.wall
def iu(m:ME):MI:=λa=>(m a).bind signsOf
def MR:Gu W M N H2 (Its z) (z.cps.toList.map λc=>PV.s ⟨#[c]⟩):=λh f=>by refine⟨λi x d=>?_,by rw[f8];exact a2b a1b.symm⟩;rw[a0e]at d;obtain⟨c,b,rfl⟩:=v0.mp d;rw[a12]at b;refine⟨(a1M.mp b).1,λv e g=>?_⟩;obtain⟨rfl,j,a,rfl⟩:=g;rw[b]at a;cases a;exact⟨zr.refl _,λ_ _=>rfl⟩
def MU(h:EM X C S w e m):IM X C S cc (.Name y py) e (iu m):=λd=>by
 obtain⟨j,f,b⟩:=h d;refine⟨_,Lo f,λB P H i a R Q q=>b B P H i a R _ ?_⟩;unfold iu at q;revert q;cases m a with
 |exc c fs=>exact id
 |wall=>exact id
 |ok x=>
  intro q v g s r;cases x with
  |s z=>have ev:=r.weak;exact⟨z,ev,q _ g s MR⟩
  |_=>exact q.elim
open Classical in
def hide(H:Hp)(R:To):Hp:=λa=>if a∈R then none else H a
def nh(h:a∈R):hide H R a=none:=if_pos h
def Yh(h:a∉R):hide H R a=H a:=if_neg h
def CY:hide H []=H:=funext λa=>Yh (by simp)
def iw:zr (hide H (p::R)) (hide H R):=λa o h=>by
 by_cases m:a∈p::R
 .rw[nh m]at h;cases h
 .rw[Yh m]at h;rw[Yh λz=>m (S0 _ z)];exact h
theorem pG{W:RC}{M:SD}{A:SJ}{n:Nat}{H:Hp}:∀{c:To}{b:Sy},b.length=c.length->(∀(i:Nat) j p,b[i]?=some j->c[i]?=some p->j<n/\A j=p)->yy W M A n H (b.map .g) (c.map .ref)
 |[],[],_,_=>by rfl
 |p::c,j::b,a,h=>by refine⟨_,_,rfl,?_,pG (Nat.succ.inj a) λi j p d e=>h (i+1) j p d e⟩;obtain⟨d,e⟩:=h 0 j p rfl rfl;exact⟨d,by rw[e]⟩
 |[],_::_,a,_=>by cases a
 |_::_,[],a,_=>by cases a
def G5{g:Type}{Y:g->Cx}(h:∀z,FM (Y z) C S e m)(c:∀z,(Y z).K=C.W.K):∃d,(∀z,PE (Y z) e d)/\LFr C S d m:=
 ⟨λb H Q=>∀z,(Classical.choose (h z (c z))) b H Q,λz a s b H Q I q=>(a0A (h z (c z))).1 a s b H Q I (q z),λB P H b f R Q q z=>(a0A (h z (c z))).2 B P H b f R Q q⟩
def G6(kvs:SY)(y:PV):Out PV:=match pk y with
 |some k=>.ok ((zm kvs k).getD .n)
 |none=>.wall
def Ob(d c:ME):ME:=λb=>(d b).bind λx=>match x with
 |.d a=>(c b).bind (G6 a)
 |_=>.wall
def MV(I:X.A.units+1<cLine)(M:EM X C S w1 o m1)(E:EM X C S w2 e m2)(m:M1 X o "get" jK e Qa):EM X C S false (.Call (.Attribute o "get" jK) [e] [] Qa) (Ob m1 m2):=λr=>by
 obtain⟨W,O,F⟩:=M r;obtain⟨U,G,A⟩:=E r;refine⟨_,Ca I O G m,λB P H s h R Q q=>F B P H s h R _ (jd q λx v T K D t=>?_)⟩;cases x with
 |d a=>
  obtain⟨p,c,rfl,_,w,rk⟩:=D.weak;refine⟨p,rfl,.inl ⟨c,w⟩,A B P T s h (R.keep K) _ (jd t λy u i n L b=>?_)⟩;cases l:pk y with
  |none=>
   have e:G6 a y=.wall:=by unfold G6;rw[l]
   rw[e]at b;exact b.elim
  |some k=>
   have e:G6 a y=.ok ((zm a k).getD .n):=by unfold G6;rw[l]
   rw[e]at b;have N:=eU L.weak l;subst N;have j:Rd i p (.dK c):=w.elim (λz=>.inl (n _ _ z)) λ⟨o,z⟩=>.inr ⟨o,n _ _ z⟩;refine⟨dz c k,.inl ⟨c,k,j,rfl,rfl⟩,?_⟩;cases g:zm a k with
   |none=>rw[g]at b;rw[rk.NX g];exact b _ i (zr.refl _) (RV.of rfl)
   |some x=>rw[g]at b;obtain⟨v,ev,J⟩:=rk.get g;rw[ev];exact b _ i (zr.refl _) (RV.of (J.same n))
 |_=>exact t.elim
end L2
namespace L2
open PySem PySem.W PyProof.Rows
def aq{b:Type}(P:TU)(f:TR):KasT b->(b->Prop)->Prop
 |.ret a,Q=>Q a
 |.ask i j k,Q=>P i/\P j/\aq P f (k (f i j)) Q
theorem ZU{c b:Type}{P:TU}{f:TR}{g:c->KasT b}{Q:b->Prop}:∀{t:KasT c},aq P f t (λa=>aq P f (g a) Q)->aq P f (t.bind g) Q
 |.ret _,h=>h
 |.ask _ _ _,h=>⟨h.1,h.2.1,ZU h.2.2⟩
theorem qh{c:Type}{P:TU}{f:TR}{Q b:c->Prop}(d:∀a,Q a->b a):∀{t:KasT c},aq P f t Q->aq P f t b
 |.ret _,h=>d _ h
 |.ask _ _ _,h=>⟨h.1,h.2.1,qh d h.2.2⟩
theorem xQ{d:Type}{P:TU}{f:TR}{b:Nat->Nat->(Bool->Shared->Prop)->Shared->Prop}{J:Shared->Prop}(l:∀i j C s,P i->P j->J s->(∀e,J e->C (f i j) e)->b i j C s){Q:d->Prop}{R:d->Shared->Prop}(m:∀a s,Q a->J s->R a s):∀{t:KasT d}{s:SE},J s->aq P f t Q->t.kasWp b R s
 |.ret a,s,c,h=>m a s h c
 |.ask i j k,s,c,h=>l i j _ s h.1 h.2.1 c λe g=>xQ l m g h.2.2
abbrev at0(p:TH)(k:Nat):Nat:=p.getD k 0
def Wa:at0 p k=(p[k]?).getD 0:=by simp
def ft(a:j<=p.size)(k:Nat):at0 (kas_rev p i j) k=if i<=k/\k<j then at0 p (i+j-1-k)else at0 p k:=by rw[Wa,Wa,Wa];unfold kas_rev;rw[getElem?_mirror_all a];split<;>rfl
def dH(a:k<p.size)(b:l<=k)(i:Nat):at0 (bubble p k (k-l)) i=if i=l then at0 p k else if l<i/\i<=k then at0 p (i-1)else at0 p i:=by
 rw[Wa,Wa,Wa,Wa,getElem?_bubble a (k-l) (by omega),show k-(k-l)=l by omega];split
 .rfl
 .split<;>rfl
section
variable {O:KeyOrd}{key:Nat->O.α}{n:Nat}
abbrev kk(key:Nat->O.α)(p:TH)(i:Nat):O.α:=key (at0 p i)
abbrev ans(key:Nat->O.α)(i j:Nat):Bool:=O.blt (key i) (key j)
structure Pm(n:Nat)(p:TH):Prop where
 perm:p.toList.Perm (List.range n)
 size:p.size=n
def Pm.rev(h:Pm n p):Pm n (kas_rev p i j):=⟨(a2v.mp (mirror_perm p i j _)).trans h.perm,(kas_rev_size i j).trans h.size⟩
def Pm.bub(h:Pm n p):Pm n (bubble p i j):=⟨(a2v.mp (bubble_perm p i j)).trans h.perm,(bubble_size p i j).trans h.size⟩
def Pm.lt(h:Pm n p)(b:0<n)(k:Nat):at0 p k<n:=by
 rw[Wa];by_cases a:k<p.size
 .rw[getElem?_pos p k a];have:p[k]∈p.toList:=by simp
  exact a06.mp (h.perm.mem_iff.mp this)
 .rw[getElem?_neg p k a];exact b
def Up(key:Nat->O.α)(p:TH)(m:Nat):Prop:=∀i j,i<=j->j<m->O.kle (kk key p i) (kk key p j)
def Dn(key:Nat->O.α)(p:TH)(m:Nat):Prop:=∀i j,i<=j->j<m->O.kle (kk key p j) (kk key p i)
theorem xR{p:TH}(hp:Pm n p)(g:0<n):∀{f m:Nat},1<=m->m+f<=n->Up key p m->aq (·<n) (ans key) (kas_asc p f m) λr=>m<=r/\r<=m+f/\Up key p r/\(r<m+f->O.klt (kk key p r) (kk key p (r-1)))
 |0,m,_,_,e=>⟨S5 _,S5 _,e,λh=>absurd h (by omega)⟩
 |f+1,m,v,u,e=>by
  refine⟨hp.lt g _,hp.lt g _,?_⟩;show aq _ _ (if O.blt (kk key p m) (kk key p (m-1))=true then _ else _) _;cases q:O.blt (kk key p m) (kk key p (m-1))with
  |true=>exact⟨S5 _,by omega,e,λ_=>q⟩
  |false=>
   have o:Up key p (m+1):=λi j l t=>by
    by_cases c:j=m
    .subst c;by_cases s:i=j
     .subst s;exact O.irrefl _
     .exact a2W (e i (j-1) (by omega) (by omega)) q
    .exact e i j l (by omega)
   exact qh (λr ⟨a,b,c,d⟩=>⟨by omega,by omega,c,λh=>d (by omega)⟩) (xR hp g (by omega) (by omega) o)
structure Ir(key:Nat->O.α)(n:Nat)(p:TH)(m q:Nat):Prop where
 pm:Pm n p
 dn:Dn key p m
 le:m<=n
 qm:q+1<=m
 eq:∀k,m-(q+1)<=k->k<m->kk key p k=kk key p (m-1)
def Ir.alike(h:Ir key n p m q)(k:Nat):kk key (kas_rev p (m-(q+1)) m) k=kk key p k:=by
 have e:=h.le;have d:=h.pm.size;unfold kk;rw[ft (by omega)];split
 .rename_i c;have b:=h.eq (m-(q+1)+m-1-k) (by omega) (by omega);have a:=h.eq k c.1 c.2;exact b.trans a.symm
 .rfl
theorem nj(g:0<n):∀{f m q:Nat}{p:TH},m+f<=n->Ir key n p m q->aq (·<n) (ans key) (kas_desc f p m q) λr=>m<=r.2.1/\r.2.1<=m+f/\Ir key n r.1 r.2.1 r.2.2
 |0,m,q,p,_,h=>⟨S5 _,S5 _,h⟩
 |f+1,m,q,p,B,h=>by
  have C:=h.qm;refine⟨h.pm.lt g _,h.pm.lt g _,?_⟩;show aq _ _ (if O.blt (kk key p m) (kk key p (m-1))=true then _ else _) _;have l:∀{d:TH},(∀k,kk key d k=kk key p k)->O.kle (kk key p m) (kk key p (m-1))->Dn key d (m+1):=λ{d} o t i j s A=>by
   rw[o,o];by_cases c:j=m
   .subst c;by_cases z:i=j
    .subst z;exact O.irrefl _
    .exact a2W t (h.dn i (j-1) (by omega) (by omega))
   .exact h.dn i j s (by omega)
  cases u:O.blt (kk key p m) (kk key p (m-1))with
  |true=>
   have t:=a2X u;have w:∀{d:TH},Pm n d->(∀k,kk key d k=kk key p k)->aq (·<n) (ans key) (kas_desc f d (m+1) 0) λr=>m<=r.2.1/\r.2.1<=m+(f+1)/\Ir key n r.1 r.2.1 r.2.2:=λ{d} hp o=>
    qh (λr ⟨a,b,c⟩=>⟨by omega,by omega,c⟩) (nj g (by omega) ⟨hp,l o t,by omega,by omega,λk x y=>by rw[show k=m+1-1 by omega]⟩)
   by_cases c:q>0
   .rw[if_pos c];exact w h.pm.rev h.alike
   .rw[if_neg c];exact w h.pm λ_=>rfl
  |false=>
   refine⟨h.pm.lt g _,h.pm.lt g _,?_⟩;show aq _ _ (if O.blt (kk key p (m-1)) (kk key p m)=true then _ else _) _;cases v:O.blt (kk key p (m-1)) (kk key p m)with
   |true=>exact⟨S5 _,by show m<=m+(f+1);omega,h⟩
   |false=>
    have e:=O.total _ _ u v;refine qh (λr ⟨a,b,c⟩=>⟨by omega,by omega,c⟩) (nj g (by omega) ⟨h.pm,l (λ_=>rfl) v,by omega,by omega,λk x y=>?_⟩);by_cases c:k=m
    .rw[c];rfl
    .rw[show m+1-1=m by omega,e];exact h.eq k (by omega) (by omega)
abbrev Py(key:Nat->O.α)(n:Nat):Nat×Array Nat->Prop:=λr=>Pm n r.2/\1<=r.1/\r.1<=n/\Up key r.2 r.1
def pH(d:0<n)(hp:Pm n p)(l:1<=m)(s:m<=n)(h:Dn key p m):aq (·<n) (ans key) (kas_tail3 m n p) (Py key n):=by
 have o:=hp.size;have e:Up key (kas_rev p 0 m) m:=λi j g q=>by unfold kk;rw[ft (by omega),ft (by omega),if_pos ⟨by omega,by omega⟩,if_pos ⟨by omega,by omega⟩];exact h (0+m-1-j) (0+m-1-i) (by omega) (by omega)
 refine ZU (qh (λr ⟨a,b,c,_⟩=>?_) (xR hp.rev d l (by omega) e));exact⟨hp.rev,by omega,by omega,c⟩
def bf(e:0<n)(hp:Pm n p)(x:1<=m)(u:m+1<=n)(he:∀k,k<m->kk key p k=kk key p (m-1))(l:O.klt (kk key p m) (kk key p (m-1))):aq (·<n) (ans key) (kas_descPart m n p) (Py key n):=by
 have hf:Ir key n p (m+1) 0:=⟨hp,λi j d g=>by
  by_cases c:j=m
  .subst c;by_cases o:i=j
   .subst o;exact O.irrefl _
   .rw[he i (by omega)];exact a2X l
  .rw[he i (by omega),he j (by omega)];exact O.irrefl _,by omega,by omega,λk w s=>by rw[show k=m+1-1 by omega]⟩
 refine ZU (qh (λr ⟨a,b,c⟩=>?_) (nj e (by omega) hf));by_cases h:r.2.2>0
 .rw[if_pos h];exact pH e c.pm.rev (by omega) c.le λi j d g=>by rw[c.alike,c.alike];exact c.dn i j d g
 .rw[if_neg h];exact pH e c.pm (by omega) c.le c.dn
def CZ(h:0<n)(hp:Pm n p):aq (·<n) (ans key) (kas_count n p) (Py key n):=by
 have x:=hp.size;refine ZU (qh (λm ⟨a,b,c,d⟩=>?_) (xR hp h (S5 _) (by omega) λi j u w=>by rw[show i=j by omega];exact O.irrefl _));by_cases r:(m==n)=true
 .rw[if_pos r];exact⟨hp,a,by omega,c⟩
 .rw[if_neg r];have g:m<n:=by have:m≠n:=λq=>r (by grind);omega
  have t:=d (by omega);by_cases s:m>1
  .rw[if_pos s];refine⟨hp.lt h _,hp.lt h _,?_⟩;show aq _ _ (if O.blt (kk key p 0) (kk key p (m-1))=true then _ else _) _;cases v:O.blt (kk key p 0) (kk key p (m-1))with
   |true=>exact⟨hp,a,by omega,c⟩
   |false=>
    have e:=O.total _ _ v (c 0 (m-1) (by omega) (by omega));have al:=λk l=>O.total _ _ (by rw[<- e];exact c 0 k (by omega) l) (c k (m-1) (by omega) (by omega));have o:∀k,kk key (kas_rev p 0 m) k=kk key p k:=λk=>by
     unfold kk;rw[ft (by omega)];split
     .rename_i z;exact(al (0+m-1-k) (by omega)).trans (al k z.2).symm
     .rfl
    exact bf h hp.rev a g (λk l=>by rw[o,o];exact al k l) (by grind)
  .rw[if_neg s];exact bf h hp a g (λk l=>by rw[show k=m-1 by omega]) t
def wN{p:TH}(hp:Pm n p)(a:0<n){k:Nat}(b:Up key p k):∀{f l r:Nat},l<=r->r<=k->r-l<=f->(∀i,i<l->O.kle (kk key p i) (kk key p k))->(∀i,r<=i->i<k->O.klt (kk key p k) (kk key p i))->
  aq (·<n) (ans key) (kas_place p k f l r) λl=>l<=k/\(∀i,i<l->O.kle (kk key p i) (kk key p k))/\∀i,l<=i->i<k->O.klt (kk key p k) (kk key p i)
 |0,l,r,j,rk,hf,e,d=>⟨by omega,e,λi g=>d i (by omega)⟩
 |f+1,l,r,j,rk,hf,e,d=>by
  show aq _ _ (if l ≥ r then KasT.ret l else _) _;by_cases c:l ≥ r
  .rw[if_pos c];exact⟨by omega,e,λi g=>d i (by omega)⟩
  .rw[if_neg c];refine⟨hp.lt a _,hp.lt a _,?_⟩;show aq _ _ (if O.blt (kk key p k) (kk key p ((l+r) / 2))=true then _ else _) _;cases h:O.blt (kk key p k) (kk key p ((l+r) / 2))with
   |true=>exact wN hp a b (by omega) (by omega) (by omega) e λi m o=>KeyOrd.klt_of_klt_of_kle h (b _ _ m o)
   |false=>exact wN hp a b (by omega) rk (by omega) (λi g=>a2W (b i ((l+r) / 2) (by omega) (by omega)) h) d
theorem EZ(q:0<n):∀{f k:Nat}{p:TH},Pm n p->k+f<=n->Up key p k->aq (·<n) (ans key) (kas_bin f p k) λm=>Pm n m/\Up key m (k+f)
 |0,k,p,hp,_,d=>⟨hp,d⟩
 |f+1,k,p,hp,u,d=>by
  have w:=hp.size;refine ZU (qh (λl ⟨a,b,c⟩=>?_) (wN hp q d (a0y _) (S5 _) (by omega) (λi t=>absurd t (a09 _)) λi o g=>absurd g (by omega)));refine qh (λm ⟨x,y⟩=>⟨x,by rw[show k+(f+1)=k+1+f by omega];exact y⟩) (EZ q hp.bub (by omega) λi j h v=>?_);unfold kk;rw[dH (by omega) a,dH (by omega) a];by_cases o:i=l
  .rw[if_pos o];by_cases e:j=l
   .rw[if_pos e];exact O.irrefl _
   .rw[if_neg e,if_pos ⟨by omega,by omega⟩];exact a2X (c (j-1) (by omega) (by omega))
  .rw[if_neg o];by_cases e:j=l
   .rw[if_pos e,if_neg (by omega)];exact b i (by omega)
   .rw[if_neg e];by_cases g:l<i/\i<=k
    .rw[if_pos g,if_pos ⟨by omega,by omega⟩];exact d (i-1) (j-1) (by omega) (by omega)
    .rw[if_neg g];by_cases s:l<j/\j<=k
     .rw[if_pos s];exact d i (j-1) (by omega) (by omega)
     .rw[if_neg s];exact d i j h (by omega)
def xS(e:0<n):aq (·<n) (ans key) (kas_sort n) λp=>Pm n p/\Up key p n:=by
 refine ZU (qh (λr ⟨a,b,c,d⟩=>?_) (CZ e ⟨a2p _,by simp⟩));by_cases h:r.1<n
 .rw[if_pos h,show max r.1 1=r.1 by omega];refine qh (λp ⟨x,y⟩=>⟨x,by rw[show n=r.1+(n-r.1) by omega];exact y⟩) (EZ e a (by omega) d)
 .rw[if_neg h];exact⟨a,by rw[show n=r.1 by omega];exact d⟩
end
end L2
namespace L2
open PySem PySem.Spec PyProof.Rows PySem.W
abbrev dI:=Int×Int×Str
def G7(x y:dI):Bool:=if x.1=y.1 then(if x.2.1=y.2.1 then decide (x.2.2.cps.toList<y.2.2.cps.toList)else decide (x.2.1<y.2.1))else decide (x.1<y.1)
def G8{a b:Str}(h:a.cps.toList=b.cps.toList):a=b:=by obtain⟨x⟩:=a;obtain⟨y⟩:=b;exact a0D Str.mk (Array.toList_inj.mp h)
def MW:KeyOrd where
 α:=dI
 blt:=G7
 irrefl a:=by unfold G7;rw[if_pos rfl,if_pos rfl];exact strKind.irrefl _
 trans a b c e d:=by
  unfold G7 at *;by_cases j:a.1=b.1
  .rw[if_pos j]at e;by_cases l:b.1=c.1
   .rw[if_pos l]at d;rw[if_pos (j.trans l)];by_cases f:a.2.1=b.2.1
    .rw[if_pos f]at e;by_cases i:b.2.1=c.2.1
     .rw[if_pos i]at d;rw[if_pos (f.trans i)];exact strKind.trans _ _ _ e d
     .rw[if_neg i]at d;rw[if_neg (by rw[f];exact i),f];exact d
    .rw[if_neg f]at e;by_cases i:b.2.1=c.2.1
     .rw[if_pos i]at d;rw[if_neg (by rw[<- i];exact f),<- i];exact e
     .rw[if_neg i]at d;have e:=a0E e;have d:=a0E d;rw[if_neg (by omega)];exact a0d (by omega)
   .rw[if_neg l]at d;rw[if_neg (by rw[j];exact l),j];exact d
  .rw[if_neg j]at e;have e:=a0E e;by_cases l:b.1=c.1
   .rw[if_neg (by omega)];exact a0d (by omega)
   .rw[if_neg l]at d;have d:=a0E d;rw[if_neg (by omega)];exact a0d (by omega)
 negTrans a b c h:=by
  unfold G7 at *;by_cases j:a.1=b.1
  .rw[if_pos j];by_cases l:b.1=c.1
   .rw[if_pos (j.trans l)]at h;rw[if_pos l];by_cases f:a.2.1=b.2.1
    .rw[if_pos f];by_cases i:b.2.1=c.2.1
     .rw[if_pos (f.trans i)]at h;rw[if_pos i];exact strKind.negTrans _ _ _ h
     .rw[if_neg (by rw[f];exact i)]at h;rw[if_neg i];exact .inr (by rw[<- f];exact h)
    .rw[if_neg f];by_cases i:b.2.1=c.2.1
     .rw[if_neg (by rw[<- i];exact f)]at h;exact .inl (by rw[i];exact h)
     .rw[if_neg i];by_cases g:a.2.1<b.2.1
      .exact .inl (a0d g)
      .by_cases m:a.2.1=c.2.1
       .exact .inr (a0d (by omega))
       .rw[if_neg m]at h;have h:=a0E h;exact .inr (a0d (by omega))
   .rw[if_neg (by rw[j];exact l)]at h;rw[if_neg l];exact .inr (by rw[<- j];exact h)
  .rw[if_neg j];by_cases g:a.1<b.1
   .exact .inl (a0d g)
   .refine .inr ?_;by_cases l:b.1=c.1
    .rw[if_neg (by rw[<- l];exact j)]at h;have h:=a0E h;omega
    .rw[if_neg l];by_cases m:a.1=c.1
     .exact a0d (by omega)
     .rw[if_neg m]at h;have h:=a0E h;exact a0d (by omega)
 total a b e d:=by
  unfold G7 at *;by_cases j:a.1=b.1
  .rw[if_pos j]at e;rw[if_pos j.symm]at d;by_cases f:a.2.1=b.2.1
   .rw[if_pos f]at e;rw[if_pos f.symm]at d;have:=G8 (strKind.total _ _ e d);exact Prod.ext j (Prod.ext f this)
   .rw[if_neg f]at e;rw[if_neg (Ne.symm f)]at d;have e:=a1R e;have d:=a1R d;omega
  .rw[if_neg j]at e;rw[if_neg (Ne.symm j)]at d;have e:=a1R e;have d:=a1R d;omega
def Oc(h:Heap)(v:Value)(k:dI):Prop:=∃a o n b c d,v=.ref a/\h.get? a=some o/\o.cls=.type "tuple"/\o.data=.seq #[.int k.1 b,.int k.2.1 c,.str k.2.2 d] n
section
variable {prog:SV}{w:S_}{A:Tf}{E:Sz}{s:SE}
def lt3(l:Oc s.heap x k1)(f:Oc s.heap y k2)(h:Q (G7 k1 k2) s):wpAny (model prog w) A (keyLt' (tuples' true) x y) Q E s:=by
 obtain⟨a,o,n,u,v,t,rfl,i,_,j⟩:=l;obtain⟨b,p,m,z,r,q,rfl,hp,_,g⟩:=f;refine kat_lt i j hp g ?_;unfold G7 at h;refine kat_cons (a2J ?_);by_cases d:k1.1=k2.1
 .rw[if_pos d]at h;rw[show(k1.1==k2.1)=true from a0u.mpr d];refine kat_yes (kat_cons (a2J ?_));by_cases c:k1.2.1=k2.2.1
  .rw[if_pos c]at h;rw[show(k1.2.1==k2.2.1)=true from a0u.mpr c];refine kat_yes (kat_cons (wpAny_eqBool_str ?_));by_cases e:k1.2.2=k2.2.2
   .rw[a0d e];refine kat_yes (kat_nil ?_);rw[e,show decide (k2.2.2.cps.toList<k2.2.2.cps.toList)=false from strKind.irrefl _]at h;exact h
   .rw[T5 e];exact kat_no (kat_one _ _ (lt_str h))
  .rw[if_neg c]at h;rw[show(k1.2.1==k2.2.1)=false from a0N.mpr c];exact kat_no (kat_one _ _ (lt_int h))
 .rw[if_neg d]at h;rw[show(k1.1==k2.1)=false from a0N.mpr d];exact kat_no (oneLt_int h)
def iy(h:Heap):List Value->List dI->Prop
 |[],[]=>True
 |v::a,k::b=>Oc h v k/\iy h a b
 |_,_=>False
def iy.get(d:dI):∀{vs:SO}{ks:List dI}{i:Nat},iy h vs ks->i<ks.length->Oc h (vs.getD i .none) (ks.getD i d):=by
 intro vs
 induction vs with
 |nil=>
  intro ks i t hi;cases ks with
  |nil=>exact absurd hi (a09 _)
  |cons k ks=>exact t.elim
 |cons v vs ih=>
  intro ks i t hi;cases ks with
  |nil=>exact t.elim
  |cons k ks=>
   cases i with
   |zero=>exact t.1
   |succ i=>exact ih t.2 (Nat.lt_of_succ_lt_succ hi)
theorem iy.kat{h:Heap}:∀{b:SO}{c:List dI},iy h b c->∃fs:List Value,KatTups h b fs/\fs.length=c.length/\∀v∈fs,∃n t,v=.int n t
 |[],[],_=>⟨[],trivial,rfl,λv h=>by cases h⟩
 |_::_,_::_,⟨⟨a,o,n,p,q,r,e,d,j,i⟩,t⟩=>by obtain⟨fs,g,l,f⟩:=iy.kat t;exact⟨_::fs,⟨⟨a,o,_,n,e,d,j,i,rfl⟩,g⟩,by rw[v4,v4,l],λv m=>(T1.mp m).elim (λe=>⟨_,_,e⟩) (f v)⟩
 |[],_::_,t=>t.elim
 |_::_,[],t=>t.elim
def Pz(t:iy s.heap vs ks)(d:0<ks.length)(h:Q (tuples' true) s):wpAny (model prog w) A (keyKind' vs.toArray) Q E s:=by obtain⟨fs,b,e,a⟩:=t.kat;refine kat_kind (T:=.type "int") b (by omega) (λv c=>?_) (by decide) (by rw[show((Value.type "int") != Value.type "tuple")=true by decide];exact h);obtain⟨n,t,rfl⟩:=a v c;exact .now
end
section
variable {X:Cx}{pins:Sw}{σ:St}{H:Hp}{s:SE}{h':Heap}
def Inv.PB(I:Inv X pins σ H s)(k:∀b o,b≠it->s.heap.get? b=some o->h'.get? b=some o)(C:H it=none)(h:it≠X.env.locals)
  (A:it∈X.ex\/X.s₀.heap.objs.size<=it) (t:∀x c,X.env.cells.lookup x=some c->c≠it) (B:∀p∈X.pn++pins,p.1≠it) (new:qr X.prog X.w (upd H it o) h' it o):Inv X pins σ (upd H it o) { s with heap:=h',toks:=t' }:=by
 have a:∀b u,H b=some u->b≠it:=λb u e z=>by rw[z,C]at e;cases e
 have f:∀b,b∉[it]->b≠it:=λb d z=>d (by simp[z]);refine I.step (λb g=>?_) (λb o _ _ d e _=>k b o (f b d) e) (λb o _ _ d e _=>⟨o.slots,k b o (f b d) e⟩) (λb _ d _ n=>by rw[zh (f b d)];exact n)
  (λb o d e=>⟨o,k b o (f b d) e⟩) (λb j e=>by rw[zh (a b _ e)];exact e) (λb _ _ e=>by rw[zh (a b _ e)];exact e) (λb D e=>⟨#[],by rw[zh (a b _ e),e];simp⟩) (λm i=>?_) (λb u e=>?_) I.bare
 .have e:=by simpa using g
  subst e;exact⟨A,h,t,B⟩
 .obtain⟨o,w,l,y,r⟩:=i;exact⟨o,w,l,k _ o (Ne.symm h) y,r⟩
 .by_cases g:b=it
  .subst g;rw[ze]at e;cases e;exact new
  .rw[zh g]at e;refine(I.hok b u e).BV (λc v d q=>k c v ?_ q) (λc q=>by rw[zh (a c _ q)];exact q) λc j q=>by rw[zh (a c _ q)];exact q
   rcases d with z|z
   .rw[z];exact a b u e
   .exact a c _ z
structure C0(X:Cx)(pins:Sw)(a:Addr):Prop where
 loc:a≠X.env.locals
 fs:a∉X.fs
 ex:a∈X.ex\/X.s₀.heap.objs.size<=a
 cel:∀x c,X.env.cells.lookup x=some c->c≠a
 pin:∀p∈X.pn++pins,p.1≠a
def Inv.Ro{H':Hp}(I:Inv X pins σ H s)(a:s.heap.objs.size<=b):C0 X pins b:=by have:=I.Ij (H':=λ_=>none) a rfl;exact⟨this.2.1,this.2.2.1,this.2.2.2.1,this.2.2.2.2.1,this.2.2.2.2.2⟩
def Inv.Od(I:Inv X pins σ H s)(w:C0 X pins a)(d:H a=none)(b:s.heap.get? a=some o)(c:∀v,o.data≠.cell v):Inv X (pins++[(a,o)]) σ H s:=
 I.eI λp hp=>(a0j.mp hp).elim (λz=>I.pin p (T4 _ z)) λz=>by rw[T2.mp z];exact⟨b,d,w.loc,w.fs,c⟩
def Inv.at1(I:Inv X (pins++[(a,o)]) σ H s):s.heap.get? a=some o/\H a=none:=by have:=I.pin (a,o) (T4 _ (T4 _ u8));exact⟨this.1,this.2.1⟩
end
def xT(sp:Sp):List V->List V->Hp->(List V->Hp->Prop)->Prop
 |[],a,H,Q=>Q a H
 |v::c,a,H,Q=>sp [v] H (λz b=>xT sp c (a++[z]) b Q) (λ_ _ _=>False)
def cL(K:Tj)(H:Hp):List V->List dI->Prop
 |[],[]=>True
 |z::a,k::b=>(∃p,z=.ref p/\SqT K H p [.int k.1,.int k.2.1,.str k.2.2])/\cL K H a b
 |_,_=>False
theorem cL.len{K:Tj}{H:Hp}:∀{a:SR}{b:List dI},cL K H a b->a.length=b.length
 |[],[],_=>rfl
 |_::_,_::_,t=>by rw[v4,v4,cL.len t.2]
 |[],_::_,t=>t.elim
 |_::_,[],t=>t.elim
theorem cL.t6{X:Cx}{pins:Sw}{σ:St}{H:Hp}{s:SE}(I:Inv X pins σ H s):∀{b:SR}{d:List dI}{c:SO},cL X.K H b d->Vals b c->iy s.heap c d
 |[],[],_,_,.nil=>trivial
 |_::_,k::_,_,⟨⟨p,e,i⟩,t⟩,.cons r x=>by
  subst e;cases r;refine⟨?_,cL.t6 I t x⟩;obtain⟨j,a,⟨o,l,g,n,v⟩,_⟩:=I.tuple i;cases a with
  |cons f a=>cases a with
   |cons u a=>cases a with
    |cons w a=>cases a;obtain⟨m,rfl⟩:=f;obtain⟨q,rfl⟩:=u;obtain⟨h,rfl⟩:=w;exact⟨p,o,n,m,q,h,rfl,l,g,v⟩
 |[],_::_,_,t,_=>t.elim
 |_::_,[],_,t,_=>t.elim
def Srt(a:List dI)(q:Sy):Prop:=q.Perm (List.range a.length)/\q.Pairwise λi j=>MW.kle (a.getD i (0,0,"")) (a.getD j (0,0,""))
def E1(sp:Sp)(K:Tj)(ys:SR)(H:Hp)(Q:VK):Prop:=ys.length<64/\xT sp ys [] H λd c=>∃b:List dI,b.length=ys.length/\cL K c d b/\∀(q:Sy) a,Srt b q->c a=none->Q (.ref a) (upd c a (.lst (q.map λi=>ys.getD i .non)))
def E2(hp:Pm kz.length p)(f:Up (O:=MW) (λi=>kz.getD i (0,0,"")) p kz.length):Srt kz p.toList:=by
 refine⟨hp.perm,?_⟩;rw[a2I];intro i j d c a;have g:=hp.size;rw[a1b]at d c;have:=f i j (a19 a) (by omega);have e:∀k b,at0 p k=p.toList[k]'(by omega):=λk b=>by rw[Wa,getElem?_pos p k b];simp
 unfold kk at this;rw[e i d,e j c]at this;exact this
section
variable {X:Cx}{k:Nat}{f:Addr}{fd:Td}{ps:SA}{sp:Sp}
def C1(F:yz X.prog X.w X.K X.mg X.base (CXe X.prog X.w) k f fd ps sp)(l:vF k A)(g:BM X.prog X.w X.K X.mg X.base A X.stack s H)(d:Binds X.K fd ps [])
  (I:Inv X pins σ H s) (r:RelV v u) (h:sp [v] H Q (λ_ _ _=>False)):wpAny (a32 X) A (call (.ref f) [u]) (EP X pins σ Q) E s:=by
 have b:Vals [v] [u]:=.cons r .nil;have i:([u]++[]).length=ps.length:=by exact F.len _ _ _ _ h
 have c:=d s [u] I.kIn i;refine a1I (a1F (F.run A X.stack s H ⟨[u],[]⟩ [u] [v] Q _ l g c b h) λr m a=>?_);cases r with
 |error e=>exact(ij a).elim
 |ok j=>
  cases j with
  |ret u=>exact I.after a
  |next=>exact False.elim a
  |brk=>exact False.elim a
  |cont=>exact False.elim a
def KC(X:Cx)(k:Nat)(c:Sw)(f:Addr)(sp:Sp):Prop:=∀{a:Sw}{b:St}{H:Hp}{s:SE}{Q:VK}{E:Sz}{A:Tf}{u:Value}{v:V},(∀p∈c,p∈a)->vF k A->BM X.prog X.w X.K X.mg X.base A X.stack s H->Inv X a b H s->RelV v u->sp [v] H Q (λ_ _ _=>False)->wpAny (a32 X) A (call (.ref f) [u]) (EP X a b Q) E s
def PC(F:yz X.prog X.w X.K X.mg X.base (CXe X.prog X.w) k f fd ps sp)(a:Binds X.K fd ps []):KC X k [] f sp:=λ_ c b I r h=>C1 F c b a I r h
end
section
variable {X:Cx}{k:Nat}{f:Addr}{sp:Sp}
theorem pJ{pins:Sw}{σ:St}{A:Tf}{E:Sz}{kS:Addr}{Q0:List V->Hp->Prop}{body:Value->PUnit->Sem (ForInStep PUnit)}{lp:Sw}(F:KC X k lp f sp)(hlp:∀p∈lp,p∈pins)(hr:vF k A)(hA:A.frames=X.A.frames)
  (w:C0 X pins kS)
  (tW:∀x s (C:Shared->Prop),wpAny (a32 X) A (call (.ref f) [x]) (λz s'=>wpAny (a32 X) A (Builtin.List.listUpdate (.ref kS) (·.push z)) (λ_ s''=>C s'') (λ_ _=>False) s') (λ_ _=>False) s->wpAny (a32 X) A (body x ⟨⟩) (λr s'=>r=.yield ⟨⟩/\C s') E s):
  ∀{ys:SR}{its:SO}{acc:SR}{us:SO}{e:Nat}{H:Hp}{s:SE},acc.length+ys.length<64->Vals ys its->Vals acc us->Inv X (pins++[(kS,seqObj "list" us.toArray e)]) σ H s->xT sp ys acc H Q0->
   wpAny (a32 X) A (forIn its PUnit.unit body) (λ_ s'=>∃zs us' e' H',zs.length=acc.length+ys.length/\Vals zs us'/\Inv X (pins++[(kS,seqObj "list" us'.toArray e')]) σ H' s'/\Q0 zs H') E s
 |[],_,acc,us,e,H,s,_,.nil,ra,I,h=>by exact S8 ⟨acc,us,e,H,rfl,ra,I,h⟩
 |v::ys,_,acc,us,e,H,s,hl,.cons (b:=u) (l₂:=its) r rs,ra,I,h=>by
  rw[v4]at hl;have hul:=ra.length;rw[List.forIn_cons];refine t0 (a0O (tW u s (λs'=>∃(zs:(V×Nat)×Value) (H':Hp),Inv X (pins++[(kS,seqObj "list" (us++[zs.2]).toArray zs.1.2)]) σ H' s'/\RelV zs.1.1 zs.2/\xT sp ys (acc++[zs.1.1]) H' Q0) ?_) (λq s' hq=>?_) λ_ _ x=>x)
  .have A0:BM X.prog X.w X.K X.mg X.base A X.stack s H:=⟨hA.trans I.um.frames,I.um.mod,I.um.bs,I.um.bsz,I.um.oA,I.um.frf,I.um.hok,I.um.bare⟩;refine a0O (F (λp hp=>T8 _ (hlp p hp)) hr A0 I r h) (λz s1 ⟨y,H1,I1,r1,q1⟩=>?_) λ_ _ x=>x;have a1:=I1.at1;have J1:=I1.wM;obtain⟨e2,he2⟩:∃e2,(s1.heap.update kS (Obj.mapSeq (·.push z))).get? kS=some (seqObj "list" (us++[z]).toArray e2):=⟨_,by
    have:=get?_update_seq a1.1 (·.push z);rw[show us.toArray.push z=(us++[z]).toArray by simp]at this;exact this⟩
   refine a2w a1.1 rfl ?_ (by rw[a0f,a0P];omega) (T9 (a2b (Array.size_push ..)) (by rw[a0f,a0P];omega));have J2:Inv X pins σ H1 { s1 with heap:=s1.heap.update kS (Obj.mapSeq (·.push z)),toks:=s1.toks }:=J1.turned (λb o hb ho=>(a0w s1.heap _ (Ne.symm hb)).trans ho) a1.2 w.loc w.ex w.cel w.pin;exact⟨((y,e2),z),H1,J2.Od w a1.2 he2 (λv h=>by cases h),r1,q1⟩
  .obtain⟨rfl,zs,H',I',r',q'⟩:=hq;refine a0O (pJ F hlp hr hA w tW (by grind) rs (ra.append (.cons r' .nil)) I' q') (λ_ s2 ⟨zs',us',e',H2,hl',h2,h3,h4⟩=>⟨zs',us',e',H2,?_,h2,h3,h4⟩) λ_ _ x=>x;rw[hl',S4,a0Z,v4];omega
def Vals.getD(r:Vals ys its)(i:Nat):RelV (ys.getD i .non) (its.getD i .none):=by
 induction r generalizing i with
 |nil=>exact rfl
 |cons r b a=>
  cases i with
  |zero=>exact r
  |succ i=>exact a i
theorem fu{ys:SR}{its:SO}(r:Vals ys its):∀q:List Nat,Vals (q.map λi=>ys.getD i .non) (q.map λi=>its.getD i .none)
 |[]=>.nil
 |i::q=>.cons (r.getD i) (fu r q)
end
section
variable {X:Cx}{f:Addr}
def iz{pins:Sw}{σ:St}{A:Tf}{E:Sz}{c D:Addr}{e d:Nat}{H:Hp}{s:SE}{us outU:SO}{a:SR}{st:SortSt}{Q:VK}{P:PySem.Fin->Shared->Prop}
  (j:C0 X pins D) (h:C0 X (pins++[(D,seqObj "list" #[] d)]) c) (x:us.length<64) (l:outU.length<64) (ro:Vals a outU) (g:(arrOf st).map (·.2)=List.toArray outU) (hf:failedOf st=none)
  (I:Inv X (pins++[(D,seqObj "list" #[] d)]++[(c,seqObj "list" us.toArray e)]) σ H s) (u:Q (.ref D) (upd H D (.lst a))) (hP:∀p,EP X pins σ Q (.ref D) p->P (.done (.ret .none)) p):wpAny (a32 X) A (ksk_tail D false d (.ref c) st) P E s:=by
 have n:=I.at1;have r:=I.wM;have w:c≠D:=λz=>h.pin (D,seqObj "list" #[] d) (T4 _ (T4 _ u8)) z.symm;have q:Inv X (pins++[(D,seqObj "list" #[] d)]) σ H { s with heap:=s.heap.update c (Obj.mapSeq λ_=>(#[]:Array Value)),toks:=s.toks }:=r.turned (λb o m l=>(a0w s.heap _ (Ne.symm m)).trans l) n.2 h.loc h.ex h.cel h.pin;have i:=q.at1;unfold ksk_tail
 try dsimp only
 rw[g];refine t0 (a2w n.1 rfl ?_ (by rw[a0f,a0P];omega) (a0y _));refine t0 (a3R ?_);refine t0 (seqEpoch_at i.1 rfl ?_);refine t0 (a2w i.1 rfl ?_ (a0y _) (by simp only[Bool.false_eq_true,if_false,List.size_toArray];rw[a0P];omega));rw[hf];simp only[bne_self_eq_false,if_false];refine S8 (hP _ ?_);have t:=get?_update_seq i.1 λ_=>List.toArray outU;have y:=ro.length;have v:Inv X pins σ (upd H D (.lst a)) { s with heap:=(s.heap.update c (Obj.mapSeq λ_=>(#[]:Array Value))).update D (Obj.mapSeq λ_=>List.toArray outU),toks:=s.toks }:=Inv.PB (s:={ s with heap:=s.heap.update c (Obj.mapSeq λ_=>(#[]:Array Value)),toks:=s.toks }) q.wM (λb o m l=>(a0w _ _ (Ne.symm m)).trans l) i.2 j.loc j.ex j.cel j.pin ⟨by rw[a0P];omega,outU,_,ro,t⟩;exact⟨.ref D,_,v,rfl,u⟩
def C2
  (F:C0 X pins D) (K:C0 X (pins++[(D,seqObj "list" #[] e1)]) kS) (Y:ys.length<64) (v:Vals ys its) (B:Vals zs us) (z:cL X.K H zs kz) (t:kz.length=ys.length)
  (I:Inv X (pins++[(D,seqObj "list" #[] e1)]++[(kS,seqObj "list" us.toArray e)]) σ H s) (G:∀q:List Nat,Srt kz q->Q (.ref D) (upd H D (.lst (q.map λi=>ys.getD i .non)))) (hP:∀c,EP X pins σ Q (.ref D) c->P (.done (.ret .none)) c):wpAny (a32 X) A (ksk_end D false its.toArray e1 (.ref kS) us.toArray) P E s:=by
 have W:=v.length;have T:=z.len;have U:=B.length;have h:us.length=its.length:=by omega
 unfold ksk_end
 try dsimp only
 simp only[Bool.false_eq_true,if_false];by_cases g:its.toArray.size<2
 .rw[if_pos g,if_pos g];rw[a0f]at g;refine t0 (S8 ?_);refine t0 (S8 ?_)
  try dsimp only
  have w:Srt kz (List.range its.length):=by refine⟨by rw[t,W],?_⟩;rw[a2I];intro i j o r L;rw[a0x]at o r;omega
  refine iz F K (by omega) (by grind) (fu v _) ?_ rfl I (G _ w) hP;apply Array.toList_inj.mp;rw[Array.toList_map,ksk_zip,List.map_snd_zip (by grind)];refine List.ext_getElem (by rw[f8,a0x]) λi u g=>?_;simp[u]
 .rw[if_neg g,if_neg g];rw[a0f]at g;have m:=z.t6 I B;refine t0 (Pz m (by omega) ?_);have l:(kas_sort its.length).kasWp (kas_ask X.prog X.w A (tuples' true) us) (λp c=>c=s/\Srt kz p.toList) s:=by
   refine xQ (P:=(·<kz.length)) (f:=ans (O:=MW) λi=>kz.getD i (0,0,"")) (J:=λc=>c=s) (λi j C c o r w S=>?_) (λp c u g=>⟨g,u⟩) rfl ?_
   .subst w;exact lt3 (m.get (0,0,"") o) (m.get (0,0,"") r) (S _ rfl)
   .have:=xS (O:=MW) (key:=λi=>kz.getD i (0,0,"")) (n:=kz.length) (by omega);rw[show its.length=kz.length by omega];exact qh (λp ⟨a,b⟩=>E2 a b) this
  refine t0 (a0O (kat_run (Q:=λd c=>c=s/\∃p:Array Nat,p.size=its.length/\arrOf d=p.map (kas_item (us.toArray.zip its.toArray))/\failedOf d=none/\Srt kz p.toList) h (by omega) (by omega) (λp d c R N M y=>⟨y.1,p,R,N,M,y.2⟩) l) ?_ λ_ _ x=>x)
  rintro⟨⟨⟩,d⟩ c ⟨rfl,p,hp,har,hf,srt⟩
  try dsimp only
  exact iz F K (by omega) (by grind) (fu v _) (kat_snds h har) hf I (G _ srt) hP
end
def sT(F:KC X k lp f sp)(hlp:∀p∈lp,p∈pins)(hr:vF (k+2) X.A)
  (I:Inv X pins σ H s) (hl:SqL X.K H l ys) (h:E1 sp X.K ys H Q):wpAny (a32 X) X.A (call (.builtin "sorted") [.ref l] [(Str.ofString "key",.ref f)]) (EP X pins σ Q) E s:=by
 obtain⟨hy,h⟩:=h;obtain⟨its,ry,pl,hz⟩:=I.list hl;have hlen:=ry.length;refine call_function_entry_kw kind_sorted plain_sorted entry_sorted (ksk_s1 _ _) ?_;unfold Builtin.«sorted»;refine t0 (m:=checkCount "sorted" 1 1 _) (S8 ?_);refine t0 (collect_list pl.isList ?_ (by rw[a0P];omega));refine t0 (wpAny_newList ?_ (by rw[a0P];omega));have hsz:((s.heap.push (seqObj "list" #[] 0)).update s.heap.objs.size (Obj.mapSeq (·++its.toArray))).objs.size=s.heap.objs.size+1:=by rw[Heap.size_update,size_push']
 have hoL:(((s.heap.push (seqObj "list" #[] 0)).update s.heap.objs.size (Obj.mapSeq (·++its.toArray))).push (seqObj "list" its.toArray 0)).get? (s.heap.objs.size+1)=some (seqObj "list" its.toArray 0):=by rw[<- hsz];exact a0k _ rfl
 have keep:∀b o,s.heap.get? b=some o->(((s.heap.push (seqObj "list" #[] 0)).update s.heap.objs.size (Obj.mapSeq (·++its.toArray))).push (seqObj "list" its.toArray 0)).get? b=some o:=λb o q=>by have hlt:b<s.heap.objs.size:=S9 q;rw[Heap.get?_push_ne _ _ _ (by rw[hsz];exact a0g (a1E hlt)),a2k _ _ _ _ (a0g hlt),Heap.get?_push_ne _ _ _ (a0g hlt)];exact q
 have hs1:(((s.heap.push (seqObj "list" #[] 0)).update s.heap.objs.size (Obj.mapSeq (·++its.toArray))).push (seqObj "list" its.toArray 0)).objs.size=s.heap.objs.size+2:=by rw[size_push',hsz]
 show wpAny _ _ _ _ _ { s with heap:=((s.heap.push (seqObj "list" #[] 0)).update s.heap.objs.size (Obj.mapSeq (·++its.toArray))).push (seqObj "list" its.toArray 0) };rw[hsz];have I1:Inv X pins σ H { s with heap:=((s.heap.push (seqObj "list" #[] 0)).update s.heap.objs.size (Obj.mapSeq (·++its.toArray))).push (seqObj "list" its.toArray 0),toks:=s.toks }:=I.kept keep;have w1:C0 X pins (s.heap.objs.size+1):=I.Ro (H':=H) (a1s _);have n1:H (s.heap.objs.size+1)=none:=I.hok.fresh (a1s _);generalize((s.heap.push (seqObj "list" #[] 0)).update s.heap.objs.size (Obj.mapSeq (·++its.toArray))).push (seqObj "list" its.toArray 0)=h1 at hoL hs1 I1 keep;generalize hD:s.heap.objs.size+1=D at hoL w1 n1;refine t0 (a05 (wpAny_call_entry_kw slot_list_sort ⟨_,hoL,rfl⟩ entry_list_sort ?body (ksk_l1 _ _)))
 case body=>
  show wpAny (a32 X) X.A.in1.in1 (Builtin.«list.sort» ⟨[.ref D],[(Str.ofString "key",.ref f)]⟩) _ _ _;rw[ksk_t1];obtain⟨e1,ho1⟩:∃e1,(h1.update D (Obj.mapSeq λ_=>(#[]:Array Value))).get? D=some (seqObj "list" #[] e1):=⟨_,get?_update_seq hoL λ_=>#[]⟩;have I2:Inv X pins σ H { s with heap:=h1.update D (Obj.mapSeq λ_=>(#[]:Array Value)),toks:=s.toks }:=Inv.turned (s:={ s with heap:=h1,toks:=s.toks }) I1 (λb o hb ho=>(a0w h1 _ (Ne.symm hb)).trans ho) n1 w1.loc w1.ex w1.cel w1.pin;have hs2:(h1.update D (Obj.mapSeq λ_=>(#[]:Array Value))).objs.size=s.heap.objs.size+2:=by rw[Heap.size_update,hs1]
  unfold ksk_tree;refine t0 (listItems_at hoL rfl ?_);refine t0 (a2w hoL rfl ?_ (by rw[a0f,a0P];omega) (a0y _));generalize h1.update D (Obj.mapSeq λ_=>(#[]:Array Value))=h2 at ho1 I2 hs2;refine t0 (seqEpoch_at ho1 rfl ?_);refine t0 (wpAny_newTuple ?_ (by show its.length<=_;rw[a0P];omega));refine t0 (wpAny_newList ?_ (a0y _));refine a05 ?_;have hk3:(h2.push { cls:=.type "tuple",data:=.seq its.toArray.toList.toArray }).objs.size=s.heap.objs.size+3:=by rw[size_push',hs2]
  have keep3:∀b o,h2.get? b=some o->((h2.push { cls:=.type "tuple",data:=.seq its.toArray.toList.toArray }).push { cls:=.type "list",data:=.seq ([]:List Value).toArray }).get? b=some o:=λb o q=>S6 _ (S6 _ q);have I3:Inv X pins σ H { s with heap:=(h2.push { cls:=.type "tuple",data:=.seq its.toArray.toList.toArray }).push { cls:=.type "list",data:=.seq ([]:List Value).toArray },toks:=s.toks }:=Inv.kept (s:={ s with heap:=h2,toks:=s.toks }) I2 keep3;have hoK:((h2.push { cls:=.type "tuple",data:=.seq its.toArray.toList.toArray }).push { cls:=.type "list",data:=.seq ([]:List Value).toArray }).get? (h2.push { cls:=.type "tuple",data:=.seq its.toArray.toList.toArray }).objs.size=some (seqObj "list" ([]:List Value).toArray 0):=a0k _ rfl;have hoD:=keep3 D _ ho1;show wpAny (a32 X) X.A.in1.in1 (ksk_rest D (.ref f) false its.toArray e1 (.ref (h2.push { cls:=.type "tuple",data:=.seq its.toArray.toList.toArray }).objs.size)) _ _ { s with heap:=(h2.push { cls:=.type "tuple",data:=.seq its.toArray.toList.toArray }).push { cls:=.type "list",data:=.seq ([]:List Value).toArray },toks:=s.toks };have w2:C0 X (pins++[(D,seqObj "list" #[] e1)]) (h2.push { cls:=.type "tuple",data:=.seq its.toArray.toList.toArray }).objs.size:=by have J:Inv X (pins++[(D,seqObj "list" #[] e1)]) σ H { s with heap:=h2,toks:=s.toks }:=Inv.Od (s:={ s with heap:=h2,toks:=s.toks }) I2 w1 n1 ho1 (λv h=>by cases h);exact J.Ro (H':=H) (by show h2.objs.size<=_;rw[hk3,hs2];omega)
  have n2:H (h2.push { cls:=.type "tuple",data:=.seq its.toArray.toList.toArray }).objs.size=none:=I.hok.fresh (by rw[hk3];omega);generalize(h2.push { cls:=.type "tuple",data:=.seq its.toArray.toList.toArray }).push { cls:=.type "list",data:=.seq ([]:List Value).toArray }=h3 at I3 hoK hoD;generalize(h2.push { cls:=.type "tuple",data:=.seq its.toArray.toList.toArray }).objs.size=kS at hoK w2 n2;have I4:Inv X (pins++[(D,seqObj "list" #[] e1)]++[(kS,seqObj "list" ([]:List Value).toArray 0)]) σ H { s with heap:=h3,toks:=s.toks }:=
   Inv.Od (s:={ s with heap:=h3,toks:=s.toks }) (Inv.Od (s:={ s with heap:=h3,toks:=s.toks }) I3 w1 n1 hoD (λv h=>by cases h)) w2 n2 hoK (λv h=>by cases h)
  unfold ksk_rest;refine t0 (a3w ?_)
  first
   |rw[List.forIn_toArray]
   | (rw[<- a3N];simp only[List.toList_toArray])
   |rw[<- a3N]
  refine t0 (a0O (pJ (pins:=pins++[(D,seqObj "list" #[] e1)]) (σ:=σ) (A:=X.A.in1.in1) (E:=E) F (λp hp=>T8 _ (hlp p hp)) hr.in1.in1 rfl w2 (λx s' C hx=>?_) (ys:=ys) (its:=its) (acc:=[]) (us:=[]) (e:=0) (H:=H) (by rw[a1C];omega) ry .nil I4 h) (λ_ s' hd=>?_) λ_ _ x=>x)
  .refine t0 (a1X (a0O hx (λz s'' hz=>?_) λ_ _ hF=>hF.elim))
   try dsimp only
   exact t0 (a0O hz (λ_ s3 h3=>S8 ⟨rfl,h3⟩) λ_ _ hF=>hF.elim)
  .obtain⟨zs,us,e2,H',hzl,rz,I5,kz,hkl,hk3,hq⟩:=hd;have aK:=I5.at1;have aD:=I5.wM.at1
   try dsimp only
   refine t0 (listItems_at aK.1 rfl ?_);exact C2 w1 w2 hy ry rz hk3 hkl I5 (λq srt=>hq q D srt aD.2) λs3 he=>⟨_,rfl,S8 ⟨_,rfl,he⟩⟩
def fv(g:SU):List PV->Option (List dI)
 |[]=>some []
 |x::d=>match g [x]with
  |.ok (.t [.i a,.i b,.s c])=>(fv g d).map ((a,b,c)::·)
  |_=>none
theorem iA{g:SU}:∀{b:SX}{a:List dI},fv g b=some a->a.length=b.length
 |[],_,h=>by cases h;rfl
 |x::b,a,h=>by
  unfold fv at h;split at h
  .obtain⟨c,e,rfl⟩:=v0.mp h;rw[v4,v4,iA e]
  .cases h
theorem xU{b:Type}{P:TU}{f:TR}{Q:b->Prop}:∀{t:KasT b},aq P f t Q->∃a,Q a
 |.ret a,h=>⟨a,h⟩
 |.ask _ _ _,h=>xU h.2.2
def E3(c:List dI):∃q,Srt c q:=by
 by_cases h:0<c.length
 .obtain⟨p,a,b⟩:=xU (xS (O:=MW) h);exact⟨p.toList,E2 a b⟩
 .refine⟨[],?_,List.Pairwise.nil⟩;rw[show c.length=0 by omega];exact a2p _
def G9(a:List dI):List Nat:=Classical.choose (E3 a)
def au(a:List dI):Srt a (G9 a):=a0A (E3 a)
def G_(m:kz.Nodup)(h:Srt kz q)(h':Srt kz q'):q=q':=by
 refine List.Perm.eq_of_pairwise (λa b i f n j=>?_) h.2 h'.2 (h.1.trans h'.1.symm);have d:=a06.mp (h.1.mem_iff.mp i);have c:=a06.mp (h'.1.mem_iff.mp f);have e:=KeyOrd.kle_antisymm n j;have l:kz.getD a (0,0,"")=kz[a]:=by simp[d]
 have g:kz.getD b (0,0,"")=kz[b]:=by simp[c]
 rw[l,g]at e;exact(List.getElem_inj m).mp e
open Classical in
def C3(g:SU)(xs:SX):Out PV:=if xs.length<64 then match fv g xs with
 |some a=>if a.Nodup then .ok (.l ((G9 a).map λi=>xs.getD i .n))else .wall
 |none=>.wall else .wall
def pK(g:SU)(ms:MA):ME:=λb=>(ms b).bind λa=>match a with
 |[.l a]=>C3 g a
 |_=>.wall
def SqT.same{K:Tj}{H H':Hp}{p:Addr}{xs:SR}(h:SqT K H p xs)(s:zr H H'):SqT K H' p xs:=by
 rcases h with h|h
 .rcases h with h|⟨o,h⟩
  .exact .inl (.inl (s _ _ h))
  .exact .inl (.inr ⟨o,s _ _ h⟩)
 .exact .inr h
theorem xV{W:RC}{M:SD}{wk:Bool}{g:SU}{Q:List V->Hp->Prop}:∀{xs:SX}{vs acc:SR}{H:Hp}{kz:List dI},zU W M H xs vs->fv g xs=some kz->(∀H' zs,zr H H'->cL W.K H' zs kz->Q (acc++zs) H')->xT (lsp W false [wk] g) vs acc H Q
 |[],_,acc,H,kz,hr,hk,q=>by cases hr;cases hk;have:=q H [] (zr.refl _) trivial;rw[a0m]at this;exact this
 |x::xs,_,acc,H,kz,hr,hk,q=>by
  obtain⟨v,r,rfl,h1,h2⟩:=hr;unfold fv at hk;split at hk
  .rename_i a b c hg;obtain⟨ks,e,rfl⟩:=v0.mp hk;refine⟨M,[x],⟨x,v,[],[],rfl,rfl,?_,rfl,rfl⟩,?_⟩
   .cases wk with
    |true=>exact h1.weak
    |false=>exact yK.iff.mpr h1
   .rw[hg];intro z H2 s hz;unfold RtV at hz;obtain⟨p,ws,rfl,hq,hws⟩:=hz;obtain⟨v1,r1,rfl,e1,hws⟩:=hws;obtain⟨v2,r2,rfl,e2,hws⟩:=hws;obtain⟨v3,r3,rfl,e3,hws⟩:=hws;cases hws;cases e1;cases e2;cases e3;refine xV (h2.same s) e λH' zs s' hz=>?_;have:=q H' (.ref p::zs) (s.trans s') ⟨⟨p,rfl,hq.same s'⟩,hz⟩;rw[W1];exact this
  .cases hk
theorem zU.E4{W:RC}{M:SD}{H:Hp}{xs:SX}{vs:SR}(h:zU W M H xs vs):∀q:List Nat,zU W M H (q.map λi=>xs.getD i .n) (q.map λi=>vs.getD i .non)
 |[]=>rfl
 |i::q=>by
  refine⟨_,_,rfl,?_,h.E4 q⟩;simp only[List.getD_eq_getElem?_getD];cases a:xs[i]? with
  |some x=>obtain⟨v,e,r⟩:=h.get a;rw[e];exact r
  |none=>
   cases b:vs[i]? with
   |none=>exact rfl
   |some v=>obtain⟨x,e,_⟩:=h.Ip b;rw[a]at e;cases e
def C4(F:yz X.prog X.w X.K X.mg X.base (CXe X.prog X.w) k f fd ps sp)(C:vF (k+2) X.A)(G:Binds X.K fd ps [])(z:Gl X "sorted")(y:X.mg "sorted"=none)(m:Gl X fn)(i:X.mg fn=some (.ref f))(L:PA X [e] t)(g:(fn==("__debug__":Str))=false:=by decide)
  (d:backTo pos (starEach [e] X.env)=(false,eval e X.env)::backTo pos (starEach [] X.env):=by rfl) (hpl:(backTo pos (starEach [e] X.env)).any (·.1)=false:=by rfl):
  PE X (.Call (.Name "sorted" p) [e] [⟨some "key",.Name fn p2,kpos⟩] pos) (λc H Q=>t c H λq b=>∃l n,q=[.ref l]/\SqL X.K b l n/\E1 sp X.K n b Q):=by
 intro a s c H Q I h;refine a01 (aF I z y boot_sorted ?_ (by decide) (by decide));refine callWith_kw (thn (L pos a s c H _ I h) λP D ⟨q,b,N,w,l,n,K,M,B⟩=>?_) d hpl;subst K;obtain⟨u,rfl,E⟩:=vals1 w;cases E;refine thn (FR (zN (v:=.ref f) m i rfl g) IW pos a D c b (λo r=>o=[.ref f]/\r=b) N ⟨rfl,rfl⟩) λws S ⟨o,r,J,A,O,x⟩=>?_;subst O;subst x;obtain⟨R,rfl,j⟩:=vals1 A;cases j;exact sT (PC F G) (λ_ h=>nomatch h) C J M B
def C5(F:yz X.prog X.w X.K X.mg X.base (CXe X.prog X.w) k f fd ps (lsp C.W false [wk] g))(K:vF (k+2) X.A)(M:Binds X.K fd ps [])(I:Gl X "sorted")(G:X.mg "sorted"=none)(o:Gl X fn)(n:X.mg fn=some (.ref f))(d:AM X C S ws [e] ms)(i:(fn==("__debug__":Str))=false:=by decide)
  (h:backTo pos (starEach [e] X.env)=(false,eval e X.env)::backTo pos (starEach [] X.env):=by rfl) (hpl:(backTo pos (starEach [e] X.env)).any (·.1)=false:=by rfl):
  FM X C S (.Call (.Name "sorted" p) [e] [⟨some "key",.Name fn p2,kpos⟩] pos) (pK g ms):=λw=>by
 obtain⟨ta,O,L⟩:=d w;refine⟨_,C4 F K M I G o n O i h hpl,λB P H D E R Q q=>L B P H D E R _ (Yc q λxs vs H1 s1 m b=>?_)⟩;have m:=m.weak;split at b
 .rename_i T _;obtain⟨v,r,rfl,⟨l,x,rfl,_,U,j⟩,t⟩:=m;cases t;unfold C3 at b;split at b
  .rename_i J;split at b
   .rename_i z y;split at b
    .rename_i N;have c:x.length=T.length:=(zU.len j).symm▸rfl;rw[w];refine⟨l,x,rfl,SqL.of U,by omega,xV j y λZ Y s hz=>⟨z,by rw[iA y,c],by exact hz,λW a u d=>?_⟩⟩;rw[G_ N u (au z)];have A:=j9 b s;exact A _ _ (zr.upd d) (VO ((j.same s).E4 _) d)
    .exact b.elim
   .exact b.elim
  .exact b.elim
 .exact b.elim
def bg(f:Str)(x:HV):List (Str×HV)->List (Str×HV)
 |[]=>[(f,x)]
 |a::r=>if a.1=f then(a.1,x)::r else a::bg f x r
theorem qw.VI{R:HV->V->Prop}{f:Str}{x:HV}{v:V}(a:R x v):∀{fs:List (Str×HV)}{d:Tg},qw R fs d->qw R (bg f x fs) (VI f v d)
 |[],_,h=>by cases h;exact⟨v,[],rfl,a,rfl⟩
 |g::r,_,⟨u,q,e,i,b⟩=>by
  subst e;unfold bg L2.VI;by_cases c:g.1=f
  .rw[if_pos c,if_pos (by omega)];exact⟨v,q,rfl,a,b⟩
  .rw[if_neg c,if_neg (by omega)];exact⟨u,_,rfl,i,qw.VI a b⟩
def fA(cs:Sy)(f:Str)(d mv:HME):HMS:=λa G=>(mv a G).fw λy e=>(d a e).fw λx b=>match x with
 |.g k=>match b[k]? with
  |some (.o c fs)=>if c∈cs/\fs.length<1000 then .nx a (b.set k (.o c (bg f y fs)))else .wall
  |_=>.wall
 |_=>.wall
def xW(I:HE X W E o m1)(N:HE X W E e m2)(p:∀c∈cs,Cls X.K (W.cls c)/\vk X.K (W.cls c) fn)(P:swapsWith e (some (.Attribute o fn pos')) pos.line X.env=pure false:=by rfl):
  HS X W E (.Assign [.Attribute o fn pos'] e pos) (fA cs fn m1 m2):=λh=>by
 obtain⟨to,B,w⟩:=I h;obtain⟨te,Q,F⟩:=N h;refine⟨_,Ee B Q P,λZ g A H l m G R D q=>F Z g A H l m G R _ (HPs.bind q λy C U L M S K u O=>?_)⟩;have s:=R.gro M S;refine w Z g C U l m L s _ (HPs.bind K λx A2 H2 G2 f i a v T=>?_);subst g;split at a
 .rename_i k;obtain⟨j,rfl⟩:=T;split at a
  .rename_i c fs J;split at a
   .rename_i b;obtain⟨d,n,hp,r⟩:=f.cell k _ J;have Y:=qw.len r;have t:=f.frw (o:=.ins (Z.W.cls c) d (VI fn u n)) j hp id;refine⟨_,_,d,n,rfl,hp,(p c b.1).1,(p c b.1).2,by rw[Y];exact b.2,Pr (c:=.o c (bg fn y fs)) (s.gro f i) j hp id ⟨d,_,ze,?_⟩ a⟩;exact qw.VI ((O.gro i).gro t) (r.imp λ_ _ z=>z.gro t)
   .exact a.elim
  .exact a.elim
 .exact a.elim
end L2
namespace L2
open PySem PySem.Spec PyProof.Rows PySem.W
def lI:PV->Out PV
 |.l a=>if fi a=true then .ok (.l a)else .wall
 |_=>.wall
def mLI(m:ME):ME:=λa=>(m a).bind lI
def PD(h:lI x=.ok y):∃a,x=.l a/\y=.l a/\fi a=true:=by
 cases x with
 |l a=>
  have h:(if fi a=true then Out.ok (PV.l a)else .wall)=.ok y:=h;split at h
  .rename_i b;cases h;exact⟨a,rfl,rfl,b⟩
  .cases h
 |_=>cases h
def LsR(W:RC)(H:Hp):List PV->List Addr->Prop
 |[],b=>b=[]
 |y::d,b=>∃p r a c,b=p::r/\y=.l a/\fi a=true/\H p=some (.lst c)/\zU W (λ_=>False) H a c/\LsR W H d r
def LsR.gen(f:Fr (λ_=>False) H H'):∀{a:To},LsR W H c a->(∀p∈a,∀o,H p=some o->H' p=some o)->LsR W H' c a:=by
 induction c with
 |nil=>intro a h _;exact h
 |cons y c g=>intro a h d;obtain⟨p,r,b,j,rfl,rfl,e,hp,rk,l⟩:=h;exact⟨p,r,b,j,rfl,rfl,e,d p u8 _ hp,rk.gen f λ_ m _=>m,g l λq i=>d q (S0 _ i)⟩
def LsR.snoc(hi:fi kvs=true)(hp:H p=some (.lst es))(rk:zU W (λ_=>False) H kvs es):∀{b:To},LsR W H e b->LsR W H (e++[.l kvs]) (b++[p]):=by
 induction e with
 |nil=>intro b h;cases h;exact⟨p,[],kvs,es,rfl,rfl,hi,hp,rk,rfl⟩
 |cons y e i=>intro b h;obtain⟨q,r,a,c,rfl,rfl,g,f,d,j⟩:=h;exact⟨q,r++[p],a,c,rfl,rfl,g,f,d,i j⟩
def LsR.len:∀{a:To},LsR W H b a->a.length=b.length:=by
 induction b with
 |nil=>intro a h;cases h;rfl
 |cons y b e=>intro a h;obtain⟨q,r,c,d,rfl,rfl,_,_,_,f⟩:=h;rw[v4,v4,e f]
def LsR.at:∀{a:To},LsR W H b a->∀p∈a,∃f,H p=some (.lst f):=by
 induction b with
 |nil=>intro a h;cases h;intro p hp;cases hp
 |cons y b e=>
  intro a h;obtain⟨q,r,c,d,rfl,rfl,_,g,_,i⟩:=h;intro p hp;rcases T1.mp hp with rfl|hp
  .exact⟨_,g⟩
  .exact e i p hp
def xX(W:RC)(H:Hp)(c:Hp)(x:PV)(v:V):Prop:=∃b a l,x=.l b/\v=.ref l/\H l=none/\c l=some (.lst (a.map .ref))/\LsR W c b a/\(∀p∈a,p≠l/\H p=none)/\a.Nodup
def E5{wi:TI}{g:TG}{tc:TT}{te:TE}{fr:SW}{X:Sy}{W:RC}{B:Bs}{P:SJ}{H:Hp}{σ:St}{ρ:Sto}(hi:∀R:It->Hp->Prop,xm C B S P true H R (mi ρ)->wi σ H R)(hW:W=C.W)(hS:X=inS S fr)(hg:LG ⟨W,E0,false⟩ X X g mg)(ht:LT ⟨W,E0,false⟩ X tc mc)(he:LFr ⟨W,E0,false⟩ X te me)(R:Rel C.W B S P H σ ρ)(Q:VK)(q:zF C B H (xX C.W H) Q (mLC mi fr mg mc (mLI me) ρ)):tLC wi g tc te fr σ H Q:=by
 subst hW hS;refine hi _ ?_;unfold mLC at q;revert q;cases mi ρ with
 |exc c fs=>exact id
 |wall=>exact id
 |ok u=>
  intro q J G s1 io l T;have R1:=R.keep s1;have q:=q;refine⟨λi n M U=>n=u.length-i/\i<=u.length/\∃w r s,Rel C.W (lcB B S P G l) (inS S fr) (λ_=>0) U M w/\U l=some (.lst (s.map .ref))/\LsR C.W U r s/\(∀p∈s,p≠l/\G p=none)/\s.Nodup/\zF C B H (xX C.W H) Q (lcP mg mc (mLI me) (u.drop i) w r),
   ⟨_,rfl,a0y _,Ka ρ fr,[],[],R1.comp T (zr.upd T) ze,ze,rfl,(λp hp=>by cases hp),a0X,q⟩,?_⟩
  rintro i n M U ⟨rfl,hle,w,r,s,R',L,rys,E,nd,d⟩
  have io':=io U (zr.fr R'.same);by_cases K:i<u.length
  .have hx:=T7 K;obtain⟨go,yl⟩:=io'.1 i _ hx;refine .inr ⟨go,λσ2 I=>i+1<=u.length/\∃w r s,Rel C.W (lcB B S P G l) (inS S fr) (λ_=>0) I σ2 w/\I l=some (.lst (s.map .ref))/\LsR C.W I r s/\(∀p∈s,p≠l/\G p=none)/\s.Nodup/\zF C B H (xX C.W H) Q (lcP mg mc (mLI me) (u.drop (i+1)) w r),λσ2 I h=>⟨u.length-(i+1),by omega,rfl,h.1,h.2⟩,λv O hy=>?_⟩;obtain⟨sy,ry⟩:=yl v O hy;have Ry:=R'.keep sy;have rx:=ry (Mof (lcB B S P G l) (inS S fr) (λ_=>0)) λa m hn=>⟨⟨.inl m,λz=>hn (z▸T)⟩,λj hj=>(mZ hj rfl).elim⟩;rw[a0Y K]at d;unfold lcP at d;cases N:mg u[i] w with
   |none=>rw[N]at d;exact d.elim
   |some f=>
    rw[N]at d;refine hg _ _ O M w _ v Ry rx _ ⟨f,N,λY Z=>ht _ _ O Y f Z _ ?_⟩;have d:zF C B H (xX C.W H) Q ((noX (mc f)).bind λt=>if t=true then(noX (mLI me f)).bind λy=>if r.length<sizeLine then lcP mg mc (mLI me) (u.drop (i+1)) f (r++[y])else .wall else lcP mg mc (mLI me) (u.drop (i+1)) f r):=d;revert d;cases mc f with
    |exc c fs=>exact λd=>d.elim
    |wall=>exact id
    |ok t=>
     intro d H5 s5;have R5:=Z.keep s5;have x:=s5 _ _ (sy _ _ L);have A:=rys.gen (zr.fr (sy.trans s5)) λp _ o h=>(sy.trans s5) _ _ h;cases t with
     |false=>exact En ⟨K,f,r,s,R5,x,A,E,nd,d⟩
     |true=>
      refine Eo (he _ _ H5 Y f R5 _ ?_);have d:zF C B H (xX C.W H) Q ((noX ((me f).bind lI)).bind λy=>if r.length<sizeLine then lcP mg mc (mLI me) (u.drop (i+1)) f (r++[y])else .wall):=d;revert d;cases me f with
      |exc c fs=>exact λd=>d.elim
      |wall=>exact id
      |ok y=>
       intro d v6 H6 s6 r6;have d:zF C B H (xX C.W H) Q ((noX (lI y)).bind λy=>if r.length<sizeLine then lcP mg mc (mLI me) (u.drop (i+1)) f (r++[y])else .wall):=d;cases ed:lI y with
       |exc c fs=>rw[ed]at d;exact d.elim
       |wall=>rw[ed]at d;exact d.elim
       |ok z=>
        rw[ed]at d;obtain⟨kvs,rfl,rfl,hik⟩:=PD ed;have d:zF C B H (xX C.W H) Q (if r.length<sizeLine then lcP mg mc (mLI me) (u.drop (i+1)) f (r++[.l kvs])else .wall):=d;split at d
        .rename_i hz;have R6:=R5.keep s6;obtain⟨p,rfl,D,es,hp6,rk⟩:=r6;have F:=s6 _ _ x;have pa:p≠l:=λz=>by rw[z,x]at D;cases D
         have fr6:Fr (λ_=>False) H6 (upd H6 l (.lst (s.map .ref++[.ref p]))):=λa o h m=>by
          have:a≠l:=λz=>by
           rcases m with m|m
           .exact m
           .rw[z,F]at h;cases h;exact m
          rw[zh this];exact h
         have hpn:G p=none:=by
          cases e:G p with
          |none=>rfl
          |some o=>have:zr G H5:=R5.same;rw[this _ _ e]at D;cases D
         have hnp:p∉s:=λhm=>by obtain⟨es',he'⟩:=A.at p hm;rw[he']at D;cases D
         refine⟨s.map .ref,F,by rw[f8,A.len];exact hz,K,f,r++[.l kvs],s++[p],R6.wrx (show(lcB B S P G l).xc l from rfl) (by exact id),?_,?_,?_,?_,d⟩
         .rw[a0n];exact ze
         .refine LsR.gen fr6 (LsR.snoc hik hp6 (V7 hik rk) (A.gen (zr.fr s6) λq _ o h=>s6 _ _ h)) λq hq o h=>?_;have:q≠l:=by
           rcases a0j.mp hq with h|h
           .exact(E q h).1
           .rw[T2.mp h];exact pa
          rw[zh this];exact h
         .intro q hq;rcases a0j.mp hq with h|h
          .exact E q h
          .rw[T2.mp h];exact⟨pa,hpn⟩
         .rw[a0r];exact⟨nd,a0t.mpr ⟨by simp,List.nodup_nil⟩,λa T b hb e=>hnp (by grind)⟩
        .exact d.elim
  .have e:i=u.length:=by omega
   subst e;rw[a10]at d;exact .inl ⟨io'.2,d _ U (s1.trans R'.same) ⟨r,s,l,rfl,rfl,zr.none s1 T,L,rys,λp hp=>⟨(E p hp).1,zr.none s1 (E p hp).2⟩,nd⟩⟩
def ZV:PV->Cell
 |.l a=>.l (a.map .v)
 |_=>.l []
def C6:∀{a:SR},zU W M H b a->yy W M A n H (b.map .v) a:=by
 induction b with
 |nil=>intro a r;exact r
 |cons x b c=>intro a r;obtain⟨v,q,rfl,e,d⟩:=r;exact⟨v,q,rfl,(by exact e),c d⟩
def C7(u:∀a∈R,∀o,H' a=some o->¬Imm o):∀{c:To}{A:SJ}{G:AH},LsR Z.W H' d c->c.Nodup->(∀p∈c,p∉R)->HH Z A (hide H' (c++R)) G->∃f,HH Z f (hide H' R) (G++d.map ZV)/\Gro Z A G.length (hide H' (c++R)) f (G++d.map ZV).length (hide H' R)/\∀j p,c[j]?=some p->f (G.length+j)=p:=by
 induction d with
 |nil=>
  intro c A G h E B s;cases h;refine⟨A,?_,?_,λj p e=>by cases e⟩
  .rw[a1G,a0m];exact s
  .rw[a1G,a0m];exact Gro.refl
 |cons y d P=>
  intro c A G h E B s;obtain⟨p,r,b,t,rfl,rfl,L,hp,rk,D⟩:=h;have g:=a0t.mp E;have l:=λz=>(a0j.mp z).elim g.1 (B p u8);have I:hide H' (p::(r++R)) p=none:=nh u8;have C:zr (hide H' (p::(r++R))) (hide H' (r++R)):=iw;have w:=(Yh l).trans hp;have n:zU Z.W (HM Z (exA A G.length p) (G.length+1)) (hide H' (r++R)) b t:=by
   refine V7 L (zU.gen ?_ (λ_ m _=>m) rk);intro a o h m;have O:a∉r++R:=λz=>by
    rcases m with m|m
    .exact m
    .rcases a0j.mp z with z|z
     .obtain⟨K,i⟩:=D.at a z;rw[i]at h;cases h;exact m
     .exact u a z o h m
   rw[Yh O];exact h
  have Q:dF Z.W (HM Z (exA A G.length p) (G.length+1)) (exA A G.length p) (G.length+1) (hide H' (r++R)) p (ZV (.l b)):=⟨t,w,C6 n⟩;have S:=s.alloc C I Q;have x:(G++[ZV (.l b)]).length=G.length+1:=by simp
  obtain⟨f,F,v,N⟩:=P D g.2 (λq T=>B q (S0 _ T)) S;have U:G++[ZV (.l b)]++d.map ZV=G++(PV.l b::d).map ZV:=by simp
  rw[U]at F v;have J:Gro Z A G.length (hide H' (p::(r++R))) (exA A G.length p) (G++[ZV (.l b)]).length (hide H' (r++R)):=by rw[x];exact Gro.ext C I
  refine⟨f,F,J.trans v,λj q e=>?_⟩;cases j with
  |zero=>cases e;rw[Nat.add_zero,v.agr _ (by simp),V5]
  |succ j=>have:=N j q e;rw[<- this];congr 1;omega
def MX(G:AH):PV->HX HV
 |.l a=>.ok (.g (G.length+a.length)) ((G++a.map ZV)++[.l ((List.range a.length).map λj=>.g (G.length+j))])
 |_=>.wall
section
variable {E:XK}
def MY(h:HH Z A H G)(s:zr H H2)(q:HPx Z E A G.length H (KV' Z Q) (MX G x))(r:xX Z.W H H2 x v):Q v H2:=by
 obtain⟨b,u,l,rfl,rfl,hl,m,C,f,P⟩:=r;have F:zr H (hide H2 (u++[l])):=λa o e=>by
  have:a∉u++[l]:=λz=>by
   rcases a0j.mp z with z|z
   .rw[(f a z).2]at e;cases e
   .rw[T2.mp z,hl]at e;cases e
  rw[Yh this];exact s a o e
 obtain⟨t,S,U,T⟩:=C7 (λa Y o e=>by rw[T2.mp Y,m]at e;cases e;exact id) C P (λp hp z=>(f p hp).1 (T2.mp z)) (h.keep F);have D:hide H2 [l] l=none:=nh (T2.mpr rfl);have w:zr (hide H2 [l]) (hide H2 []):=iw;have d:(G++b.map ZV).length=G.length+b.length:=by rw[S4,f8]
 have N:dF Z.W (HM Z (exA t (G++b.map ZV).length l) ((G++b.map ZV).length+1)) (exA t (G++b.map ZV).length l) ((G++b.map ZV).length+1) (hide H2 []) l (.l ((List.range b.length).map λj=>.g (G.length+j))):=by refine⟨u.map .ref,(Yh (by simp)).trans m,?_⟩;rw[show((List.range b.length).map λj=>HV.g (G.length+j))=((List.range b.length).map λj=>G.length+j).map .g from by rw[a0a];rfl];refine pG (by rw[f8,a0x,C.len]) λi j p I L=>?_;rw[a0e]at I;obtain⟨k,O,rfl⟩:=v0.mp I;have K:=(S7.mp O);obtain⟨M,B⟩:=K;rw[a1l]at B;subst B;rw[a0x]at M;exact⟨by omega,by rw[V6 (by omega)];exact T i p L⟩
 have y:=S.alloc w D N;have c:((G++b.map ZV)++[Cell.l ((List.range b.length).map λj=>HV.g (G.length+j))]).length=(G++b.map ZV).length+1:=by rw[S4];rfl
 have J:Gro Z t (G++b.map ZV).length (hide H2 [l]) (exA t (G++b.map ZV).length l) ((G++b.map ZV)++[Cell.l ((List.range b.length).map λj=>HV.g (G.length+j))]).length (hide H2 []):=by rw[c];exact Gro.ext w D
 have g:=((Gro.same F).trans U).trans J;refine q _ H2 y g _ ?_;rw[c,<- d];exact⟨a0T _,by rw[V5]⟩
end
section
variable {Z:HC}{A:SJ}{H:Hp}{G:AH}
theorem JQ(h:HH Z A H G):∀(n:Nat)(x:HV)(v:V)(y:PV),kB Z.W (HM Z A G.length) A G.length H x v->je G n x=some y->Rep Z.W (λa=>Z.M0 a\/Z.H0 a=none) H y v
 |0,_,_,_,_,e=>by cases e
 |n+1,.v x,v,y,r,e=>by cases e;exact Rep.sub r λ_ m _=>m.1
 |n+1,.t i,v,y,r,e=>by obtain⟨j,d,rfl⟩:=v0.mp e;obtain⟨p,b,rfl,s,q⟩:=r;exact⟨p,b,rfl,s,Yg (JQ h n) q d⟩
 |n+1,.g k,v,y,r,e=>by
  obtain⟨u,rfl⟩:=r;have l:=h.own k u;unfold je at e;split at e
  .rename_i i f;obtain⟨j,d,rfl⟩:=v0.mp e;obtain⟨b,g,q⟩:=h.cell k _ f;exact⟨A k,b,rfl,.inr l,g,Yg (JQ h n) q d⟩
  .rename_i i f;obtain⟨j,d,rfl⟩:=v0.mp e;obtain⟨b,g,q⟩:=h.cell k _ f;exact⟨A k,b,rfl,.inr l,.inl g,JO (JQ h n) q d⟩
  .rename_i i f;obtain⟨j,d,rfl⟩:=v0.mp e;obtain⟨o,b,g,q⟩:=h.cell k _ f;exact⟨A k,b,rfl,.inr l,.inr ⟨o,g⟩,JO (JQ h n) q d⟩
  .rename_i c i f;obtain⟨j,d,rfl⟩:=v0.mp e;obtain⟨t,b,g,q⟩:=h.cell k _ f;exact⟨A k,t,b,rfl,.inr l,g,fj (JQ h n) q d⟩
  .cases e
end
def mkV(c:Nat)(g:List HV->AH->HX HV)(xs:SX):Out PV:=match g (.g 0::xs.map .v) [.o c []]with
 |.ok (.v .n) G=>(match je G 8 (.g 0)with
  |some z=>.ok z
  |none=>.wall)
 |.exc c fs _=>.exc c fs
 |_=>.wall
def C8(M:Mk X.K (C.W.cls c) f)(F:yz X.prog X.w X.K X.mg X.base (CXe X.prog X.w) k f fd ps (hsp C.W n g))(hr:vF (k+1) X.A)(hg:Gl X x)(hm:X.mg x=some (.ref (C.W.cls c)))(D:Binds X.K fd ps [])(A:Passes (CXe X.prog X.w) X C.E)(ha:AM X C S ws (e::t) ms)(u:ws.all (!·)=true)(hn:ws.length+1=n)
  (E:(x==("__debug__":Str))=false:=by decide) (he:starEach (e::t) X.env=(false,eval e X.env)::starEach t X.env:=by rfl) (hpl:(backTo pos (starEach t X.env)).any (·.1)=false:=by rfl):EM X C S false (.Call (.Name x p) (e::t) [] pos) (zj (mkV c g) ms):=λhK=>by
 obtain⟨ta,a1,a2⟩:=ha hK;refine⟨_,uq M F hr hg hm D .nil A a1 E he hpl,λB P H σ ρ R Q q=>a2 B P H σ ρ R _ (j8 q λl s i s1 T h=>?_)⟩;intro x r A hd hne;rw[a0m];have Y:=R.keep s1;have O:zr i (upd (upd i r (.own x)) x (.ins (C.W.cls c) r [])):=λb o D=>by rw[zh (yq D A),zh (yq D hd)];exact D
 have sM:∀a,(Mof B S P a\/i a=none)->Mof B S P a:=λa m=>m.elim id λn=>Y.new a n;have hM:∀a,Mof B S P a->i a≠none->HM ⟨C.W,i,Mof B S P⟩ (λ_=>x) 1 a:=λa m n=>⟨.inl m,λ_ _ z=>n (z▸A)⟩;have hh:HH ⟨C.W,i,Mof B S P⟩ (λ_=>x) (upd (upd i r (.own x)) x (.ins (C.W.cls c) r [])) [.o c []]:=by
  refine⟨O,λk d e=>?_,λj k W U _=>?_,λk _=>A⟩
  .cases k with
   |zero=>cases e;exact⟨r,[],ze,rfl⟩
   |succ k=>simp at e
  .have W:j<1:=W;have U:k<1:=U;omega
 have ar:∀{ws:SI}{l:SX}{s:SR},ws.all (!·)=true->jC C.W (Mof B S P) i ws l s->yy C.W (HM ⟨C.W,i,Mof B S P⟩ (λ_=>x) 1) (λ_=>x) 1 (upd (upd i r (.own x)) x (.ins (C.W.cls c) r [])) (l.map .v) s:=λ{ws}=>by
  induction ws with
  |nil=>intro l s _ ⟨N,J⟩;subst N;exact J
  |cons w ws ih=>
   intro l s u ⟨x',v,xr,vr,N,J,h1,L⟩;subst N;rw[a2t,a2N]at u;cases w with
   |true=>cases u.1
   |false=>exact⟨v,vr,J,Rep.gen (O.fr) (λa m n=>hM a m n) (yK.iff.mp h1),ih u.2 L⟩
 have hl:l.length+1=n:=by rw[T.args.len.2,hn]
 refine⟨⟨C.W,i,Mof B S P⟩,λ_=>x,[.o c []],.g 0::l.map .v,rfl,by rw[v4,f8,hl],hh,⟨.ref x,s,rfl,⟨Nat.one_pos,rfl⟩,ar u T.args⟩,?_⟩;unfold mkV at h;revert h;cases g (.g 0::l.map .v) [.o c []]with
 |wall=>exact id
 |exc c' fs G2=>intro h A2 K e G t L g2 he I rf;exact h e G t K (Y.same.trans L.same) he I (rf.sub λa m _=>(sM a m.1).1.1)
 |ok y G2=>
  intro h;cases y with
  |v z=>
   cases z with
   |n=>
    intro A2 K h3 Z v rv;dsimp only at h;split at h
    .rename_i z hz;refine⟨rv,h (.ref x) K h3.same (RV.of ?_)⟩;have:=JQ h3 8 (.g 0) (.ref x) z ⟨a0c Nat.one_pos Z.le,by rw[Z.agr 0 Nat.one_pos]⟩ hz;exact this.sub λa m _=>sM a m
    .exact h.elim
   |_=>exact h.elim
  |_=>exact h.elim
def LsR.sw{W:RC}{H H':Hp}{a:Addr}{es:SH}(j:Rd H a (.dK es))(m:Rd H' a (.dK es))(c:∀b,b≠a->H' b=H b){ys:SX}:∀{d:To},(∀p∈d,p≠a)->LsR W H ys d->LsR W H' ys d:=by
 induction ys with
 |nil=>intro d _ h;exact h
 |cons y ys l=>intro d hp h;obtain⟨p,r,f,e,rfl,rfl,i,g,rk,n⟩:=h;exact⟨p,r,f,e,rfl,rfl,i,(c p (hp p u8)).trans g,rk.sw j m c,l (λq g=>hp q (S0 _ g)) n⟩
def Ha{g:TG}{N:TT}{T:TE}{fr:SW}{y:Sy}(E:S[i]?≠some 2)(W:y=inS S fr)(U:LG ⟨C.W,E0,false⟩ y y g mg)(X:LT ⟨C.W,E0,false⟩ y N mc)(he:LFr ⟨C.W,E0,false⟩ y T me){B:Bs}{P:SJ}{H:Hp}{σ:St}{ρ:Sto}(R:Rel C.W B S P H σ ρ)(Q:VK)(q:zF C B H (xX C.W H) Q (mLC (zP i) fr mg mc (mLI me) ρ)):tGz (tLC (ie (cE i)) g N T fr) σ H Q:=by
 cases f:zP i ρ with
 |wall=>unfold mLC at q;rw[f]at q;exact q.elim
 |exc c fs=>unfold zP at f;split at f<;>cases f
 |ok Z=>
  obtain⟨d,w⟩:∃d,ρ[i]?=some (some (.d d)):=by
   unfold zP at f;split at f
   .rename_i d h;exact⟨d,h⟩
   .cases f
  have F:Z=d.map λj=>kP j.1:=by unfold zP at f;rw[w]at f;cases f;rfl
  subst F;obtain⟨a,m,t,na,J,O⟩:=m7 R E w;rcases J with n|⟨o,n⟩
  .refine .inl ⟨a,m,n,λo=>?_⟩;have h0:=m8 R na n;have Rf:=R.loop.sw h0 (.inl rfl) (.inr ⟨o,rfl⟩);refine E5 (mi:=zP i) (λRr A=>?_) rfl W U X he Rf _ ?_
   .rw[f]at A;exact⟨.ref a,t,a,o,m,rfl,ze,A _ _ (zr.refl _) (Qo ze O)⟩
   .unfold mLC at q ⊢;rw[f]at q ⊢;have q:zF C B H (xX C.W H) Q (lcP mg mc (mLI me) (d.map λj=>kP j.1) (Ka ρ fr) []):=q;show zF C _ _ _ _ (lcP mg mc (mLI me) (d.map λj=>kP j.1) (Ka ρ fr) []);revert q;cases ho:lcP mg mc (mLI me) (d.map λj=>kP j.1) (Ka ρ fr) []with
    |wall=>exact id
    |exc c fs=>exact absurd ho V3
    |ok x=>
     intro q v H2 s r;have hf:=s a _ (ze);refine⟨⟨o,hf⟩,q v _ (λb u I=>?_) ?_⟩
     .by_cases e:b=a
      .subst e;rw[n]at I;rw[ze];exact I
      .rw[zh e];exact s b u (by rw[zh e];exact I)
     .obtain⟨ys,ps,l,e1,Y,L,G,rl,hp,nd⟩:=r;have K:∀{b:Addr},upd H a (.frz o (.dK m)) b=none->b≠a:=λh z=>by rw[z,ze]at h;cases h
      have M:=K L;rw[zh M]at L;refine⟨ys,ps,l,e1,Y,L,(zh M).trans G,rl.sw (.inr ⟨o,hf⟩) (.inl ze) (λb z=>zh z) λp D=>K (hp p D).2,λp D=>⟨(hp p D).1,?_⟩,nd⟩;have:=(hp p D).2;rw[zh (K this)]at this;exact this
  .refine .inr (E5 (λRr A=>?_) rfl W U X he R _ q);rw[f]at A;exact⟨.ref a,t,a,o,m,rfl,n,A _ _ (zr.refl _) (Qo n O)⟩
def Hb(bs:SI)(m:ME):HME:=λa G=>match mD G bs a with
 |some r=>match m r with
  |.ok x=>MX G x
  |_=>.wall
 |none=>.wall
def Hc(bs:SI)(N:SA)(fr:SW)(b:Sy)(n:X.calm=true)(h:tY X scope N fr=true)(D:PE X jc (cE i))(l:∀z:CI,GM (cxI X scope N z) ⟨W,E0,false⟩ b b tg mg)(J:∀z:CI,TsM (cxI X scope N z) ⟨W,E0,false⟩ b ifs mc)(he:∀z:CI,FM (cxI X scope N z) ⟨W,E0,false⟩ b elt me)(f:S[i]?≠some 2:=by decide)(I:b=inS S fr:=by rfl)(B:S.all (·==1)=true:=by rfl)(u:bs.length<=S.length:=by decide)
  (K:∀x,foldedSetIterable jc X.env x=pure x:=by intro _;rfl):HE X W E (.ListComp elt [⟨tg,jc,ifs,0⟩] scope pos) (Hb bs (mLC (zP i) fr mg mc (mLI me))):=λe=>by
 obtain⟨g,t,j⟩:=aZ l λ_=>e;obtain⟨O,m,y⟩:=aY J λ_=>e;obtain⟨T,F,p⟩:=G5 he λ_=>e;refine⟨_,Mq (Gb N fr n h (V2 D) (λa d s H L=>t ⟨a,d,s,H,L⟩) (λa d s H L=>m ⟨a,d,s,H,L⟩) (λa d s H L=>F ⟨a,d,s,H,L⟩) K),λZ w A H P U G R Q q=>?_⟩;subst w;unfold Hb at q;split at q
 .rename_i r o;refine Ha (C:=⟨Z.W,E,false⟩) f I j y p (Px R o B u) Q ?_;revert q;cases mLC (zP i) fr mg mc (mLI me) r with
  |ok x=>exact λq v Y s M=>MY R.toHH s q M
  |exc c fs=>exact λq=>q.elim
  |wall=>exact id
 .exact q.elim
def vU{a:Type}(xs:List a)(lo hi st:Tz):List a:=(sliceRange (sliceBounds lo hi st xs.length).1 (sliceBounds lo hi st xs.length).2.1 (sliceBounds lo hi st xs.length).2.2).filterMap (xs[·]?)
def iB(its:SO)(lo hi st:Tz):slicePick its.toArray lo hi st=(vU its lo hi st).toArray:=by unfold slicePick vU;simp only[List.size_toArray,List.getElem?_toArray]
theorem bj{vs:SR}{its:SO}(r:Vals vs its):∀q:List Nat,Vals (q.filterMap (vs[·]?)) (q.filterMap (its[·]?))
 |[]=>.nil
 |i::q=>by
  have h:(vs[i]?=none/\its[i]?=none)\/∃v u,vs[i]?=some v/\its[i]?=some u/\RelV v u:=by
   induction r generalizing i with
   |nil=>exact .inl ⟨rfl,rfl⟩
   |cons h _ c=>cases i with
    |zero=>exact .inr ⟨_,_,rfl,rfl,h⟩
    |succ i=>exact c i
  rw[a0I,a0I];rcases h with⟨b,a⟩|⟨v,u,b,a,d⟩
  .rw[b,a];exact bj r q
  .rw[b,a];exact .cons d (bj r q)
theorem zU.Rp{W:RC}{M:SD}{H:Hp}:∀{a:SX}{b:SR},zU W M H a b->∀i:Nat,(a[i]?=none/\b[i]?=none)\/∃x v,a[i]?=some x/\b[i]?=some v/\Rep W M H x v
 |[],_,h,i=>by cases h;exact .inl ⟨rfl,rfl⟩
 |x::a,_,⟨v,r,e,d,c⟩,i=>by
  subst e;cases i with
  |zero=>exact .inr ⟨x,v,rfl,rfl,d⟩
  |succ i=>exact zU.Rp c i
theorem zU.pick{W:RC}{M:SD}{H:Hp}{xs:SX}{vs:SR}(h:zU W M H xs vs):∀q:List Nat,zU W M H (q.filterMap (xs[·]?)) (q.filterMap (vs[·]?))
 |[]=>rfl
 |i::q=>by
  rw[a0I,a0I];rcases h.Rp i with⟨b,a⟩|⟨x,v,b,a,c⟩
  .rw[b,a];exact h.pick q
  .rw[b,a];exact⟨v,_,rfl,c,h.pick q⟩
def Rq(X:Cx)(r:V->Option Int->Option Int->Option Int->Hp->VK->Prop):Prop:=
 ∀(a:Sw)(s:SE)(b:St)(H:Hp)(x:V)(v c i g:Value)(f d h:Tz) (e:Addr) (Q:VK),Inv X a b H s->RelV x v->s.heap.IsSliceOf e c i g->IsPart c f->IsPart i d->IsPart g h->r x f d h H Q->
  ∃T id,typeLookup (.type T) "__getitem__"=pure (some (.builtin id))/\s.TypeIs v T/\wpAny (a32 X) X.A (getItem v (.ref e)) (EP X a b Q) X.xe s
def Sk(r:V->Option Int->Option Int->Option Int->Hp->VK->Prop)(b:TE)(f c e:TO):TE:=λa H Q=>b a H λx i=>f a i λl g=>c a g λu j=>e a j λd h=>r x l u d h Q
section
variable {X:Cx}{e st:SN}{te:TE}{lo hi:TQ}{tl th ts:TO}{pos p2:Pos}
def xY(E:Rq X r)(he:PE X e te)(U:PO X lo tl)(F:PO X hi th)(K:PO X (some st) ts):PE X (.Subscript e (.Slice lo hi (some st) p2) pos) (Sk r te tl th ts):=by intro a s f H Q I h;refine Subscript_ (thn (he a s f H _ I h) λv G ⟨x,W,n,y,J⟩=>?_);refine wpAny_Slice (thn (U a G f W _ n J) λg Y ⟨l,A,L,P,w⟩=>thn (F a Y f A _ L w) λj o ⟨u,N,C,S,p⟩=>thn (K a o f N _ C p) λi c ⟨d,m,B,O,t⟩=>?_);have M:Inv X a f m { c with heap:=c.heap.push { cls:=.type "slice",data:=.fields #[g,j,i] } }:=B.kept λb ob q=>S6 _ q;obtain⟨T,id,D,R,z⟩:=E a { c with heap:=c.heap.push { cls:=.type "slice",data:=.fields #[g,j,i] } } f m x v g j i l u d c.heap.objs.size Q M y (a3J ..) P S O t;exact tail_any R D z rfl
def Sl(K:SK):V->Option Int->Option Int->Option Int->Hp->VK->Prop:=λx lo hi st H Q=>∃a b,x=.ref a/\SqL K H a b/\st≠some 0/\(vU b lo hi st).length<=sizeLine/\∀p,H p=none->Q (.ref p) (upd H p (.lst (vU b lo hi st)))
def C9:Rq X (Sl X.K):=by intro f s z H x v y C A lo hi st B Q I w t p u n h;obtain⟨a,j,rfl,i,m,d,q⟩:=h;cases w;obtain⟨l,r,g,hz⟩:=I.list i;have c:=r.length;refine⟨"list",_,slot_list_getitem.lookup,g.isList.typeIs,?_⟩;refine a2M g.isList t p u n m ?_ (by grind);rw[iB];refine⟨.ref s.heap.objs.size,_,I.laid (λb ob q=>S6 _ q) (S5 _) ?_,rfl,q _ (I.hok.fresh (S5 _))⟩;refine⟨d,_,0,?_,a0k _ rfl⟩;unfold vU;rw[c];exact bj r _
end
def Oe:PV->Option Int->Option Int->Option Int->Out PV
 |.l b,c,d,a=>if a≠some 0/\(vU b c d a).length<=sizeLine then .ok (.l (vU b c d a))else .wall
 |_,_,_,_=>.wall
def MZ(m:ME)(lo hi st:MO):ME:=λa=>(m a).bind λx=>(lo a).bind λl=>(hi a).bind λh=>(st a).bind λd=>Oe x l h d
section
variable {X:Cx}{C:LC}{S:Sy}{e st:SN}{w:Bool}{m:ME}{lo hi:TQ}{ml mh md:MO}{pos p2:Pos}
def iC(h:EM X C S w e m)(hl:OM X C S lo ml)(J:OM X C S hi mh)(O:OM X C S (some st) md):FM X C S (.Subscript e (.Slice lo hi (some st) p2) pos) (MZ m ml mh md):=λf=>by
 obtain⟨te,Z,M⟩:=h f;obtain⟨tl,N,G⟩:=hl f;obtain⟨th,K,T⟩:=J f;obtain⟨td,Y,L⟩:=O f;refine⟨_,xY C9 Z N K Y,λB P H g b R Q q=>M B P H g b R _ (aV q λx v y u I a=>G B P y g b (R.keep u) _ ?_)⟩;revert a;cases ml b with
 |exc c fs=>exact id
 |wall=>exact id
 |ok l=>
  intro a s j;refine T B P s g b ((R.keep u).keep j) _ ?_;have a:=a;have a:=j9 a j;revert a;cases mh b with
  |exc c fs=>exact id
  |wall=>exact id
  |ok h=>
   intro a U n;refine L B P U g b (((R.keep u).keep j).keep n) _ ?_;have a:=a;have a:=j9 a n;revert a;cases md b with
   |exc c fs=>exact id
   |wall=>exact id
   |ok d=>
    intro a t E;have a:=j9 a E;have W:=((I.same j).same n).same E;cases x with
    |l i=>
     obtain⟨p,r,rfl,_,hp,A⟩:=W;have a:zF C B t (RFr C.W (Mof B S P) t) Q (if d≠some 0/\(vU i l h d).length<=sizeLine then .ok (.l (vU i l h d))else .wall):=a;split at a
     .rename_i F;have hn:=A.len.symm;have D:zU C.W (Mof B S P) t (vU i l h d) (vU r l h d):=by unfold vU;rw[hn];exact A.pick _
      exact⟨p,r,rfl,SqL.of hp,F.1,by rw[D.len];exact F.2,λz hz=>a _ _ (zr.upd hz) (VO D hz)⟩
     .exact a.elim
    |_=>exact a.elim
end
end L2
namespace L2
section
variable {κ α:Type}[DecidableEq κ]
def C_{k:κ}:zm ([]:List (κ×α)) k=none:=rfl
def zV{k j:κ}{v:α}{r:List (κ×α)}:zm ((j,v)::r) k=if j=k then some v else zm r k:=by
 unfold zm;by_cases h:j=k
 .simp[h]
 .simp[h]
theorem jh:∀{a:List (κ×α)}{k:κ},a.any (λb=>decide (b.1=k))=(zm a k).isSome
 |[],_=>rfl
 | (j,v)::r,k=>by
  rw[a04,zV,jh];by_cases h:j=k
  .simp[h]
  .simp[h]
theorem pM:∀{a:List (κ×α)}{k j:κ}{v:α},zm (a++[(k,v)]) j=(zm a j).or (if k=j then some v else none)
 |[],k,j,v=>by rw[a1h,zV];rfl
 | (i,u)::a,k,j,v=>by
  rw[a2S,zV,zV,pM];by_cases h:i=j
  .rw[if_pos h,if_pos h];rfl
  .rw[if_neg h,if_neg h]
theorem fB:∀{a:List (κ×α)}{k j:κ}{v:α},zm (a.map λc=>if c.1=k then(c.1,v)else c) j=if k=j then(zm a j).map (λ_=>v)else zm a j
 |[],k,j,v=>by split<;>rfl
 | (i,u)::a,k,j,v=>by
  rw[T6];by_cases h:i=k
  .subst h;rw[if_pos rfl,zV,zV,fB];by_cases h:i=j
   .rw[if_pos h,if_pos h,if_pos h];rfl
   .rw[if_neg h,if_neg h,if_neg h,if_neg h]
  .rw[if_neg h,zV,zV,fB];by_cases b:i=j
   .rw[if_pos b,if_pos b,if_neg (λz=>h (b.trans z.symm))]
   .rw[if_neg b,if_neg b]
def ya{a:List (κ×α)}{k j:κ}{v:α}:zm (dput a k v) j=if k=j then some v else zm a j:=by
 unfold dput;rw[jh];split
 .rename_i h;rw[fB];split
  .rename_i e;subst e;obtain⟨x,b⟩:=a0G.mp h;rw[b];rfl
  .rfl
 .rename_i h;rw[pM];by_cases e:k=j
  .subst e;have:zm a k=none:=by cases q:zm a k with|none=>rfl|some x=>rw[q]at h;exact absurd rfl h
   rw[this];rfl
  .rw[if_neg e,if_neg e];cases zm a j<;>rfl
def Wb{a:List (κ×α)}{k:κ}{v:α}:(dput a k v).map (·.1)=if(zm a k).isSome=true then a.map (·.1)else a.map (·.1)++[k]:=by
 unfold dput;rw[jh];split
 .rw[a0a];refine a1c λb _=>?_;show(if b.1=k then(b.1,v)else b).1=b.1;split<;>rfl
 .rw[a0n];rfl
theorem qK:∀{a:List (κ×α)}{k:κ}{v:α},zm a k=some v->(k,v)∈a
 |[],_,_,e=>by cases e
 | (j,u)::a,k,v,e=>by
  rw[zV]at e;split at e
  .rename_i h;subst h;cases e;exact u8
  .exact S0 _ (qK e)
def kC{a:List (κ×α)}{k:κ}:(zm a k).isSome=true↔k∈a.map (·.1):=by
 rw[<- jh,List.any_eq_true];constructor
 .rintro ⟨b,h,e⟩;exact a0i.mpr ⟨b,h,a0E e⟩
 .intro h;obtain⟨b,h,e⟩:=a0i.mp h;exact⟨b,h,a0d e⟩
def JR{a:List (κ×α)}{k:κ}{v:α}(h:(a.map (·.1)).Nodup):((dput a k v).map (·.1)).Nodup:=by
 rw[Wb];split
 .exact h
 .rename_i n;refine a0r.mpr ⟨h,by simp,λx c y b z=>?_⟩;obtain rfl:y=k:=by simpa using b
  subst z;exact n (kC.mpr c)
theorem xZ{p q:κ->Bool}:∀{l:List κ}{r:κ},r∈l->p r=true->q r=false->(∀x,q x=true->p x=true)->l.countP q<l.countP p
 |a::l,r,h,hp,d,c=>by
  have m:=a3l (l:=l) (λx _=>c x);rw[List.countP_cons,List.countP_cons];rcases T1.mp h with rfl|h
  .rw[if_pos hp,d,if_neg (by decide)];omega
  .have:=xZ h hp d c;cases b:q a with
   |false=>rw[if_neg (by decide)];split<;>omega
   |true=>rw[if_pos rfl,if_pos (c a b)];omega
abbrev FrO(κ:Type):=Option (Bool×List (κ×κ)×List κ)
def frL(e:κ->List (κ×κ)->List κ->FrO κ)(left:κ):List κ->List (κ×κ)->List κ->FrO κ
 |[],d,c=>some (false,d,c)
 |r::f,d,c=>if r∈c then frL e left f d c else
  match zm d r with
  |none=>some (true,dput d r left,c++[r])
  |some l=>match e l d (c++[r])with
   |none=>none
   |some (true,b,a)=>some (true,dput b r left,a)
   |some (false,b,a)=>frL e left f b a
def fr(rows:κ->List κ):Nat->κ->List (κ×κ)->List κ->FrO κ
 |0,_,_,_=>none
 |n+1,left,a,b=>frL (fr rows n) left (rows left) a b
def x_(rows:κ->List κ)(d:List κ)(ow:List (κ×κ))(c:List κ)(b:List (κ×κ))(a:List κ):Prop:=
 b=ow/\(∀x∈c,x∈a)/\(∀y∈d,y∈a)/\∀x∈a,x∈c\/∃l,zm ow x=some l/\∀y∈rows l,y∈a
theorem bo{rows:κ->List κ}{u:κ->List (κ×κ)->List κ->FrO κ}{left:κ}(i:∀{l m n g f},u l m n=some (false,g,f)->x_ rows (rows l) m n g f):
  ∀{s:List κ}{m:List (κ×κ)}{n:List κ}{g:List (κ×κ)}{f:List κ},frL u left s m n=some (false,g,f)->x_ rows s m n g f
 |[],m,n,g,f,e=>by cases e;exact⟨rfl,λx h=>h,λy h=>(a0U h).elim,λx h=>Or.inl h⟩
 |r::s,m,n,g,f,e=>by
  unfold frL at e;split at e
  .rename_i C;obtain⟨a,b,c,d⟩:=bo i e;exact⟨a,b,λy j=>(T1.mp j).elim (λz=>z▸b r C) (c y),d⟩
  .split at e
   .cases e
   .rename_i l I;split at e
    .cases e
    .cases e
    .rename_i v q G;obtain⟨H,t,A,F⟩:=i G;subst H;obtain⟨a,b,c,d⟩:=bo i e;have o:r∈q:=t r (T4 _ u8);refine⟨a,λx p=>b x (t x (T8 _ p)),λy j=>(T1.mp j).elim (λz=>z▸b r o) (c y),λx p=>?_⟩;rcases d x p with z|z
     .rcases F x z with w|⟨D,B,E⟩
      .rcases a0j.mp w with w|w
       .exact .inl w
       .obtain rfl:x=r:=by simpa using w
        exact .inr ⟨l,I,λy j=>b y (A y j)⟩
      .exact .inr ⟨D,B,λy j=>b y (E y j)⟩
     .exact .inr z
theorem Wc{rows:κ->List κ}:∀{n:Nat}{l:κ}{d:List (κ×κ)}{c:List κ}{b:List (κ×κ)}{a:List κ},fr rows n l d c=some (false,b,a)->x_ rows (rows l) d c b a
 |0,_,_,_,_,_,e=>by cases e
 |n+1,l,d,c,b,a,e=>bo (Wc) e
def Clo(rows:κ->List κ)(ow:List (κ×κ))(C:κ->Prop):Prop:=∀x,C x->∃l,zm ow x=some l/\∀y∈rows l,C y
structure Pre(left:κ)(ow:List (κ×κ))(tr:List κ):Prop where
 inj:∀x y l,x∉tr->y∉tr->zm ow x=some l->zm ow y=some l->x=y
 free:∀x,x∉tr->zm ow x≠some left
structure Iu(rows:κ->List κ)(left:κ)(rs:List κ)(ow:List (κ×κ))(tr:List κ)(ow':List (κ×κ)):Prop where
 old:∀x∈tr,zm ow' x=zm ow x
 inj:∀x y l,x∉tr->y∉tr->zm ow' x=some l->zm ow' y=some l->x=y
 own:∀l,(∃x,x∉tr/\zm ow' x=some l)↔l=left\/∃x,x∉tr/\zm ow x=some l
 val:∀x l,zm ow' x=some l->zm ow x=some l\/(l=left/\x∈rs)\/x∈rows l
 clo:∀C,Clo rows ow C->(∀x,C x->zm ow' x=zm ow x)/\∃y∈rs,¬C y
 nd:(ow.map (·.1)).Nodup->(ow'.map (·.1)).Nodup
def Iu.cons{rows:κ->List κ}{left r:κ}{f:List κ}{ow:List (κ×κ)}{d:List κ}{c:List (κ×κ)}(h:Iu rows left f ow d c):Iu rows left (r::f) ow d c:=
 ⟨h.old,h.inj,h.own,λx l e=>(h.val x l e).imp id (Or.imp (λz=>⟨z.1,S0 _ z.2⟩) id),λC g=>⟨(h.clo C g).1,let⟨y,a,b⟩:=(h.clo C g).2;⟨y,S0 _ a,b⟩⟩,h.nd⟩
theorem fC{rows:κ->List κ}{K:κ->List (κ×κ)->List κ->FrO κ}{left:κ}(hf:∀{l s m j o},K l s m=some (false,j,o)->x_ rows (rows l) s m j o)
  (H:∀{l s m j o},K l s m=some (true,j,o)->Pre l s m->Iu rows l (rows l) s m j):
  ∀{L:List κ}{s:List (κ×κ)}{m:List κ}{j:List (κ×κ)}{o:List κ},frL K left L s m=some (true,j,o)->Pre left s m->Iu rows left L s m j
 |[],s,m,j,o,e,_=>by cases e
 |r::L,s,m,j,o,e,P=>by
  unfold frL at e;split at e
  .exact(fC hf H e P).cons
  .rename_i v;split at e
   .rename_i N;cases e;refine⟨λx f=>?_,λx y l f g d i=>?_,λl=>⟨λ⟨x,f,d⟩=>?_,λz=>?_⟩,λx l d=>?_,λC D=>?_,JR⟩
    .rw[ya,if_neg (show ¬r=x from λz=>v (z▸f))]
    .rw[ya]at d i;split at d<;>split at i
     .rename_i a b;exact a.symm.trans b
     .cases d;exact absurd i (P.free y g)
     .cases i;exact absurd d (P.free x f)
     .exact P.inj x y l f g d i
    .rw[ya]at d;split at d
     .cases d;exact .inl rfl
     .exact .inr ⟨x,f,d⟩
    .rcases z with rfl|⟨x,f,d⟩
     .exact⟨r,v,by rw[ya,if_pos rfl]⟩
     .refine⟨x,f,?_⟩;rw[ya,if_neg (λz=>by subst z;rw[N]at d;cases d)];exact d
    .rw[ya]at d;split at d
     .rename_i z;cases d;subst z;exact .inr (.inl ⟨rfl,u8⟩)
     .exact .inl d
    .have F:¬C r:=λc=>by obtain⟨l,h,_⟩:=D r c;rw[N]at h;cases h
     exact⟨λx c=>by rw[ya,if_neg (show ¬r=x from λz=>F (z▸c))],r,u8,F⟩
   .rename_i I E;split at e
    .cases e
    .rename_i u p J;cases e;have Q:Pre I s (m++[r]):=⟨λx y l f g=>P.inj x y l (λz=>f (T8 _ z)) (λz=>g (T8 _ z)),λx f d=>f (T4 _ (by
      have:=P.inj x r I (λz=>f (T8 _ z)) v d E;simp[this]))⟩
     have w:=H J Q;have G:left≠I:=λz=>P.free r v (z▸E);have B:∀x,x∉m->r≠x->x∉m++[r]:=λx f n z=>(a0j.mp z).elim f λz=>n (T2.mp z).symm;have M:∀x,x∉m->r≠x->zm u x≠some left:=λx f n d=>by
      rcases(w.own left).mp ⟨x,B x f n,d⟩with z|⟨y,g,z⟩
      .exact G z
      .exact P.free y (λq=>g (T8 _ q)) z
     refine⟨λx f=>?_,λx y l f g d i=>?_,λl=>⟨λ⟨x,f,d⟩=>?_,λz=>?_⟩,λx l d=>?_,λC D=>?_,λR=>JR (w.nd R)⟩
     .rw[ya,if_neg (show ¬r=x from λz=>v (z▸f))];exact w.old x (T8 _ f)
     .rw[ya]at d i;split at d<;>split at i
      .rename_i a b;exact a.symm.trans b
      .rename_i a b;cases d;exact absurd i (M y g b)
      .rename_i a b;cases i;exact absurd d (M x f a)
      .rename_i a b;exact w.inj x y l (B x f a) (B y g b) d i
     .rw[ya]at d;split at d
      .cases d;exact .inl rfl
      .rename_i a;rcases(w.own l).mp ⟨x,B x f a,d⟩with rfl|⟨y,g,z⟩
       .exact .inr ⟨r,v,E⟩
       .exact .inr ⟨y,λq=>g (T8 _ q),z⟩
     .rcases z with rfl|⟨x,f,d⟩
      .exact⟨r,v,by rw[ya,if_pos rfl]⟩
      .have:∃y,y∉m++[r]/\zm u y=some l:=(w.own l).mpr (by
        by_cases q:r=x
        .subst q;rw[E]at d;cases d;exact .inl rfl
        .exact .inr ⟨x,B x f q,d⟩)
       obtain⟨y,g,i⟩:=this;refine⟨y,λq=>g (T8 _ q),?_⟩;rw[ya,if_neg (λz=>g (T4 _ (by simp[z])))];exact i
     .rw[ya]at d;split at d
      .rename_i z;cases d;subst z;exact .inr (.inl ⟨rfl,u8⟩)
      .rcases w.val x l d with z|⟨rfl,z⟩|z
       .exact .inl z
       .exact .inr (.inr z)
       .exact .inr (.inr z)
     .have F:¬C r:=λc=>by obtain⟨l,h,q⟩:=D r c;rw[E]at h;cases h;obtain⟨y,g,n⟩:=(w.clo C D).2;exact n (q y g)
      exact⟨λx c=>by rw[ya,if_neg (show ¬r=x from λz=>F (z▸c))];exact(w.clo C D).1 x c,r,u8,F⟩
    .rename_i u p J;obtain⟨S,O,T,U⟩:=hf J;subst S;have sub:=λx f=>O x (T8 _ f);have w:=fC hf H e ⟨λx y l f g=>P.inj x y l (λz=>f (sub x z)) (λz=>g (sub y z)),λx f=>P.free x λz=>f (sub x z)⟩;refine⟨λx f=>w.old x (sub x f),λx y l f g d i=>?_,λl=>?_,w.cons.val,w.cons.clo,w.nd⟩
     .by_cases t:x∈p<;>by_cases A:y∈p
      .rw[w.old x t]at d;rw[w.old y A]at i;exact P.inj x y l f g d i
      .rw[w.old x t]at d;rcases(w.own l).mp ⟨y,A,i⟩with rfl|⟨z,hz,e3⟩
       .exact absurd d (P.free x f)
       .have:=P.inj x z l f (λq=>hz (sub z q)) d e3;subst this;exact absurd t hz
      .rw[w.old y A]at i;rcases(w.own l).mp ⟨x,t,d⟩with rfl|⟨z,hz,e3⟩
       .exact absurd i (P.free y g)
       .have:=P.inj y z l g (λq=>hz (sub z q)) i e3;subst this;exact absurd A hz
      .exact w.inj x y l t A d i
     .constructor
      .rintro ⟨x,f,d⟩
       by_cases t:x∈p
       .rw[w.old x t]at d;exact .inr ⟨x,f,d⟩
       .rcases(w.own l).mp ⟨x,t,d⟩with z|⟨y,g,z⟩
        .exact .inl z
        .exact .inr ⟨y,λq=>g (sub y q),z⟩
      .rintro (rfl|⟨x,f,d⟩)
       .obtain⟨x,f,z⟩:=(w.own l).mpr (.inl rfl);exact⟨x,λq=>f (sub x q),z⟩
       .by_cases t:x∈p
        .exact⟨x,f,by rw[w.old x t];exact d⟩
        .obtain⟨y,g,z⟩:=(w.own l).mpr (.inr ⟨x,t,d⟩);exact⟨y,λq=>g (sub y q),z⟩
theorem Aa{rows:κ->List κ}:∀{n:Nat}{l:κ}{d:List (κ×κ)}{c:List κ}{a:List (κ×κ)}{b:List κ},fr rows n l d c=some (true,a,b)->Pre l d c->Iu rows l (rows l) d c a
 |0,_,_,_,_,_,e,_=>by cases e
 |n+1,l,d,c,a,b,e,P=>fC Wc (Aa) e P
def bp(ow:List (κ×κ))(a:List κ):Nat:=(ow.map (·.1)).countP λx=>decide (x∉a)
theorem fD{rows:κ->List κ}{i:κ->List (κ×κ)->List κ->FrO κ}{left:κ}{n:Nat}(hf:∀{l a b f d},i l a b=some (false,f,d)->x_ rows (rows l) a b f d)
  (he:∀{l a b},bp a b<n->i l a b≠none):∀{j:List κ}{a:List (κ×κ)}{b:List κ},bp a b<=n->frL i left j a b≠none
 |[],a,b,_,e=>by cases e
 |r::j,a,b,h,e=>by
  unfold frL at e;split at e
  .exact fD hf he h e
  .rename_i p;split at e
   .cases e
   .rename_i l t;have lt:bp a (b++[r])<bp a b:=xZ (kC.mp (by rw[t];rfl)) (by grind) (by simp) λx c=>by simp only[decide_eq_true_eq]at c ⊢;exact λz=>c (T8 _ z)
    split at e
    .rename_i g;exact he (a0c lt h) g
    .cases e
    .rename_i m o g;obtain⟨s,q,_,_⟩:=hf g;subst s;refine fD hf he (T9 (a3l λx _ c=>?_) h) e;simp only[decide_eq_true_eq]at c ⊢;exact λz=>c (q x (T8 _ z))
theorem Ab{rows:κ->List κ}:∀{n:Nat}{l:κ}{a:List (κ×κ)}{b:List κ},bp a b<n->fr rows n l a b≠none
 |0,_,_,_,h=>absurd h (a09 _)
 |n+1,l,a,b,h=>fD Wc (Ab) (a2D h)
theorem Wd:∀{a b:List κ},a.Nodup->(∀x∈a,x∈b)->a.length<=b.length
 |[],b,_,_=>a0y _
 |x::a,b,g,h=>by obtain⟨f,e⟩:=a0t.mp g;have c:=h x u8;have:=Wd e λy d=>(a3y (show y≠x from λz=>f (z▸d))).mpr (h y (S0 _ d));rw[a2Y c]at this;have:=a3f c;rw[v4];omega
structure Good(rows:κ->List κ)(done:List κ)(ow:List (κ×κ)):Prop where
 nd:(ow.map (·.1)).Nodup
 inj:∀x y l,zm ow x=some l->zm ow y=some l->x=y
 val:∀x l,zm ow x=some l->x∈rows l
 sub:∀x l,zm ow x=some l->l∈done
 uns:∀l∈done,(∃x,zm ow x=some l)\/∃C,Clo rows ow C/\∀y∈rows l,C y
theorem yf:∀{a:List (κ×α)}{k:κ}{v:α},(a.map (·.1)).Nodup->(k,v)∈a->zm a k=some v
 | (j,u)::a,k,v,d,h=>by
  obtain⟨c,b⟩:=a0t.mp d;rw[zV];rcases T1.mp h with e|h
  .cases e;rw[if_pos rfl]
  .rw[if_neg (λz=>c (a0i.mpr ⟨_,h,z.symm⟩))];exact yf b h
theorem Ac:∀{a:List (κ×κ)},(a.map (·.1)).Nodup->(∀x y l,(x,l)∈a->(y,l)∈a->x=y)->(a.map (·.2)).Nodup
 |[],_,_=>a0X
 | (k,v)::a,d,h=>by obtain⟨f,c⟩:=a0t.mp d;refine a0t.mpr ⟨λz=>?_,Ac c λx y l i g=>h x y l (S0 _ i) (S0 _ g)⟩;obtain⟨⟨j,u⟩,b,e⟩:=a0i.mp z;have e:u=v:=e;subst e;have:=h k j u u8 (S0 _ b);subst this;exact f (a0i.mpr ⟨_,b,rfl⟩)
def Good.vals{rows:κ->List κ}{done:List κ}{ow:List (κ×κ)}(g:Good rows done ow):(ow.map (·.2)).Nodup:=
 Ac g.nd λx y l b a=>g.inj x y l (yf g.nd b) (yf g.nd a)
def Good.len{rows:κ->List κ}{done:List κ}{ow:List (κ×κ)}(g:Good rows done ow):ow.length<=done.length:=by
 have:=Wd (b:=done) g.vals λl c=>by obtain⟨⟨x,a⟩,h,e⟩:=a0i.mp c;have e:a=l:=e;subst e;exact g.sub x a (yf g.nd h)
 rwa [f8]at this
def gr(rows:κ->List κ)(n:Nat):List κ->List (κ×κ)->Option (List (κ×κ))
 |[],a=>some a
 |l::c,a=>match fr rows n l a []with
  |none=>none
  |some (_,b,_)=>gr rows n c b
def Good.one{rows:κ->List κ}{l:κ}{done:List κ}{ow:List (κ×κ)}(g:Good rows done ow)(s:l∉done)(t:done.length<n):
  ∃b i f,fr rows n l ow []=some (b,i,f)/\Good rows (done++[l]) i:=by
 have r:fr rows n l ow []≠none:=Ab (a0q (T9 a15 (by rw[f8];exact g.len)) t);cases e:fr rows n l ow []with
 |none=>exact absurd e r
 |some q=>
  obtain⟨b,i,f⟩:=q;refine⟨b,i,f,rfl,?_⟩;cases b with
  |false=>
   obtain⟨rfl,_,c,d⟩:=Wc e;refine⟨g.nd,g.inj,g.val,λx l h=>T8 _ (g.sub x l h),λa h=>?_⟩;rcases a0j.mp h with h|h
   .exact g.uns a h
   .obtain rfl:=T2.mp h;exact .inr ⟨(·∈f),λx j=>(d x j).elim (λz=>(a0U z).elim) id,c⟩
  |true=>
   have w:=Aa e ⟨λx y l _ _=>g.inj x y l,λx _ h=>s (g.sub x l h)⟩;have m:∀x:κ,x∉([]:List κ):=λx h=>a0U h;refine⟨w.nd g.nd,λx y l=>w.inj x y l (m x) (m y),λx a h=>?_,λx a h=>?_,λa h=>?_⟩
   .rcases w.val x a h with z|⟨rfl,z⟩|z
    .exact g.val x a z
    .exact z
    .exact z
   .rcases(w.own a).mp ⟨x,m x,h⟩with rfl|⟨y,_,z⟩
    .exact T4 _ u8
    .exact T8 _ (g.sub y a z)
   .rcases a0j.mp h with h|h
    .rcases g.uns a h with⟨x,z⟩|⟨C,o,p⟩
     .obtain⟨y,_,z⟩:=(w.own a).mpr (.inr ⟨x,m x,z⟩);exact .inl ⟨y,z⟩
     .refine .inr ⟨C,λx j=>?_,p⟩;rw[(w.clo C o).1 x j];exact o x j
    .obtain rfl:=T2.mp h;obtain⟨y,_,z⟩:=(w.own a).mpr (.inl rfl);exact .inl ⟨y,z⟩
def Dc{rows:κ->List κ}:Good rows [] []where
 nd:=a0X
 inj:=λx y l (h:none=some l)=>by cases h
 val:=λx l (h:none=some l)=>by cases h
 sub:=λx l (h:none=some l)=>by cases h
 uns:=λl h=>(a0U h).elim
def Good.clo{rows:κ->List κ}{done:List κ}{ow:List (κ×κ)}(g:Good rows done ow):∃C,Clo rows ow C/\∀l∈done,(∀x,zm ow x≠some l)->∀y∈rows l,C y:=
 ⟨λx=>∃C,Clo rows ow C/\C x,λx ⟨C,b,d⟩=>let⟨l,h1,h2⟩:=b x d;⟨l,h1,λy a=>⟨C,b,h2 y a⟩⟩,λl e f y a=>by
  rcases g.uns l e with⟨x,z⟩|⟨C,c,h⟩
  .exact absurd z (f x)
  .exact⟨C,c,h y a⟩⟩
def rcI(ow:List (κ×κ)):List κ->List κ×List κ->Option (List κ×List κ)
 |[],s=>some s
 |r::t,(b,a)=>if r∈a then rcI ow t (b,a)else match zm ow r with
  |none=>none
  |some l=>rcI ow t (b++[l],a++[r])
structure Rch(ow:List (κ×κ))(C:κ->Prop)(U ls rs:List κ):Prop where
 nd:rs.Nodup
 own:ls=U++rs.filterMap (zm ow)
 all:∀x∈rs,C x
theorem Ad{rows:κ->List κ}{ow:List (κ×κ)}{C:κ->Prop}(b:Clo rows ow C):∀{a:List κ},(∀x∈a,C x)->(a.filterMap (zm ow)).length=a.length
 |[],_=>rfl
 |r::a,h=>by obtain⟨l,d,_⟩:=b r (h r u8);rw[a0I,d];show _+1=_+1;rw[Ad b λx c=>h x (S0 _ c)]
theorem Ae{rows:κ->List κ}{ow:List (κ×κ)}{C:κ->Prop}{U:List κ}(q:Clo rows ow C):∀{t m j:List κ},Rch ow C U m j->(∀x∈t,C x)->∃i g,rcI ow t (m,j)=some (i,g)/\Rch ow C U i g/\(∀x∈t,x∈g)/\(∃p,i=m++p)/\(∀x∈j,x∈g)/\∀x∈g,x∈j\/x∈t
 |[],m,j,h,_=>⟨m,j,rfl,h,λx f=>(a0U f).elim,⟨[],by simp⟩,λx f=>f,λx f=>.inl f⟩
 |r::t,m,j,h,n=>by
  unfold rcI;split
  .rename_i o;obtain⟨i,g,e,a,b,p,c,d⟩:=Ae q h λx f=>n x (S0 _ f);exact⟨i,g,e,a,λx f=>(T1.mp f).elim (λz=>z▸c r o) (b x),p,c,λx f=>(d x f).imp id (S0 _)⟩
  .rename_i o;obtain⟨l,s,_⟩:=q r (n r u8);rw[s];have v:Rch ow C U (m++[l]) (j++[r]):=⟨a0r.mpr ⟨h.nd,by simp,λx f y u z=>o (by grind)⟩,by rw[h.own,List.filterMap_append,W1,a0I,s];rfl,λx f=>(a0j.mp f).elim (h.all x) λz=>by rw[T2.mp z];exact n r u8⟩;obtain⟨i,g,e,a,b,⟨p,hp⟩,c,d⟩:=Ae q v λx f=>n x (S0 _ f);refine⟨i,g,e,a,λx f=>(T1.mp f).elim (λz=>z▸c r (T4 _ u8)) (b x),⟨[l]++p,by rw[hp,W1]⟩,λx f=>c x (T8 _ f),λx f=>?_⟩;rcases d x f with z|z
   .rcases a0j.mp z with z|z
    .exact .inl z
    .rw[T2.mp z];exact .inr u8
   .exact .inr (S0 _ z)
end
section
variable {κ:Type}[DecidableEq κ]
def rcW(rows:κ->List κ)(ow:List (κ×κ)):Nat->Nat->List κ×List κ->Option (List κ×List κ)
 |0,_,_=>none
 |n+1,w,(a,b)=>match a[w]? with
  |none=>some (a,b)
  |some l=>match rcI ow (rows l) (a,b)with
   |none=>none
   |some s=>rcW rows ow n (w+1) s
structure Of(rows:κ->List κ)(ow:List (κ×κ))(C:κ->Prop)(U:List κ)(w:Nat)(ls rs:List κ):Prop extends Rch ow C U ls rs where
 le:w<=ls.length
 seen:∀i l,i<w->ls[i]?=some l->∀x∈rows l,x∈rs
 D3:∀x∈rs,∃i l,i<w/\ls[i]?=some l/\x∈rows l
def Rch.sub{rows:κ->List κ}{ow:List (κ×κ)}{C:κ->Prop}{U ls d:List κ}(g:Clo rows ow C)(f:∀l∈U,∀y∈rows l,C y)(h:Rch ow C U ls d):∀l∈ls,∀y∈rows l,C y:=λl b y a=>by
 rw[h.own]at b;rcases a0j.mp b with z|z
 .exact f l z y a
 .obtain⟨x,i,e⟩:=a1e.mp z;obtain⟨j,c,q⟩:=g x (h.all x i);rw[e]at c;cases c;exact q y a
def Rch.len{rows:κ->List κ}{ow:List (κ×κ)}{C:κ->Prop}{U ls a:List κ}(b:Clo rows ow C)(h:Rch ow C U ls a):ls.length=U.length+a.length:=by rw[h.own,S4,Ad b h.all]
def Rch.few{rows:κ->List κ}{ow:List (κ×κ)}{C:κ->Prop}{U ls a:List κ}(c:Clo rows ow C)(h:Rch ow C U ls a):a.length<=ow.length:=by
 have:=Wd (b:=ow.map (·.1)) h.nd λx d=>by obtain⟨l,e,_⟩:=c x (h.all x d);exact kC.mp (by rw[e];rfl)
 rwa [f8]at this
theorem E6{rows:κ->List κ}{ow:List (κ×κ)}{C:κ->Prop}{U:List κ}(o:Clo rows ow C)(B:∀l∈U,∀y∈rows l,C y):∀{n w:Nat}{f r:List κ},Of rows ow C U w f r->U.length+ow.length<n+w->
  ∃g m,rcW rows ow n w (f,r)=some (g,m)/\Of rows ow C U g.length g m
 |0,w,f,r,h,I=>by have a:=h.toRch.len o;have b:=h.toRch.few o;have:=h.le;omega
 |n+1,w,f,r,h,I=>by
  unfold rcW;cases e:f[w]? with
  |none=>have:w=f.length:=a27 h.le (a1r.mp e);subst this;exact⟨f,r,rfl,h⟩
  |some l=>
   have E:=(S7.mp e).1;obtain⟨j,A,J,a,b,⟨p,hp⟩,c,d⟩:=Ae o h.toRch (Rch.sub o B h.toRch l (a0Q e));have D:∀i l,f[i]?=some l->j[i]?=some l:=λi l q=>by rw[hp,a0o (S7.mp q).1];exact q
   have F:∀i,i<=w->j[i]?=f[i]?:=λi t=>by rw[hp,a0o (a0q t E)]
   have v:Of rows ow C U (w+1) j A:={
    toRch:=a
    le:=by rw[hp,S4];omega
    seen:=λi u t q x s=>by
     rw[F i (a2D t)]at q;rcases Nat.lt_or_eq_of_le (a2D t)with z|z
     .exact c x (h.seen i u z q x s)
     .subst z;rw[e]at q;cases q;exact b x s
    D3:=λx s=>by
     rcases d x s with z|z
     .obtain⟨i,u,v,G,H⟩:=h.D3 x z;exact⟨i,u,a1E v,D i u G,H⟩
     .exact⟨w,l,a0T _,D w l e,z⟩ }
   dsimp only;rw[J];exact E6 o B v (by omega)
def sU{rows:κ->List κ}{ow:List (κ×κ)}{done U:List κ}(g:Good rows done ow)(u:U.Nodup)(m:∀l,l∈U↔l∈done/\∀x,zm ow x≠some l)(I:U.length+ow.length<n):
  ∃c a,rcW rows ow n 0 (U,[])=some (c,a)/\c.length=U.length+a.length/\c.Nodup/\(∀l∈c,l∈done)/\a.Nodup/\(∀x,x∈a↔∃l∈c,x∈rows l)/\(U=[]->c=[])/\c=U++a.filterMap (zm ow):=by
 obtain⟨C,B,p⟩:=g.clo;have t:=λl d=>p l ((m l).mp d).1 ((m l).mp d).2;have G:Of rows ow C U 0 U []:={
  nd:=a0X
  own:=by simp
  all:=λx b=>(a0U b).elim
  le:=a0y _
  seen:=λi l j=>absurd j (a09 _)
  D3:=λx b=>(a0U b).elim }
 obtain⟨c,a,e,h⟩:=E6 B t G (by omega);have f:∀l,l∈a.filterMap (zm ow)->∃x,zm ow x=some l:=λl d=>let⟨x,_,e⟩:=a1e.mp d;⟨x,e⟩
 have o:∀{a:List κ},a.Nodup->(a.filterMap (zm ow)).Nodup:=λ{a}=>by
  induction a with
  |nil=>exact λ_=>a0X
  |cons r a v=>
   intro w;obtain⟨F,A⟩:=a0t.mp w;rw[a0I];cases q:zm ow r with
   |none=>exact v A
   |some l=>refine a0t.mpr ⟨λz=>?_,v A⟩;obtain⟨x,b,e⟩:=a1e.mp z;exact F (by rw[g.inj r x l q e];exact b)
 refine⟨c,a,e,h.toRch.len B,?_,λl d=>?_,h.nd,λx=>⟨λb=>?_,λ⟨l,d,b⟩=>?_⟩,λz=>?_,h.own⟩
 .rw[h.own];refine a0r.mpr ⟨u,o h.nd,λx b y D z=>?_⟩;subst z;obtain⟨q,s⟩:=f x D;exact((m x).mp b).2 q s
 .rw[h.own]at d;rcases a0j.mp d with z|z
  .exact((m l).mp z).1
  .obtain⟨q,s⟩:=f l z;exact g.sub q l s
 .obtain⟨i,l,_,E,H⟩:=h.D3 x b;exact⟨l,a0Q E,H⟩
 .obtain⟨i,j⟩:=List.getElem?_of_mem d;exact h.seen i l (S7.mp j).1 j x b
 .subst z;cases n with
  |zero=>omega
  |succ n=>have e:=e;cases e;rfl
def Dd{done V:List κ}(e:done.Nodup)(d:V.Nodup)(h:∀x∈V,x∈done):(done.filter λl=>decide (l∉V)).length+V.length=done.length:=by
 have f:(done.filter λl=>decide (l∈V)).length=V.length:=a27
  (Wd (e.sublist a1N) λx b=>by simpa using(a0B.mp b).2)
  (Wd d λx b=>a0B.mpr ⟨h x b,by simpa using b⟩)
 have c:∀l:List κ,(l.filter λl=>decide (l∉V)).length+(l.filter λl=>decide (l∈V)).length=l.length:=λl=>by
  induction l with
  |nil=>rfl
  |cons a l g=>
   rw[a02,a02];by_cases q:a∈V
   .simp only[q,not_true_eq_false,decide_false,decide_true,if_true,Bool.false_eq_true,if_false,List.length_cons];omega
   .simp only[q,not_false_eq_true,decide_false,decide_true,if_true,Bool.false_eq_true,if_false,List.length_cons];omega
 rw[<- f];exact c done
def outside(V:List κ)(k:κ):Bool:=decide (k∉V)
def zJ{V:List κ}{k:κ}:outside V k=true↔k∉V:=by exact decide_eq_true_iff
def bare(done V:List κ):List κ:=done.filter (outside V)
def y4{done V:List κ}{k:κ}:k∈bare done V↔k∈done/\k∉V:=by unfold bare;rw[a0B,zJ]
def fE{done V:List κ}(h:done.Nodup):(bare done V).Nodup:=h.sublist a1N
def JS{done V:List κ}(b:done.Nodup)(a:V.Nodup)(h:∀x∈V,x∈done):(bare done V).length+V.length=done.length:=Dd b a h
end
end L2
namespace K37
open PySem L2
noncomputable section NCS
def top(i:Nat):Stmt:=PySem.Challenge.pw_fleetpath_k37_whole_fewest_cars.main.body.getD i (.Pass ⟨0,0,0,0⟩)
abbrev bq:Stmt:=top 64
abbrev Xq:Stmt:=top 63
abbrev Yi:Stmt:=top 67
abbrev Xr:Stmt:=top 68
abbrev Yj:Stmt:=top 69
abbrev Xs:Stmt:=top 66
abbrev Xt:Stmt:=top 70
abbrev Vp:Stmt:=top 71
abbrev Zs:Stmt:=inClass (top 6) 0
abbrev Qq:Stmt:=top 17
abbrev Zt:Stmt:=inClass (top 4) 0
abbrev Zu:Stmt:=top 14
abbrev Qr:Stmt:=inClass (top 7) 0
abbrev jN:Stmt:=top 16
abbrev Zv:Stmt:=top 58
abbrev Zw:Stmt:=inClass (top 8) 0
abbrev Yk:Stmt:=top 57
abbrev k8:Stmt:=inClass (top 5) 0
abbrev k9:Stmt:=top 15
abbrev Qs:Stmt:=top 59
abbrev Zx:Stmt:=top 60
abbrev Qt:Stmt:=inClass (top 61) 0
abbrev Yl:Stmt:=inClass (top 48) 1
abbrev Ym:Stmt:=inClass (top 61) 1
abbrev Yn:Stmt:=inClass (top 10) 0
abbrev Qu:Stmt:=inClass (top 48) 2
abbrev Zy:Stmt:=inClass (top 61) 2
abbrev Hd:Stmt:=top 50
abbrev fF:Stmt:=top 51
abbrev vV:Stmt:=top 53
abbrev nq:Stmt:=top 52
abbrev Qv:Stmt:=top 20
abbrev Yo:Stmt:=top 29
abbrev Vq:Stmt:=inClass (top 27) 0
abbrev Yp:Stmt:=top 30
abbrev kf:Stmt:=inClass (top 28) 0
abbrev k_:Stmt:=top 31
abbrev Yq:Stmt:=top 32
abbrev Qw:Stmt:=top 21
abbrev kg:Stmt:=top 22
abbrev Xu:Stmt:=top 24
abbrev Qx:Stmt:=top 33
abbrev fG:Stmt:=top 34
abbrev bt:Stmt:=top 23
abbrev nu:Stmt:=top 25
abbrev ny:Stmt:=top 35
abbrev vW:Stmt:=inClass (top 44) 0
abbrev Qy:Stmt:=inClass (top 9) 0
abbrev Zz:Stmt:=inClass (top 45) 0
abbrev Qz:Stmt:=top 46
abbrev vd:Stmt:=top 47
abbrev QA:Stmt:=inClass (top 48) 0
abbrev Yr:Stmt:=top 75
abbrev Ys:Stmt:=top 74
abbrev Vr:Stmt:=top 76
abbrev Xv:Stmt:=top 77
abbrev bu:Stmt:=top 72
abbrev QB:Stmt:=top 73
abbrev He:Stmt:=top 78
def scB(N P:SA)(a:Scope):Bool:=(match a.kind with | .function=>true|_=>false)&&(!a.isCoroutine&&(!a.isGenerator&&(decide N.Nodup&&(decide (N.take P.length=P)&&(P.all (λx=>match a.names.lookup x with|some .local=>true|some .cell=>true|_=>false)&&a.names.all λy=>match y.2 with | .free=>false|_=>true)))))
def jO(h:scB N P sc=true):zl N P sc:=by
 unfold scB at h;simp only[Bool.and_eq_true,decide_eq_true_eq,List.all_eq_true]at h;obtain⟨l,g,f,a,d,j,i⟩:=h;refine⟨?_,by simpa using g,by simpa using f,a,d,λx c=>?_,λy b e=>?_⟩
 .revert l;cases sc.kind<;>simp
 .have:=j x c;split at this<;>simp_all
 .have:=i y b;rw[e]at this;cases this
def dJ:zl ["_law_cell_here","_law_turn","_law_number"] ["_law_cell_here","_law_turn"] (zi bq):=jO (by decide +kernel)
def nA:zl ["_law_script","_law_k"] ["_law_script","_law_k"] (zi Xq):=jO (by decide +kernel)
def Kn:zl ["_law_cell_here","_law_some"] ["_law_cell_here"] (zi Yi):=jO (by decide +kernel)
def jv:zl ["_law_script","_law_cells","_law_places","_law_some","_law_ways_here","_law_k","_law_minutes_here","_law_cell_here","_law_origin"] ["_law_script","_law_cells","_law_places"] (zi Xr):=jO (by decide +kernel)
def zQ:zl ["_law_places","_law_ways_here","_law_lengths_here","_law_origin","_law_found","_law_falls","_law_here","_law_there","_law_minutes_here","_law_far"] ["_law_places","_law_ways_here"] (zi Yj):=jO (by decide +kernel)
def y9:zl ["_law_cell_here","_law_k","_law_signs","_law_base","_law_turn","_law_size","_law_at","_law_number","_law_two"] ["_law_cell_here","_law_k"] (zi Xs):=jO (by decide +kernel)
def y_:zl ["_law_name","_law_cell_here","_law_places","_law_lengths_here","_law_ahead","_law_some","_law_origin","_law_goal","_law_start","_law_near","_law_minutes_here"] ["_law_name","_law_cell_here","_law_places","_law_lengths_here","_law_ahead"] (zi Xt):=jO (by decide +kernel)
def wO:zl ["_law_script","_law_cells","_law_places","_law_lengths_here","_law_trips_here","_law_k","_law_name"] ["_law_script","_law_cells","_law_places","_law_lengths_here"] (zi Vp):=jO (by decide +kernel)
def bw:zl ["self","most"] ["self","most"] (zi Zs):=jO (by decide +kernel)
def fH:zl ["things","most"] ["things","most"] (zi Qq):=jO (by decide +kernel)
def bx:zl ["self","name"] ["self","name"] (zi Zt):=jO (by decide +kernel)
def QC:zl ["name","sign"] ["name"] (zi Zu):=jO (by decide +kernel)
def fI:zl ["self","name"] ["self","name"] (zi Qr):=jO (by decide +kernel)
def Vs:zl ["name","had"] ["name","had"] (zi jN):=jO (by decide +kernel)
def vX:zl ["places","had","name"] ["places"] (zi Zv):=jO (by decide +kernel)
def bz:zl ["self","name"] ["self","name"] (zi Zw):=jO (by decide +kernel)
def cM:zl ["name","places"] ["name","places"] (zi Yk):=jO (by decide +kernel)
def Xw:zl ["self","value"] ["self","value"] (zi k8):=jO (by decide +kernel)
def Xx:zl ["value","least"] ["value","least"] (zi k9):=jO (by decide +kernel)
def vq:zl ["places","ways","origin","goal","minutes"] ["places","ways"] (zi Qs):=jO (by decide +kernel)
def zX:zl ["origin","ways","heights","changed","start","goal","minutes","height"] ["origin","ways"] (zi Zx):=jO (by decide +kernel)
def fJ:zl ["self","places","ways"] ["self","places","ways"] (zi Qt):=jO (by decide +kernel)
def cN:zl ["self"] ["self"] (zi Yl):=jO (by decide +kernel)
def cO:zl ["self"] ["self"] (zi Ym):=jO (by decide +kernel)
def cP:zl ["self","name"] ["self","name"] (zi Yn):=jO (by decide +kernel)
def fK:zl ["self","name"] ["self","name"] (zi Qu):=jO (by decide +kernel)
def bA:zl ["self","origin","goal"] ["self","origin","goal"] (zi Zy):=jO (by decide +kernel)
def pN:zl ["table","one","other","ahead","behind","length"] ["table","one","other"] (zi Hd):=jO (by decide +kernel)
def iD:zl ["table","one","other","minutes"] ["table","one","other"] (zi fF):=jO (by decide +kernel)
def US:zl ["table","one","names"] ["table","one","names"] (zi vV):=jO (by decide +kernel)
def pO:zl ["table","names"] ["table"] (zi nq):=jO (by decide +kernel)
def We:zl ["rows","left"] ["rows"] (zi Qv):=jO (by decide +kernel)
def ZA:zl ["order","name","other"] ["order"] (zi Yo):=jO (by decide +kernel)
def iE:zl ["self","name"] ["self","name"] (zi Vq):=jO (by decide +kernel)
def Ko:zl ["order","name"] ["order"] (zi Yp):=jO (by decide +kernel)
def Wf:zl ["self","first","second","third"] ["self","first","second","third"] (zi kf):=jO (by decide +kernel)
def qL:zl ["order","first","behind","second","third"] ["order","first"] (zi k_):=jO (by decide +kernel)
def Kp:zl ["order","first"] ["order"] (zi Yq):=jO (by decide +kernel)
def Wg:zl ["rows","left","owners","tried","right"] ["rows","left","owners","tried"] (zi Qw):=jO (by decide +kernel)
def jP:zl ["rows","owners","left"] ["rows"] (zi kg):=jO (by decide +kernel)
def bB:zl ["rows","owners"] ["rows"] (zi Xu):=jO (by decide +kernel)
def Wh:zl ["name","given","chain"] ["name","given"] (zi Qx):=jO (by decide +kernel)
def bC:zl ["order","given","followers"] ["order"] (zi fG):=jO (by decide +kernel)
def qM:zl ["rows","owners","served","lefts","rights","walked","left","right"] ["rows"] (zi bt):=jO (by decide +kernel)
def pP:zl ["rows","found"] ["rows"] (zi nu):=jO (by decide +kernel)
def pQ:zl ["order","covered"] ["order"] (zi ny):=jO (by decide +kernel)
def UT:zl ["self","name"] ["self","name"] (zi vW):=jO (by decide +kernel)
def fL:zl ["self","origin","goal"] ["self","origin","goal"] (zi Qy):=jO (by decide +kernel)
def bD:zl ["self","name"] ["self","name"] (zi Zz):=jO (by decide +kernel)
def Wi:zl ["roads","trip","had","length"] ["roads","trip","had"] (zi Qz):=jO (by decide +kernel)
def Xy:zl ["trip"] ["trip"] (zi vd):=jO (by decide +kernel)
def Wj:zl ["self","roads","trips","trip"] ["self","roads","trips"] (zi QA):=jO (by decide +kernel)
def kD:zl ["_law_found","_law_behind_here","_law_seen","_law_chain","_law_k"] ["_law_found","_law_behind_here"] (zi Yr):=jO (by decide +kernel)
def kE:zl ["_law_behind_here","_law_name","_law_seen","_law_waiting","_law_here"] ["_law_behind_here","_law_name"] (zi Ys):=jO (by decide +kernel)
def wQ:zl ["_law_found","_law_behind_here","_law_k","_law_seen","_law_name"] ["_law_found","_law_behind_here"] (zi Vr):=jO (by decide +kernel)
def Yt:zl ["_law_roads","_law_trips_here","_law_behind_here","_law_order","_law_found","_law_names"] ["_law_roads","_law_trips_here","_law_behind_here"] (zi Xv):=jO (by decide +kernel)
def sV:zl ["_law_one","_law_other","_law_near"] ["_law_one","_law_other","_law_near"] (zi bu):=jO (by decide +kernel)
def Yu:zl ["_law_trips_here","_law_lengths_here","_law_behind_here","_law_one"] ["_law_trips_here","_law_lengths_here"] (zi QB):=jO (by decide +kernel)
def YL:zl ["_law_script","_law_many","_law_places","_law_cells","_law_ways_here","_law_lengths_here","_law_trips_here","_law_roads","_law_handed","_law_fewer","_law_less"] ["_law_script"] (zi He):=jO (by decide +kernel)
abbrev NsN(K:Tr)(x:Str):Prop:=W.nsIn K mainGlobals x=some none
abbrev NsR(K:Tr)(x:Str)(c:Addr):Prop:=W.nsIn K mainGlobals x=some (some (.ref c))
def ev(i:Nat)(c:X.N[i]?=some x:=by rfl)(d:Vis X.env.scope x:=by first|exact Or.inl rfl|exact Or.inr (Or.inl rfl)|exact Or.inr (Or.inr rfl))(b:(x==("__debug__":Str))=false:=by decide)(a:(x==("__classdict__":Str))=false:=by decide):EM X C S true (.Name x pos) (zb i):=Ls (pv i c d b a)
def ei{j}:EM X C S false (.Constant (.int i) j pos) (mC (.i i)):=yt IE
def rm(a:vF k A)(h:j<=k:=by decide):vF j A:=a.mono h
def M3(e:W.findIn K (.ref C) "__init__"=some (some (.ref f)))(d:K.lookup C=some (excClassObj nm q C N bs bm true sn sub ab col dd k0 k1 k2 k3 k5 "ValueError.__new__"))(c:gY K bm=true)(a:W.typeIn K (.ref f)=some (.type "function"))(b:W.keepIn K (.ref C)=true):XMk K C f:=⟨⟨_,_,_,_,_,_,_,_,_,_,_,_,_,_,_,d,c⟩,e,a,b⟩
abbrev fnT(st:TB)(sh q:Str)(kV dc pm:Value)(an:Tx)(cd ct:Value):FuncData:=W.fnOf sh q (aN st) (Ya st) (zi st) .none kV dc pm an cd ct
abbrev DfN(K:Tr)(x:Str)(st:TB)(f:Addr)(fd:Td):Prop:=W.nsIn K mainGlobals x=some (some (.ref f))/\Fun K x x st f fd
structure Def(K:Tr)(mg:Sx)(x:Str)(st:TB)(ps:SA)(f:Addr)(fd:Td):Prop where
 g:mg x=some (.ref f)
 F:Fun K x x st f fd
 b:Binds K fd ps []
def Def.k(D:Def K mg x st ps f fd):W.keepIn K (.ref f)=true:=D.F.kp
abbrev BN(x q:Str)(st:TB)(ps:SA):Prop:=∀(kV dc pm:Value)(an:Tx)(cd ct:Value)(us:SO),us.length=ps.length->bindArgs (fnT st x q kV dc pm an cd ct) ⟨us,[]⟩=pure (ps.zip us)
def zT(X:K.In h)(G:h.Ns mainGlobals mg)(D:DfN K x st f fd)(b:BN x x st ps):Def K mg x st ps f fd:=⟨a0K X G D.1,D.2,D.2.binds b⟩
def fz{P:TU}:∀c∈([]:List Nat),P c:=λ_ h=>nomatch h
def fa{P:TU}{a:Nat}{l:Sy}(h:P a)(t:∀c∈l,P c):∀c∈a::l,P c:=λc b=>(T1.mp b).elim (λe=>e▸h) (t c)
def al{X:Cx}{W:RC}{fr:Bool}{ws:SI}{b:Str}{c:Nat}{f:SU}(h:Io X.prog X.w X.K X.mg X.base X.A b (W.cls c) (lsp W fr (true::ws) f)):∀K a,NZ W fr ws [(c,f)] K a->Io X.prog X.w X.K X.mg X.base X.A b K a:=λK a ⟨q,e,g,d⟩=>by cases T2.mp e;subst g d;exact h
def ec{X:Cx}{C:LC}{S:Sy}{k j:Nat}{f:Addr}{c:Td}{d:SA}{fr:Bool}{ws:SI}{g:SU}{x:Str}{st:TB}{e:SN}{es:SG}{ms:MA}{p a:Pos}(F:yz X.prog X.w X.K X.mg X.base (CXe X.prog X.w) k f c d (lsp C.W fr ws g))(n:vF j X.A)(D:Def X.K X.mg x st d f c)(l:Passes (CXe X.prog X.w) X C.E)(m:AM X C S ws (e::es) ms)(h:k<=j:=by decide)(i:Gl X x:=by rfl)
  (b:(x==("__debug__":Str))=false:=by decide) (he:starEach (e::es) X.env=(false,eval e X.env)::starEach es X.env:=by rfl) (hpl:(backTo a (starEach es X.env)).any (·.1)=false:=by rfl):EM X C S false (.Call (.Name x p) (e::es) [] a) (zj g ms):=mX F (n.mono h) i D.g D.k D.b l m b he hpl
def gn(i:Nat)(b:X.N.Nodup)(hi:X.N[i]?=some x:=by rfl)(a:Loc X.env.scope x:=by exact .inl rfl)(hf:X.fn x=true\/X.env.scope.names.lookup x=some .local:=by first|exact .inl rfl|exact .inr rfl|assumption):GM X C S (S.set i 0) (.Name x pos) (gNm i):=q_ b hi a hf
def se(i:Nat)(c:X.N.Nodup)(h:EM X C S false e m)(hi:X.N[i]?=some x:=by rfl)(a:Loc X.env.scope x:=by exact .inl rfl)(b:swapsWith e (some (.Name x pos')) pos.line X.env=pure false:=by rfl)(hf:X.fn x=true\/X.env.scope.names.lookup x=some .local:=by first|exact .inl rfl|exact .inr rfl|assumption):SM X C S (S.set i 0) Sb Sc (.Assign [.Name x pos'] e pos) (yo i m):=EE c hi a h b hf
def ix(f:vF k X.A)(c:EM X C S w1 a m1)(d:EM X C S w2 b m2)(e:eP b:=by intro _ _;rfl):EM X C S false (.Subscript a b pos) (mOp pIx m1 m2):=OZ (yC f) c d e
def hse(i:Nat)(c:X.N.Nodup)(h:HE X W E e m)(hi:X.N[i]?=some x:=by rfl)(a:Loc X.env.scope x:=by exact .inl rfl)(b:swapsWith e (some (.Name x pos')) pos.line X.env=pure false:=by rfl)(hf:X.fn x=true\/X.env.scope.names.lookup x=some .local:=by first|exact .inl rfl|exact .inr rfl|assumption):HS X W E (.Assign [.Name x pos'] e pos) (Xn i m):=X7 c hi a h b hf
def hp(h:EM X ⟨W,E,false⟩ (List.replicate 30 0) false e m):HE X W E e (hP bs m):=Sh bs h (a1v.mpr λ_ h=>by rw[a2Z h];rfl)
def hf(h:FM X ⟨W,E,false⟩ (List.replicate 30 0) e m):HE X W E e (hF bs m):=Sj bs h (a1v.mpr λ_ h=>by rw[a2Z h];rfl)
def bn1(h:∀kV b d a cd ct c,bindArgs (fnT st x q kV b d a cd ct) ⟨[c],[]⟩=pure (ps.zip [c]):=by intros;rfl)(hp:ps.length=1:=by rfl):BN x q st ps:=λkV b d a cd ct e f=>Pg (P:=λe=>bindArgs (fnT st x q kV b d a cd ct) ⟨e,[]⟩=pure (ps.zip e)) (f.trans hp) λc=>h kV b d a cd ct c
def bn2(h:∀kV b e c cd ct d a,bindArgs (fnT st x q kV b e c cd ct) ⟨[d,a],[]⟩=pure (ps.zip [d,a]):=by intros;rfl)(hp:ps.length=2:=by rfl):BN x q st ps:=λkV b e c cd ct f g=>Ph (P:=λf=>bindArgs (fnT st x q kV b e c cd ct) ⟨f,[]⟩=pure (ps.zip f)) (g.trans hp) λd a=>h kV b e c cd ct d a
def bn3(h:∀kV d f c cd ct e a b,bindArgs (fnT st x q kV d f c cd ct) ⟨[e,a,b],[]⟩=pure (ps.zip [e,a,b]):=by intros;rfl)(hp:ps.length=3:=by rfl):BN x q st ps:=λkV d f c cd ct g i=>Pj (P:=λg=>bindArgs (fnT st x q kV d f c cd ct) ⟨g,[]⟩=pure (ps.zip g)) (i.trans hp) λe a b=>h kV d f c cd ct e a b
def bn4(h:∀kV e g d cd ct f c b a,bindArgs (fnT st x q kV e g d cd ct) ⟨[f,c,b,a],[]⟩=pure (ps.zip [f,c,b,a]):=by intros;rfl)(hp:ps.length=4:=by rfl):BN x q st ps:=λkV e g d cd ct i j=>Pk (P:=λi=>bindArgs (fnT st x q kV e g d cd ct) ⟨i,[]⟩=pure (ps.zip i)) (j.trans hp) λf c b a=>h kV e g d cd ct f c b a
def bn5(h:∀kV f i e cd ct g c b a d,bindArgs (fnT st x q kV f i e cd ct) ⟨[g,c,b,a,d],[]⟩=pure (ps.zip [g,c,b,a,d]):=by intros;rfl)(hp:ps.length=5:=by rfl):BN x q st ps:=λkV f i e cd ct j l=>Pl (P:=λj=>bindArgs (fnT st x q kV f i e cd ct) ⟨j,[]⟩=pure (ps.zip j)) (l.trans hp) λg c b a d=>h kV f i e cd ct g c b a d
structure Adr where
 (wo jx wq VD wt YA YB b_ ye kl wu YC YD zC yr qb vL qP jG vJ kj ZH zA ZI qo Q_ zL qp ZJ ym ve zE jH yp qC yb yG YE z0 zS sX JX yU XJ zW qS VE qT km yD yc Uo Z3 d6 qz rL lJ Bv Bw wx Ja ZK qB zt Jb qQ qR ki jJ ZY yX Am:Addr)
 (lK d7 WZ d8 W0 d9 d_ cb ZL Uq ZM KI Jc Zk KJ ZN W2 vf YV Ur KN Jd YF YG YH Je ZO NP rM Jf Bx Us W3 VF W4 kn YW W5 Ut Z4 ee Uu rN lL By Bz wy Jg ZP Uv YX Jh W6 W7 cf eh lM Uw NQ:Td)
 (Ic lO de lQ lR NR D4 NS Ie D5 Ig gx oi:Tok)
abbrev Rt(K:Tr)(mg:Sx)(a:Adr):Prop:=
 (mg "LIMIT"=some (.int 1000000000 a.Ic))/\
 (mg "NAME_SIGNS"=some (.str "abcdefghijklmnopqrstuvwxyz0123456789" a.lO))/\
 (mg "LONGEST_NAME"=some (.int 12 a.de))/\
 (mg "MOST_LEFTS"=some (.int 40 a.lQ))/\
 (mg "MOST_TRIPS"=some (.int 40 a.lR))/\
 (mg "NAME"=some (.int 0 a.NR))/\
 (mg "ORIGIN"=some (.int 1 a.D4))/\
 (mg "GOAL"=some (.int 2 a.NS))
abbrev Ru(K:Tr)(mg:Sx)(a:Adr):Prop:=
 (mg "START"=some (.int 3 a.Ie))/\
 (mg "FINISH"=some (.int 4 a.D5))/\
 (mg "SEATS"=some (.int 5 a.Ig))/\
 (mg "MOST_PLACES"=some (.int 12 a.gx))/\
 (mg "MOST_WAYS"=some (.int 60 a.oi))/\
 (mg "BadName"=some (.ref a.wo))/\
 (mg "BadNumber"=some (.ref a.jx))/\
 (mg "TooMany"=some (.ref a.wq))
abbrev Txt2(K:Tr)(mg:Sx)(a:Adr):Prop:=
 (mg "Twice"=some (.ref a.VD))/\
 (mg "NoPlace"=some (.ref a.wt))/\
 (mg "NoWay"=some (.ref a.YA))/\
 (mg "NoTrip"=some (.ref a.YB))/\
 (mg "Ring"=some (.ref a.b_))/\
 (mg "NotOrdered"=some (.ref a.ye))/\
 (mg "Backward"=some (.ref a.kl))/\
 (mg "TooFast"=some (.ref a.wu))
abbrev Rv(K:Tr)(mg:Sx)(a:Adr):Prop:=
 (mg "Table"=some (.ref a.YC))/\
 (mg "Roads"=some (.ref a.YD))/\
 (mg "dict"=none)/\
 (mg "isinstance"=none)/\
 (mg "len"=none)/\
 (mg "list"=none)/\
 (mg "max"=none)/\
 (mg "min"=none)
abbrev Rx(K:Tr)(mg:Sx)(a:Adr):Prop:=
 (mg "range"=none)/\
 (mg "reversed"=none)/\
 (mg "sorted"=none)/\
 (mg "str"=none)/\
 (Def K mg "_law_mix" bq ["_law_cell_here","_law_turn"] a.zC a.lK)/\
 (Def K mg "_law_cell" Xq ["_law_script","_law_k"] a.yr a.d7)/\
 (Def K mg "_law_minutes" Yi ["_law_cell_here"] a.qb a.WZ)/\
 (Def K mg "_law_ways" Xr ["_law_script","_law_cells","_law_places"] a.vL a.d8)
abbrev Rz(K:Tr)(mg:Sx)(a:Adr):Prop:=
 (Def K mg "_law_lengths" Yj ["_law_places","_law_ways_here"] a.qP a.W0)/\
 (Def K mg "_law_word" Xs ["_law_cell_here","_law_k"] a.jG a.d9)/\
 (Def K mg "_law_trip" Xt ["_law_name","_law_cell_here","_law_places","_law_lengths_here","_law_ahead"] a.vJ a.d_)/\
 (Def K mg "_law_trips" Vp ["_law_script","_law_cells","_law_places","_law_lengths_here"] a.kj a.cb)/\
 (Fun K "__init__" "TooMany.__init__" Zs a.ZH a.ZL)/\
 (Binds K a.ZL ["self","most"] [])/\
 (Def K mg "check_most" Qq ["things","most"] a.zA a.Uq)/\
 (Fun K "__init__" "BadName.__init__" Zt a.ZI a.ZM)
abbrev RA(K:Tr)(mg:Sx)(a:Adr):Prop:=
 (Binds K a.ZM ["self","name"] [])/\
 (Def K mg "checked_name" Zu ["name"] a.qo a.KI)/\
 (Fun K "__init__" "Twice.__init__" Qr a.Q_ a.Jc)/\
 (Binds K a.Jc ["self","name"] [])/\
 (Def K mg "checked_new_name" jN ["name","had"] a.zL a.Zk)/\
 (Def K mg "check_places" Zv ["places"] a.qp a.KJ)/\
 (Fun K "__init__" "NoPlace.__init__" Zw a.ZJ a.ZN)/\
 (Binds K a.ZN ["self","name"] [])
abbrev RB(K:Tr)(mg:Sx)(a:Adr):Prop:=
 (Def K mg "check_place" Yk ["name","places"] a.ym a.W2)/\
 (Fun K "__init__" "BadNumber.__init__" k8 a.ve a.vf)/\
 (Binds K a.vf ["self","value"] [])/\
 (Def K mg "checked_number" k9 ["value","least"] a.zE a.YV)/\
 (Def K mg "check_ways" Qs ["places","ways"] a.jH a.Ur)/\
 (Def K mg "heights_from" Zx ["origin","ways"] a.yp a.KN)/\
 (Fun K "__init__" "Roads.__init__" Qt a.qC a.Jd)/\
 (Binds K a.Jd ["self","places","ways"] [])
abbrev RD(K:Tr)(mg:Sx)(a:Adr):Prop:=
 (Fun K "names" "Table.names" Yl a.yb a.YF)/\
 (Binds K a.YF ["self"] [])/\
 (Fun K "names" "Roads.names" Ym a.yG a.YG)/\
 (Binds K a.YG ["self"] [])/\
 (Fun K "__init__" "NoTrip.__init__" Yn a.YE a.YH)/\
 (Binds K a.YH ["self","name"] [])/\
 (Fun K "trip" "Table.trip" Qu a.z0 a.Je)/\
 (Binds K a.Je ["self","name"] [])
abbrev RE(K:Tr)(mg:Sx)(a:Adr):Prop:=
 (Fun K "length" "Roads.length" Zy a.zS a.ZO)/\
 (Binds K a.ZO ["self","origin","goal"] [])/\
 (Def K mg "gap" Hd ["table","one","other"] a.sX a.NP)/\
 (Def K mg "linked" fF ["table","one","other"] a.JX a.rM)/\
 (Def K mg "linked_behind" vV ["table","one","names"] a.yU a.Jf)/\
 (Def K mg "links" nq ["table"] a.XJ a.Bx)/\
 (Def K mg "check_rows" Qv ["rows"] a.zW a.Us)/\
 (Def K mg "check_known" Yo ["order"] a.qS a.W3)
abbrev M4(K:Tr)(mg:Sx)(a:Adr):Prop:=
 (Fun K "__init__" "Ring.__init__" Vq a.VE a.VF)/\
 (Binds K a.VF ["self","name"] [])/\
 (Def K mg "check_rings" Yp ["order"] a.qT a.W4)/\
 (Fun K "__init__" "NotOrdered.__init__" kf a.km a.kn)/\
 (Binds K a.kn ["self","first","second","third"] [])/\
 (Def K mg "check_going_on" k_ ["order","first"] a.yD a.YW)/\
 (Def K mg "check_order" Yq ["order"] a.yc a.W5)/\
 (Def K mg "find_right" Qw ["rows","left","owners","tried"] a.Uo a.Ut)
abbrev M5(K:Tr)(mg:Sx)(a:Adr):Prop:=
 (Def K mg "greatest_owners" kg ["rows"] a.Z3 a.Z4)/\
 (Def K mg "matching" Xu ["rows"] a.d6 a.ee)/\
 (Def K mg "chain_from" Qx ["name","given"] a.qz a.Uu)/\
 (Def K mg "chains" fG ["order"] a.rL a.rN)/\
 (Def K mg "reached" bt ["rows"] a.lJ a.lL)/\
 (Def K mg "cover" nu ["rows"] a.Bv a.By)/\
 (Def K mg "apart" ny ["order"] a.Bw a.Bz)/\
 (Fun K "__init__" "Backward.__init__" vW a.wx a.wy)
abbrev M6(K:Tr)(mg:Sx)(a:Adr):Prop:=
 (Binds K a.wy ["self","name"] [])/\
 (Fun K "__init__" "NoWay.__init__" Qy a.Ja a.Jg)/\
 (Binds K a.Jg ["self","origin","goal"] [])/\
 (Fun K "__init__" "TooFast.__init__" Zz a.ZK a.ZP)/\
 (Binds K a.ZP ["self","name"] [])/\
 (Def K mg "check_trip" Qz ["roads","trip","had"] a.qB a.Uv)/\
 (Def K mg "place_in_order" vd ["trip"] a.zt a.YX)/\
 (Fun K "__init__" "Table.__init__" QA a.Jb a.Jh)
abbrev M7(K:Tr)(mg:Sx)(a:Adr):Prop:=
 (Binds K a.Jh ["self","roads","trips"] [])/\
 (Def K mg "_law_chained" Yr ["_law_found","_law_behind_here"] a.qQ a.W6)/\
 (Def K mg "_law_reached" Ys ["_law_behind_here","_law_name"] a.qR a.W7)/\
 (Def K mg "_law_apart" Vr ["_law_found","_law_behind_here"] a.ki a.cf)/\
 (Def K mg "_law_both" Xv ["_law_roads","_law_trips_here","_law_behind_here"] a.jJ a.eh)/\
 (Def K mg "_law_can" bu ["_law_one","_law_other","_law_near"] a.ZY a.lM)/\
 (Def K mg "_law_behind" QB ["_law_trips_here","_law_lengths_here"] a.yX a.Uw)/\
 (Def K mg "law" He ["_law_script"] a.Am a.NQ)
abbrev M8(K:Tr)(mg:Sx)(a:Adr):Prop:=
 (Qg K a.wo)/\
 (XMk K a.wo a.ZI)/\
 (W.takerIn K a.wo "name"=some none)/\
 (Qg K a.jx)/\
 (XMk K a.jx a.ve)/\
 (W.takerIn K a.jx "value"=some none)/\
 (Qg K a.wq)/\
 (XMk K a.wq a.ZH)
abbrev M9(K:Tr)(mg:Sx)(a:Adr):Prop:=
 (W.takerIn K a.wq "most"=some none)/\
 (Qg K a.VD)/\
 (XMk K a.VD a.Q_)/\
 (W.takerIn K a.VD "name"=some none)/\
 (Qg K a.wt)/\
 (XMk K a.wt a.ZJ)/\
 (W.takerIn K a.wt "name"=some none)/\
 (Qg K a.YA)
abbrev M_(K:Tr)(mg:Sx)(a:Adr):Prop:=
 (XMk K a.YA a.Ja)/\
 (W.takerIn K a.YA "origin"=some none)/\
 (W.takerIn K a.YA "goal"=some none)/\
 (Qg K a.YB)/\
 (XMk K a.YB a.YE)/\
 (W.takerIn K a.YB "name"=some none)/\
 (Qg K a.b_)/\
 (XMk K a.b_ a.VE)
abbrev Na(K:Tr)(mg:Sx)(a:Adr):Prop:=
 (W.takerIn K a.b_ "name"=some none)/\
 (Qg K a.ye)/\
 (XMk K a.ye a.km)/\
 (W.takerIn K a.ye "first"=some none)/\
 (W.takerIn K a.ye "second"=some none)/\
 (W.takerIn K a.ye "third"=some none)/\
 (Qg K a.kl)/\
 (XMk K a.kl a.wx)
abbrev Nb(K:Tr)(mg:Sx)(a:Adr):Prop:=
 (W.takerIn K a.kl "name"=some none)/\
 (Qg K a.wu)/\
 (XMk K a.wu a.ZK)/\
 (W.takerIn K a.wu "name"=some none)/\
 (Cls K a.YC)/\
 (vk K a.YC "by_name")/\
 (vk K a.YC "order")/\
 (vk K a.YC "roads")
abbrev Nc(K:Tr)(mg:Sx)(a:Adr):Prop:=
 (Meth K a.YC "names" a.yb)/\
 (Meth K a.YC "trip" a.z0)/\
 (Mk K a.YC a.Jb)/\
 (Cls K a.YD)/\
 (vk K a.YD "lengths")/\
 (vk K a.YD "places")/\
 (vk K a.YD "ways")/\
 (Meth K a.YD "length" a.zS)
abbrev Nd(K:Tr)(mg:Sx)(a:Adr):Prop:=
 (Meth K a.YD "names" a.yG)/\
 (Mk K a.YD a.qC)/\
 (W.kitOne K (.type "list") (.type "list")=some true)/\
 (W.kitOne K (.type "str") (.type "str")=some true)
abbrev Txt(K:Tr)(mg:Sx)(a:Adr):Prop:=Rt K mg a/\Ru K mg a/\Txt2 K mg a/\Rv K mg a/\Rx K mg a/\Rz K mg a/\RA K mg a/\RB K mg a/\RD K mg a/\RE K mg a/\M4 K mg a/\M5 K mg a/\M6 K mg a/\M7 K mg a/\M8 K mg a/\M9 K mg a/\M_ K mg a/\Na K mg a/\Nb K mg a/\Nc K mg a/\Nd K mg a
section
variable {K:Tr}{mg:Sx}{a:Adr}(T:Txt K mg a)
include T
def Txt.cc0:Rt K mg a:=T.1
def Txt.nB:=T.cc0.1
def Txt.QD:=T.cc0.2.1
def Txt.ZC:=T.cc0.2.2.1
def Txt.wR:=T.cc0.2.2.2.1
def Txt.QE:=T.cc0.2.2.2.2.1
def Txt.X_:=T.cc0.2.2.2.2.2.1
def Txt.Wk:=T.cc0.2.2.2.2.2.2.1
def Txt.iF:=T.cc0.2.2.2.2.2.2.2
def Txt.cc1:Ru K mg a:=T.2.1
def Txt.Vt:=T.cc1.1
def Txt.Yv:=T.cc1.2.1
def Txt.nC:=T.cc1.2.2.1
def Txt.Yw:=T.cc1.2.2.2.1
def Txt.Vu:=T.cc1.2.2.2.2.1
def Txt.Wl:=T.cc1.2.2.2.2.2.1
def Txt.Vv:=T.cc1.2.2.2.2.2.2.1
def Txt.bE:=T.cc1.2.2.2.2.2.2.2
def Txt.cc2:Txt2 K mg a:=T.2.2.1
def Txt.nD:=T.cc2.1
def Txt.bF:=T.cc2.2.1
def Txt.nE:=T.cc2.2.2.1
def Txt.aw:=T.cc2.2.2.2.1
def Txt.Af:=T.cc2.2.2.2.2.1
def Txt.QF:=T.cc2.2.2.2.2.2.1
def Txt.Xz:=T.cc2.2.2.2.2.2.2.1
def Txt.bG:=T.cc2.2.2.2.2.2.2.2
def Txt.cc3:Rv K mg a:=T.2.2.2.1
def Txt.nF:=T.cc3.1
def Txt.nG:=T.cc3.2.1
def Txt.Ua:=T.cc3.2.2.1
def Txt.qy:=T.cc3.2.2.2.1
def Txt.wL:=T.cc3.2.2.2.2.1
def Txt.vn:=T.cc3.2.2.2.2.2.1
def Txt.Hf:=T.cc3.2.2.2.2.2.2.1
def Txt.Hg:=T.cc3.2.2.2.2.2.2.2
def Txt.cc4:Rx K mg a:=T.2.2.2.2.1
def Txt.QG:=T.cc4.1
def Txt.XA:=T.cc4.2.1
def Txt.fO:=T.cc4.2.2.1
def Txt.De:=T.cc4.2.2.2.1
def Txt.yd:=T.cc4.2.2.2.2.1
def Txt.jE:=T.cc4.2.2.2.2.2.1
def Txt.jQ:=T.cc4.2.2.2.2.2.2.1
def Txt.vG:=T.cc4.2.2.2.2.2.2.2
def Txt.cc5:Rz K mg a:=T.2.2.2.2.2.1
def Txt.qN:=T.cc5.1
def Txt.ZW:=T.cc5.2.1
def Txt.JT:=T.cc5.2.2.1
def Txt.kh:=T.cc5.2.2.2.1
def Txt.cQ:=T.cc5.2.2.2.2.1
def Txt.cR:=T.cc5.2.2.2.2.2.1
def Txt.yW:=T.cc5.2.2.2.2.2.2.1
def Txt.cS:=T.cc5.2.2.2.2.2.2.2
def Txt.cc6:RA K mg a:=T.2.2.2.2.2.2.1
def Txt.Kq:=T.cc6.1
def Txt.kF:=T.cc6.2.1
def Txt.iG:=T.cc6.2.2.1
def Txt.iH:=T.cc6.2.2.2.1
def Txt.yE:=T.cc6.2.2.2.2.1
def Txt.kG:=T.cc6.2.2.2.2.2.1
def Txt.cT:=T.cc6.2.2.2.2.2.2.1
def Txt.cU:=T.cc6.2.2.2.2.2.2.2
def Txt.cc7:RB K mg a:=T.2.2.2.2.2.2.2.1
def Txt.qa:=T.cc7.1
def Txt.UU:=T.cc7.2.1
def Txt.UW:=T.cc7.2.2.1
def Txt.yg:=T.cc7.2.2.2.1
def Txt.wU:=T.cc7.2.2.2.2.1
def Txt.ql:=T.cc7.2.2.2.2.2.1
def Txt.iI:=T.cc7.2.2.2.2.2.2.1
def Txt.iJ:=T.cc7.2.2.2.2.2.2.2
def Txt.cc8:RD K mg a:=T.2.2.2.2.2.2.2.2.1
def Txt.fP:=T.cc8.1
def Txt.fQ:=T.cc8.2.1
def Txt.fR:=T.cc8.2.2.1
def Txt.fS:=T.cc8.2.2.2.1
def Txt.fT:=T.cc8.2.2.2.2.1
def Txt.Wm:=T.cc8.2.2.2.2.2.1
def Txt.iK:=T.cc8.2.2.2.2.2.2.1
def Txt.Ub:=T.cc8.2.2.2.2.2.2.2
def Txt.cc9:RE K mg a:=T.2.2.2.2.2.2.2.2.2.1
def Txt.cV:=T.cc9.1
def Txt.Kr:=T.cc9.2.1
def Txt.Dg:=T.cc9.2.2.1
def Txt.ax:=T.cc9.2.2.2.1
def Txt.yR:=T.cc9.2.2.2.2.1
def Txt.XB:=T.cc9.2.2.2.2.2.1
def Txt.kR:=T.cc9.2.2.2.2.2.2.1
def Txt.vt:=T.cc9.2.2.2.2.2.2.2
def Txt.E7:M4 K mg a:=T.2.2.2.2.2.2.2.2.2.2.1
def Txt.nH:=T.E7.1
def Txt.nI:=T.E7.2.1
def Txt.vv:=T.E7.2.2.1
def Txt.XE:=T.E7.2.2.2.1
def Txt.XF:=T.E7.2.2.2.2.1
def Txt.jj:=T.E7.2.2.2.2.2.1
def Txt.jR:=T.E7.2.2.2.2.2.2.1
def Txt.yF:=T.E7.2.2.2.2.2.2.2
def Txt.E8:M5 K mg a:=T.2.2.2.2.2.2.2.2.2.2.2.1
def Txt.zI:=T.E8.1
def Txt.vH:=T.E8.2.1
def Txt.jF:=T.E8.2.2.1
def Txt.JU:=T.E8.2.2.2.1
def Txt.ZX:=T.E8.2.2.2.2.1
def Txt.XG:=T.E8.2.2.2.2.2.1
def Txt.XH:=T.E8.2.2.2.2.2.2.1
def Txt.bH:=T.E8.2.2.2.2.2.2.2
def Txt.E9:M6 K mg a:=T.2.2.2.2.2.2.2.2.2.2.2.2.1
def Txt.bI:=T.E9.1
def Txt.iL:=T.E9.2.1
def Txt.iM:=T.E9.2.2.1
def Txt.cW:=T.E9.2.2.2.1
def Txt.cX:=T.E9.2.2.2.2.1
def Txt.wV:=T.E9.2.2.2.2.2.1
def Txt.qi:=T.E9.2.2.2.2.2.2.1
def Txt.iN:=T.E9.2.2.2.2.2.2.2
def Txt.E_:M7 K mg a:=T.2.2.2.2.2.2.2.2.2.2.2.2.2.1
def Txt.iO:=T.E_.1
def Txt.vw:=T.E_.2.1
def Txt.qO:=T.E_.2.2.1
def Txt.Yx:=T.E_.2.2.2.1
def Txt.vI:=T.E_.2.2.2.2.1
def Txt.Wn:=T.E_.2.2.2.2.2.1
def Txt.zZ:=T.E_.2.2.2.2.2.2.1
def Txt.Ag:=T.E_.2.2.2.2.2.2.2
def Txt.Fb:M8 K mg a:=T.2.2.2.2.2.2.2.2.2.2.2.2.2.2.1
def Txt.bJ:=T.Fb.1
def Txt.iP:=T.Fb.2.1
def Txt.bK:=T.Fb.2.2.1
def Txt.bL:=T.Fb.2.2.2.1
def Txt.nJ:=T.Fb.2.2.2.2.1
def Txt.Wo:=T.Fb.2.2.2.2.2.1
def Txt.iQ:=T.Fb.2.2.2.2.2.2.1
def Txt.Ah:=T.Fb.2.2.2.2.2.2.2
def Txt.Fc:M9 K mg a:=T.2.2.2.2.2.2.2.2.2.2.2.2.2.2.2.1
def Txt.bM:=T.Fc.1
def Txt.Ai:=T.Fc.2.1
def Txt.Hh:=T.Fc.2.2.1
def Txt.fU:=T.Fc.2.2.2.1
def Txt.iR:=T.Fc.2.2.2.2.1
def Txt.Aj:=T.Fc.2.2.2.2.2.1
def Txt.bN:=T.Fc.2.2.2.2.2.2.1
def Txt.nK:=T.Fc.2.2.2.2.2.2.2
def Txt.Fd:M_ K mg a:=T.2.2.2.2.2.2.2.2.2.2.2.2.2.2.2.2.1
def Txt.Hi:=T.Fd.1
def Txt.bO:=T.Fd.2.1
def Txt.fV:=T.Fd.2.2.1
def Txt.fW:=T.Fd.2.2.2.1
def Txt.pR:=T.Fd.2.2.2.2.1
def Txt.cY:=T.Fd.2.2.2.2.2.1
def Txt.Fe:=T.Fd.2.2.2.2.2.2.1
def Txt.Nf:=T.Fd.2.2.2.2.2.2.2
def Txt.Ff:Na K mg a:=T.2.2.2.2.2.2.2.2.2.2.2.2.2.2.2.2.2.1
def Txt.iS:=T.Ff.1
def Txt.wW:=T.Ff.2.1
def Txt.iT:=T.Ff.2.2.1
def Txt.Vw:=T.Ff.2.2.2.1
def Txt.Kc:=T.Ff.2.2.2.2.1
def Txt.Vx:=T.Ff.2.2.2.2.2.1
def Txt.dM:=T.Ff.2.2.2.2.2.2.1
def Txt.sW:=T.Ff.2.2.2.2.2.2.2
def Txt.Fg:Nb K mg a:=T.2.2.2.2.2.2.2.2.2.2.2.2.2.2.2.2.2.2.1
def Txt.UX:=T.Fg.1
def Txt.iU:=T.Fg.2.1
def Txt.Ak:=T.Fg.2.2.1
def Txt.bP:=T.Fg.2.2.2.1
def Txt.jm:=T.Fg.2.2.2.2.1
def Txt.qj:=T.Fg.2.2.2.2.2.1
def Txt.Ks:=T.Fg.2.2.2.2.2.2.1
def Txt.Kt:=T.Fg.2.2.2.2.2.2.2
def Txt.Fh:Nc K mg a:=T.2.2.2.2.2.2.2.2.2.2.2.2.2.2.2.2.2.2.2.1
def Txt.cZ:=T.Fh.1
def Txt.Wq:=T.Fh.2.1
def Txt.Dh:=T.Fh.2.2.1
def Txt.kH:=T.Fh.2.2.2.1
def Txt.YM:=T.Fh.2.2.2.2.1
def Txt.jS:=T.Fh.2.2.2.2.2.1
def Txt.fX:=T.Fh.2.2.2.2.2.2.1
def Txt.QH:=T.Fh.2.2.2.2.2.2.2
def Txt.Og:Nd K mg a:=T.2.2.2.2.2.2.2.2.2.2.2.2.2.2.2.2.2.2.2.2
def Txt.c4:=T.Og.1
def Txt.Di:=T.Og.2.1
def Txt.kT:=T.Og.2.2.1
def Txt.JV:=T.Og.2.2.2
end
def cls(a:Adr):Nat->Addr
 |1=>a.wo
 |2=>a.jx
 |3=>a.wq
 |4=>a.VD
 |5=>a.wt
 |6=>a.YA
 |7=>a.YB
 |8=>a.b_
 |9=>a.ye
 |10=>a.kl
 |11=>a.wu
 |12=>a.YC
 |13=>a.YD
 |_=>0
abbrev WW(K:Tr)(a:Adr):RC:=⟨K,cls a⟩
abbrev bQ:MS:=
  (zD (yo 2 (mOp qZ (mOp cJ (mOp qf (zb 0) (mC (.i 2147483647))) (mC (.i 48271))) (mOp cJ (zb 1) (mC (.i 69621)))))
  (kQ (mOp Yb (mOp qf (mOp cJ (zb 2) (zb 2)) (mC (.i 2147483629))) (mC (.i 8)))))
def zC:List PV->Out PV:=wI false 3 bQ
abbrev XI:MS:=
  (zD (sIf (z9 (mOp pLt (zb 1) (zj Qh (zc (zb 0) zq)))) (kQ (mOp pIx (zb 0) (zb 1))) yk)
  (kQ (mOp cJ (zb 1) (zb 1))))
def yr:List PV->Out PV:=wI false 2 XI
abbrev QI:MG:=
  (gTp 3 (Ql (gNm 6) (Ql (gNm 7) (Ql (gNm 8) xj))))
abbrev jT:MS:=
  (sIf (z9 (mOp (pIn false) (zb 6) (zb 4))) (zD (yo 9 (mOp qZ (mOp pIx (zb 4) (zb 6)) (zb 8)))
  (sIf (mOr (z9 (mOp (pIn true) (zb 7) (zb 4))) (z9 (mOp pLt (zb 9) (mOp pIx (zb 4) (zb 7))))) (zD (gE 4 (zb 7) (zb 9))
  (yo 5 (mC (.b true)))) yk)) yk)
abbrev jU:MT:=
  (z9 (zb 5))
abbrev yw:MS:=
  (zD (yo 5 (mC (.b false)))
  (wK (yi (zb 1)) QI jT))
abbrev QJ:MG:=
  (gNm 3)
abbrev QK:MS:=
  (zD (yo 4 (mD1 (zb 3) (mC (.i 0))))
  (zD (yo 5 (mC (.b true)))
  (zD (Qn jU yw)
  (gE 2 (zb 3) (zb 4)))))
abbrev Wr:MS:=
  (zD (yo 2 VY)
  (zD (wK (yi (zb 0)) QJ QK)
  (kQ (zb 2))))
def qP:List PV->Out PV:=wI true 10 Wr
abbrev YN:MG:=
  (gTp 3 (Ql (gNm 4) (Ql (gNm 5) (Ql (gNm 6) xj))))
abbrev jn:MS:=
  (sIf (z9 (mOp (pIn false) (zb 4) (zb 2))) (zD (yo 7 (mOp qZ (mOp pIx (zb 2) (zb 4)) (zb 6)))
  (sIf (mOr (z9 (mOp (pIn true) (zb 5) (zb 2))) (z9 (mOp pLt (zb 7) (mOp pIx (zb 2) (zb 5))))) (zD (gE 2 (zb 5) (zb 7))
  (yo 3 (mC (.b true)))) yk)) yk)
abbrev YO:MT:=
  (z9 (zb 3))
abbrev qk:MS:=
  (zD (yo 3 (mC (.b false)))
  (wK (yi (zb 1)) YN jn))
abbrev Ku:MS:=
  (zD (yo 2 (mD1 (zb 0) (mC (.i 0))))
  (zD (yo 3 (mC (.b true)))
  (zD (Qn YO qk)
  (kQ (zb 2)))))
def yp:List PV->Out PV:=wI true 8 Ku
abbrev Ws:MS:=
  (kQ (zj vT (zc (ae [12] "order" (zb 0)) zq)))
def yb:List PV->Out PV:=wI true 1 Ws
abbrev Wt:MS:=
  (kQ (zj vT (zc (ae [13] "places" (zb 0)) zq)))
def yG:List PV->Out PV:=wI true 1 Wt
abbrev QL(self:List HV->AH->HX HV):HMG:=
  (hgN 4)
abbrev zR(self:List HV->AH->HX HV):HMS:=
  (hIf (hPT [false,false,false,true,true] (z9 (mOp (pIn true) (zb 4) (zb 3)))) (wJ (mB (qJ 3) (qJ 4) (hP [] (mC (.b true))))
  (hIf (hOr (hPT [false,false,true,false,true] (z9 (mOp (pIn true) (zb 4) (zb 2)))) (N_ (Qe self (yQ (qJ 0) (yQ (hP [false,false,true,false,true] (mOp pIx (zb 2) (zb 4))) (yQ (qJ 2) (yQ (qJ 3) cK))))))) (wJ (mB (qJ 2) (qJ 4) (qJ 1))
  (ip (hP [] (mC (.b true))))) CP)) CP)
abbrev vx(self:List HV->AH->HX HV):HMS:=
  (wJ (ir [true,true] (yi (mOp pIx (zb 0) (zb 1))) (QL self) (zR self))
  (ip (hP [] (mC (.b false)))))
def zY:Nat->List HV->AH->HX HV
 |0=>λ_ _=>.wall
 |d+1=>BU 5 (vx (zY d))
abbrev ZD:MT:=
  (z9 (mOp (pIn false) (mOp pIx (zb 2) (mUn mq (mC (.i 1)))) (zb 1)))
abbrev kI:MS:=
  (CB 2 (mOp pIx (zb 1) (mOp pIx (zb 2) (mUn mq (mC (.i 1))))))
abbrev wX:MS:=
  (zD (yo 2 (mr (zc (zb 0) zq)))
  (zD (Qn ZD kI)
  (kQ (zb 2))))
def qz:List PV->Out PV:=wI true 3 wX
abbrev YQ:MS:=
  (kQ (my (zc (mOp pIx (zb 0) (mC (.i 3))) (zc (mOp pIx (zb 0) (mC (.i 4))) (zc (mOp pIx (zb 0) (mC (.i 0))) zq)))))
def zt:List PV->Out PV:=wI false 1 YQ
abbrev vY:MG:=
  (gNm 4)
abbrev vZ:MS:=
  (zD (sIf (mOr (uS (z9 (mUn (EB [(.str,true)]) (mOp pIx (zb 3) (zb 4))))) (mOr (z9 (mOp (pIn true) (mOp pIx (zb 3) (zb 4)) (zb 1))) (z9 (mOp (pIn false) (mOp pIx (zb 3) (zb 4)) (zb 2))))) (kQ (mC (.b false))) yk)
  (zD (sIf (o9 (z9 (mOp pGt (zb 4) (mC (.i 0)))) (z9 (mOp (pIn true) (mOp pIx (zb 3) (zb 4)) (mOp pIx (zb 1) (mOp pIx (zb 3) (mOp Cp (zb 4) (mC (.i 1)))))))) (kQ (mC (.b false))) yk)
  (gE 2 (mOp pIx (zb 3) (zb 4)) (mC (.b true)))))
abbrev QM:MG:=
  (gNm 3)
abbrev v5:MS:=
  (zD (sIf (mOr (uS (z9 (mUn (EB [(.list,true)]) (zb 3)))) (z9 (mOp (cG false) (zb 3) (mr zq)))) (kQ (mC (.b false))) yk)
  (wK (VU (zc (zj Qh (zc (zb 3) zq)) zq)) vY vZ))
abbrev Wu:MS:=
  (zD (sIf (uS (z9 (mUn (EB [(.list,true)]) (zb 0)))) (kQ (mC (.b false))) yk)
  (zD (yo 2 VY)
  (zD (wK (yi (zb 0)) QM v5)
  (kQ (mOp (cG false) (zj Qh (zc (zb 2) zq)) (zj Qh (zc (zb 1) zq)))))))
def qQ:List PV->Out PV:=wI false 5 Wu
abbrev qA:MT:=
  (z9 (mOp (cG true) (zb 3) (mr zq)))
abbrev yS:MS:=
  (zD (sS 3 4)
  (sIf (z9 (mOp (pIn true) (zb 4) (zb 2))) (zD (gE 2 (zb 4) (mC (.b true)))
  (N6 3 (mOp pIx (zb 0) (zb 4)))) yk))
abbrev Wv:MS:=
  (zD (yo 2 VY)
  (zD (yo 3 (zj vT (zc (mOp pIx (zb 0) (zb 1)) zq)))
  (zD (Qn qA yS)
  (kQ (zb 2)))))
def qR:List PV->Out PV:=wI true 5 Wv
abbrev iV:MS:=
  (kQ (g9 (mOp (pIn false) (mOp pIx (zb 1) (mC (.i 1))) (zb 2)) (mOp pLe (mOp qZ (mOp pIx (zb 0) (mC (.i 4))) (mOp pIx (zb 2) (mOp pIx (zb 1) (mC (.i 1))))) (mOp pIx (zb 1) (mC (.i 3))))))
def ZY:List PV->Out PV:=wI false 3 iV
abbrev Ww:MS:=
  (zD (yo 1 (zj zC (zc (zb 0) (zc (mC (.i 23)) zq))))
  (zD (sIf (z9 (mOp (cG false) (mOp qf (zb 1) (mC (.i 3))) (mC (.i 0)))) (kQ (mOp qZ (mC (.i 1)) (mOp qf (mOp Yb (zb 1) (mC (.i 3))) (mC (.i 60))))) yk)
  (zD (sIf (z9 (mOp (cG false) (mOp qf (zb 1) (mC (.i 3))) (mC (.i 1)))) (kQ (mOp qZ (mC (.i 1)) (mOp qf (mOp Yb (zb 1) (mC (.i 3))) (mC (.i 40000000))))) yk)
  (kQ (mOp pIx (mr (zc (mC (.i 1)) (zc (mC (.i 2)) (zc (mC (.i 40000000)) zq)))) (mOp qf (mOp Yb (zb 1) (mC (.i 3))) (mC (.i 3))))))))
def qb:List PV->Out PV:=wI false 2 Ww
abbrev QN:MG:=
  (gNm 4)
abbrev wY:MS:=
  (yo 3 (mOp qZ (zb 3) (mOp pIx (zb 2) (mOp qf (zj zC (zc (zb 0) (zc (mOp qZ (mC (.i 3)) (zb 4)) zq))) (mC (.i 36))))))
abbrev JW:MS:=
  (zD (yo 2 (mC (.s "abcdefghijklmnopqrstuvwxyz0123456789")))
  (zD (yo 3 (mC (.s "")))
  (zD (wK (VU (zc (mC (.i 10)) zq)) QN wY)
  (zD (yo 5 (mOp qf (zj zC (zc (zb 0) (zc (mC (.i 2)) zq))) (mC (.i 10))))
  (zD (yo 6 (mOp qf (zj zC (zc (zb 0) (zc (mC (.i 15)) zq))) (mOp qZ (zb 5) (mC (.i 1)))))
  (zD (yo 7 (mOp qZ (mOp qf (zj zC (zc (zb 0) (zc (mC (.i 16)) zq))) (mC (.i 36))) (zb 1)))
  (zD (yo 8 (mOp qZ (mOp pIx (zb 2) (mOp Yb (zb 7) (mC (.i 36)))) (mOp pIx (zb 2) (mOp qf (zb 7) (mC (.i 36))))))
  (kQ (mOp qZ (mOp qZ (mOp qZ (mSl pSl (zb 3) Cz (J_ (zb 6))) (zb 8)) (mSl pSl (zb 3) (J_ (zb 6)) (J_ (zb 5)))) (mOp cJ (mSl pSl (zb 3) (J_ (mC (.i 9))) Cz) (mOp qf (zb 1) (mC (.i 2)))))))))))))
def jG:List PV->Out PV:=wI false 9 JW
abbrev dN:MS:=
  (zD (yo 5 (zj zC (zc (zb 1) (zc (mC (.i 71)) zq))))
  (zD (yo 6 (mOp pIx (zb 2) (mOp qf (zj zC (zc (zb 1) (zc (mC (.i 72)) zq))) (zj Qh (zc (zb 2) zq)))))
  (zD (yo 7 (mOp pIx (zb 2) (mOp qf (zj zC (zc (zb 1) (zc (mC (.i 73)) zq))) (zj Qh (zc (zb 2) zq)))))
  (zD (sIf (z9 (mOp (pIn true) (zb 7) (mOp pIx (zb 3) (zb 6)))) (yo 7 (zb 6)) yk)
  (zD (yo 8 (mOp pIx (mr (zc (mOp qf (mOp Yb (zb 5) (mC (.i 8))) (mC (.i 1440))) (zc (mOp qf (mOp Yb (zb 5) (mC (.i 8))) (mC (.i 100000000))) zq))) (mOp qf (zb 5) (mC (.i 2)))))
  (zD (sIf (o9 (z9 (mOp (cG true) (zb 4) (mr zq))) (o9 (z9 (mOp pGt (mOp qf (mOp Yb (zb 5) (mC (.i 2))) (mC (.i 3))) (mC (.i 0)))) (z9 (mOp (pIn false) (zb 6) (mOp pIx (zb 3) (mOp pIx (mOp pIx (zb 4) (mUn mq (mC (.i 1)))) (mC (.i 2)))))))) (zD (yo 9 (mOp Cp (mOp qZ (mOp pIx (mOp pIx (zb 4) (mUn mq (mC (.i 1)))) (mC (.i 4))) (mOp pIx (mOp pIx (zb 3) (mOp pIx (mOp pIx (zb 4) (mUn mq (mC (.i 1)))) (mC (.i 2)))) (zb 6))) (mOp qf (mOp Yb (zb 5) (mC (.i 16))) (mC (.i 2)))))
  (sIf (z9 (mOp pLe (zb 9) (mC (.i 300000000)))) (yo 8 (zb 9)) yk)) yk)
  (zD (yo 10 (mOp qZ (mOp pIx (mOp pIx (zb 3) (zb 6)) (zb 7)) (mOp pIx (mr (zc (mC (.i 0)) (zc (mOp qf (mOp Yb (zb 5) (mC (.i 32))) (mC (.i 60))) zq))) (mOp qf (mOp Yb (zb 5) (mC (.i 64))) (mC (.i 2))))))
  (kQ (my (zc (zb 0) (zc (zb 6) (zc (zb 7) (zc (zb 8) (zc (mOp qZ (zb 8) (zj LQ (zc (zb 10) (zc (mC (.i 1)) zq)))) (zc (mOp qf (zj zC (zc (zb 1) (zc (mC (.i 74)) zq))) (mC (.i 60))) zq)))))))))))))))
def vJ:List PV->Out PV:=wI false 11 dN
abbrev Wx:MG:=
  (gNm 4)
abbrev Wz:MS:=
  (sIf (z9 (mOp (pIn false) (zb 4) (zb 3))) (kQ (mC (.b false))) yk)
abbrev WA:MG:=
  (gNm 2)
abbrev WB:MS:=
  (zD (sIf (mOr (uS (z9 (mUn (EB [(.str,true)]) (mOp pIx (zb 0) (zb 2))))) (mOr (z9 (mOp (pIn true) (mOp pIx (zb 0) (zb 2)) (zb 1))) (z9 (mOp (pIn false) (mOp pIx (zb 0) (zb 2)) (mSl pSl (zb 0) Cz (J_ (zb 2))))))) (kQ (mC (.b false))) yk)
  (zD (yo 3 (zj qR (zc (zb 1) (zc (mOp pIx (zb 0) (zb 2)) zq))))
  (wK (yi (zb 0)) Wx Wz)))
abbrev bR:MS:=
  (zD (sIf (uS (z9 (mUn (EB [(.list,true)]) (zb 0)))) (kQ (mC (.b false))) yk)
  (zD (wK (VU (zc (zj Qh (zc (zb 0) zq)) zq)) WA WB)
  (kQ (mC (.b true)))))
def ki:List PV->Out PV:=wI false 5 bR
abbrev QO:MG:=
  (gNm 0)
abbrev QP:MT:=
  (z9 (zj ZY (zc (zb 1) (zc (zb 0) (zc (mOp pIx (zb 2) (mOp pIx (zb 1) (mC (.i 2)))) zq)))))
abbrev QQ:ME:=
  (mOp pIx (zb 0) (mC (.i 0)))
abbrev Kv:MG:=
  (gNm 3)
abbrev Kw:MS:=
  (gE 2 (mOp pIx (zb 3) (mC (.i 0))) (mLC (yi (zb 0)) [none,some 3,some 1] QO QP QQ))
abbrev Uc:MS:=
  (zD (yo 2 VY)
  (zD (wK (yi (zb 0)) Kv Kw)
  (kQ (zb 2))))
def yX:List PV->Out PV:=wI true 4 Uc
abbrev wZ:MG:=
  (gNm 5)
abbrev w4:MS:=
  (zD (yo 6 (zj qb (zc (zj zC (zc (zj yr (zc (zb 0) (zc (mC (.i 2)) zq))) (zc (mOp qZ (mC (.i 50)) (zb 5)) zq))) zq)))
  (CB 4 (my (zc (mOp pIx (zb 2) (zb 5)) (zc (mOp pIx (zb 2) (mOp qf (mOp qZ (zb 5) (mC (.i 1))) (zj Qh (zc (zb 2) zq)))) (zc (zb 6) zq))))))
abbrev Ud:MG:=
  (gNm 7)
abbrev Ue:MS:=
  (zD (yo 8 (mOp pIx (zb 2) (mOp qf (zj zC (zc (zb 7) (zc (mC (.i 21)) zq))) (zj Qh (zc (zb 2) zq)))))
  (CB 4 (my (zc (zb 8) (zc (mOp pIx (zb 2) (mOp qf (zj zC (zc (zb 7) (zc (mC (.i 22)) zq))) (zj Qh (zc (zb 2) zq)))) (zc (zj qb (zc (zb 7) zq)) zq))))))
abbrev dO:MS:=
  (zD (yo 3 (zj zC (zc (zj yr (zc (zb 0) (zc (mC (.i 0)) zq))) (zc (mC (.i 42)) zq))))
  (zD (yo 4 (mr zq))
  (zD (sIf (z9 (mOp pGt (mOp qf (zb 3) (mC (.i 4))) (mC (.i 0)))) (wK (VU (zc (zj Qh (zc (zb 2) zq)) zq)) wZ w4) yk)
  (zD (wK (yi (zb 1)) Ud Ue)
  (kQ (zb 4))))))
def vL:List PV->Out PV:=wI true 9 dO
abbrev WC:MG:=
  (gNm 5)
abbrev WD:MS:=
  (zD (yo 6 (zj jG (zc (zj yr (zc (zb 0) (zc (mC (.i 3)) zq))) (zc (zb 5) zq))))
  (CB 4 (zj vJ (zc (zb 6) (zc (mOp pIx (zb 1) (zb 5)) (zc (zb 2) (zc (zb 3) (zc (zb 4) zq))))))))
abbrev bS:MS:=
  (zD (yo 4 (mr zq))
  (zD (wK (VU (zc (zj Qh (zc (zb 1) zq)) zq)) WC WD)
  (kQ (zb 4))))
def kj:List PV->Out PV:=wI true 7 bS
abbrev kU:MS:=
  (sIf (z9 (mOp pGt (zj Qh (zc (zb 0) zq)) (zb 1))) (vm 3 ["most"] (zc (zb 1) zq)) yk)
def zA:List PV->Out PV:=wI false 2 kU
abbrev YR:MG:=
  (gNm 1)
abbrev jo:MS:=
  (sIf (z9 (mOp (pIn true) (zb 1) (mC (.s "abcdefghijklmnopqrstuvwxyz0123456789")))) (vm 1 ["name"] (zc (zb 0) zq)) yk)
abbrev Kx:MS:=
  (zD (sIf (mOr (z9 (mOp pLt (zj Qh (zc (zb 0) zq)) (mC (.i 1)))) (z9 (mOp pGt (zj Qh (zc (zb 0) zq)) (mC (.i 12))))) (vm 1 ["name"] (zc (zb 0) zq)) yk)
  (zD (wK (iu (zb 0)) YR jo)
  (kQ (zb 0))))
def qo:List PV->Out PV:=wI false 2 Kx
abbrev WE:MS:=
  (sIf (z9 (mOp (pIn true) (zb 0) (zb 1))) (vm 5 ["name"] (zc (zb 0) zq)) yk)
def ym:List PV->Out PV:=wI false 2 WE
abbrev YS:MS:=
  (zD (sIf (mOr (z9 (mOp pLt (zb 0) (zb 1))) (z9 (mOp pGt (zb 0) (mC (.i 1000000000))))) (vm 2 ["value"] (zc (zb 0) zq)) yk)
  (kQ (zb 0)))
def zE:List PV->Out PV:=wI false 2 YS
abbrev Ug:MS:=
  (zD (sIf (z9 (mOp (pIn true) (zb 1) (ae [12] "by_name" (zb 0)))) (vm 7 ["name"] (zc (zb 1) zq)) yk)
  (kQ (mOp pIx (ae [12] "by_name" (zb 0)) (zb 1))))
def z0:List PV->Out PV:=wI false 2 Ug
abbrev v7:MG:=
  (gNm 2)
abbrev v8:MS:=
  (sIf (z9 (mOp (pIn true) (zb 2) (zb 0))) (vm 7 ["name"] (zc (zb 2) zq)) yk)
abbrev QR:MG:=
  (gNm 1)
abbrev QS:MS:=
  (wK (yi (mOp pIx (zb 0) (zb 1))) v7 v8)
abbrev vy:MS:=
  (wK (zP 0) QR QS)
def qS:List PV->Out PV:=wI false 3 vy
abbrev QT:MG:=
  (gNm 1)
abbrev QU:MS:=
  (sIf (z9 (mOp (pIn false) (zb 1) (mOp pIx (zb 0) (zb 1)))) (vm 8 ["name"] (zc (zb 1) zq)) yk)
abbrev vz:MS:=
  (wK (zP 0) QT QU)
def qT:List PV->Out PV:=wI false 2 vz
abbrev qc:MG:=
  (gNm 0)
abbrev jw:MT:=
  sE
abbrev qd:ME:=
  (my (zc (zb 0) (zc (mC (.b true)) zq)))
abbrev jV:MG:=
  (gNm 4)
abbrev jW:MS:=
  (sIf (z9 (mOp (pIn true) (zb 4) (zb 2))) (vm 9 ["first","second","third"] (zc (zb 1) (zc (zb 3) (zc (zb 4) zq)))) yk)
abbrev w6:MG:=
  (gNm 3)
abbrev w8:MS:=
  (wK (yi (mOp pIx (zb 0) (zb 3))) jV jW)
abbrev jq:MS:=
  (zD (yo 2 (zj jD (zc (mLC (yi (mOp pIx (zb 0) (zb 1))) [none] qc jw qd) zq)))
  (wK (yi (mOp pIx (zb 0) (zb 1))) w6 w8))
def yD:List PV->Out PV:=wI false 5 jq
abbrev w_:MS:=
  (zD (j_ (zj qo (zc (zb 0) zq)))
  (zD (sIf (z9 (mOp (pIn false) (zb 0) (zb 1))) (vm 4 ["name"] (zc (zb 0) zq)) yk)
  (kQ (zb 0))))
def zL:List PV->Out PV:=wI false 2 w_
abbrev Ky:MG:=
  (gTp 3 (Ql (gNm 2) (Ql (gNm 3) (Ql (gNm 4) xj))))
abbrev kJ:MS:=
  (zD (j_ (zj ym (zc (zb 2) (zc (zb 0) zq))))
  (zD (j_ (zj ym (zc (zb 3) (zc (zb 0) zq))))
  (j_ (zj zE (zc (zb 4) (zc (mC (.i 1)) zq))))))
abbrev Uh:MS:=
  (wK (yi (zb 1)) Ky kJ)
def jH:List PV->Out PV:=wI false 5 Uh
abbrev Kz:MS:=
  (zD (j_ (zj ym (zc (zb 1) (zc (ae [13] "places" (zb 0)) zq))))
  (zD (j_ (zj ym (zc (zb 2) (zc (ae [13] "places" (zb 0)) zq))))
  (kQ (Ob (mOp pIx (ae [13] "lengths" (zb 0)) (zb 1)) (zb 2)))))
def zS:List PV->Out PV:=wI false 3 Kz
abbrev ZE:MG:=
  (gNm 1)
abbrev ZF:MS:=
  (j_ (zj zA (zc (mOp pIx (zb 0) (zb 1)) (zc (mC (.i 40)) zq))))
abbrev kW:MS:=
  (zD (j_ (zj zA (zc (zb 0) (zc (mC (.i 40)) zq))))
  (wK (zP 0) ZE ZF))
def zW:List PV->Out PV:=wI false 2 kW
abbrev YT:MG:=
  (gNm 2)
abbrev jr:MS:=
  (zD (j_ (zj zL (zc (zb 2) (zc (zb 1) zq))))
  (gE 1 (zb 2) (mC (.b true))))
abbrev KA:MS:=
  (zD (yo 1 VY)
  (wK (yi (zb 0)) YT jr))
def qp:List PV->Out PV:=wI false 3 KA
abbrev Ng:MS:=
  (zD (yo 3 (J9 [(12,z0)] "trip" (zb 0) (zc (zb 1) zq)))
  (zD (yo 4 (J9 [(12,z0)] "trip" (zb 0) (zc (zb 2) zq)))
  (zD (yo 5 (J9 [(13,zS)] "length" (ae [12] "roads" (zb 0)) (zc (mOp pIx (zb 3) (mC (.i 2))) (zc (mOp pIx (zb 4) (mC (.i 1))) zq))))
  (zD (sIf (z9 (mOp (Es false) (zb 5) (mC .n))) (kQ (mC .n)) yk)
  (kQ (mOp Cp (mOp Cp (mOp pIx (zb 4) (mC (.i 3))) (mOp pIx (zb 3) (mC (.i 4)))) (zb 5)))))))
def sX:List PV->Out PV:=wI false 6 Ng
abbrev QV:MG:=
  (gNm 1)
abbrev QW:MS:=
  (j_ (zj yD (zc (zb 0) (zc (zb 1) zq))))
abbrev vA:MS:=
  (zD (j_ (zj zW (zc (zb 0) zq)))
  (zD (j_ (zj qS (zc (zb 0) zq)))
  (zD (j_ (zj qT (zc (zb 0) zq)))
  (wK (zP 0) QV QW))))
def yc:List PV->Out PV:=wI false 2 vA
abbrev Ui:MS:=
  (zD (j_ (zj zL (zc (mOp pIx (zb 1) (mC (.i 0))) (zc (zb 2) zq))))
  (zD (yo 3 (J9 [(13,zS)] "length" (zb 0) (zc (mOp pIx (zb 1) (mC (.i 1))) (zc (mOp pIx (zb 1) (mC (.i 2))) zq))))
  (zD (j_ (zj zE (zc (mOp pIx (zb 1) (mC (.i 3))) (zc (mC (.i 0)) zq))))
  (zD (j_ (zj zE (zc (mOp pIx (zb 1) (mC (.i 4))) (zc (mC (.i 0)) zq))))
  (zD (j_ (zj zE (zc (mOp pIx (zb 1) (mC (.i 5))) (zc (mC (.i 0)) zq))))
  (zD (sIf (z9 (mOp pLe (mOp pIx (zb 1) (mC (.i 4))) (mOp pIx (zb 1) (mC (.i 3))))) (vm 10 ["name"] (zc (mOp pIx (zb 1) (mC (.i 0))) zq)) yk)
  (zD (sIf (z9 (mOp (Es false) (zb 3) (mC .n))) (vm 6 ["origin","goal"] (zc (mOp pIx (zb 1) (mC (.i 1))) (zc (mOp pIx (zb 1) (mC (.i 2))) zq))) yk)
  (sIf (z9 (mOp pLt (mOp Cp (mOp pIx (zb 1) (mC (.i 4))) (mOp pIx (zb 1) (mC (.i 3)))) (zb 3))) (vm 11 ["name"] (zc (mOp pIx (zb 1) (mC (.i 0))) zq)) yk))))))))
def qB:List PV->Out PV:=wI false 4 Ui
abbrev QX:MG:=
  (gNm 0)
abbrev QY:MT:=
  sE
abbrev QZ:ME:=
  (my (zc (zb 0) (zc (zj yp (zc (zb 0) (zc (zb 1) zq))) zq)))
abbrev Za:MS:=
  (zD (j_ (zj zA (zc (zb 1) (zc (mC (.i 12)) zq))))
  (zD (j_ (zj zA (zc (zb 2) (zc (mC (.i 60)) zq))))
  (zD (j_ (zj qp (zc (zb 1) zq)))
  (zD (j_ (zj jH (zc (zb 1) (zc (zb 2) zq))))
  (zD (h8 0 [13] "places" (zj vT (zc (zb 1) zq)))
  (zD (h8 0 [13] "ways" (zj vT (zc (zb 2) zq)))
  (h8 0 [13] "lengths" (zj jD (zc (mLC (yi (zb 1)) [none,some 2] QX QY QZ) zq)))))))))
def qC:List PV->Out PV:=N7 13 2 Za
abbrev pS:MS:=
  (zD (yo 3 (zj sX (zc (zb 0) (zc (zb 1) (zc (zb 2) zq)))))
  (kQ (g9 (mOp (Es true) (zb 3) (mC .n)) (mOp pGe (zb 3) (mC (.i 0))))))
def JX:List PV->Out PV:=wI false 4 pS
abbrev jX:HMG:=
  (hgN 3)
abbrev yT:HMS:=
  (wJ (Xo (hP [true,true,false,true] (zj qB (zc (zb 1) (zc (zb 3) (zc (ae [12] "by_name" (zb 0)) zq))))))
  (mB (MH [12] "by_name" (qJ 0)) (hP [false,false,false,true] (mOp pIx (zb 3) (mC (.i 0)))) (qJ 3)))
abbrev v9:MG:=
  (gNm 0)
abbrev v_:MT:=
  sE
abbrev wb:ME:=
  (mOp pIx (zb 0) (mC (.i 0)))
abbrev vB:HMS:=
  (wJ (Xo (hP [false,false,true] (zj zA (zc (zb 2) (zc (mC (.i 40)) zq)))))
  (wJ (fA [12] "roads" (qJ 0) (qJ 1))
  (wJ (fA [12] "by_name" (qJ 0) (hF [] VY))
  (wJ (ir [false,false,true] (yi (zb 2)) jX yT)
  (fA [12] "order" (qJ 0) (hP [false,false,true] (mLC (yi (pK zt (zc (zb 2) zq))) [none] v9 v_ wb)))))))
def qU:List HV->AH->HX HV:=BU 4 vB
abbrev WG:MG:=
  (gNm 0)
abbrev WH:MT:=
  (z9 (zj JX (zc (zb 1) (zc (zb 2) (zc (zb 0) zq)))))
abbrev WI:ME:=
  (zb 0)
abbrev Q1:MS:=
  (kQ (mLC (yi (zb 2)) [none,some 0,some 1] WG WH WI))
def yU:List PV->Out PV:=wI true 3 Q1
abbrev dP:MG:=
  (gNm 0)
abbrev sY:MT:=
  sE
abbrev dQ:ME:=
  (my (zc (zb 0) (zc (zj yU (zc (zb 1) (zc (zb 0) (zc (zb 2) zq)))) zq)))
abbrev Al:MS:=
  (zD (yo 1 (J9 [(12,yb),(13,yG)] "names" (zb 0) zq))
  (kQ (zj jD (zc (mLC (yi (zb 1)) [none,some 0,some 1] dP sY dQ) zq))))
def XJ:List PV->Out PV:=wI true 2 Al
abbrev zK:HMG:=
  (hgN 2)
abbrev zy:HMS:=
  (Xo (Qe (zY 45) (yQ (qJ 0) (yQ (qJ 2) (yQ (qJ 1) (yQ (hF [] VY) cK))))))
abbrev qu:HMS:=
  (wJ (Xo (hP [true] (zj zW (zc (zb 0) zq))))
  (wJ (Xn 1 (hF [] VY))
  (wJ (sR 0 zK zy)
  (ip (qJ 1)))))
def zM:List HV->AH->HX HV:=BU 3 qu
abbrev WJ:MG:=
  (gNm 0)
abbrev WK:MT:=
  sE
abbrev WL:ME:=
  (my (zc (mOp pIx (zb 1) (zb 0)) (zc (zb 0) zq)))
abbrev Yy:HMS:=
  (wJ (Xn 1 (Qe zM (yQ (qJ 0) cK)))
  (ip (hF [false,true] (zj jD (zc (mLC (zP 1) [none,some 1] WJ WK WL) zq)))))
def wc:List HV->AH->HX HV:=BU 2 Yy
abbrev Q2:MG:=
  (gNm 0)
abbrev Q3:MT:=
  sE
abbrev Q4:ME:=
  (my (zc (mOp pIx (zb 1) (zb 0)) (zc (mC (.b true)) zq)))
abbrev Zb:MG:=
  (gNm 0)
abbrev Zc:MT:=
  (z9 (mOp (pIn true) (zb 0) (zb 1)))
abbrev Zd:ME:=
  (zb 0)
abbrev qD:HMG:=
  (hgN 7)
abbrev yY:HMS:=
  (hIf (hPT [false,false,false,false,true,false,false,true] (z9 (mOp (pIn true) (zb 7) (zb 4)))) (wJ (mB (qJ 4) (qJ 7) (hP [] (mC (.b true))))
  (Rn (qJ 3) (hP [false,true,false,false,false,false,false,true] (mOp pIx (zb 1) (zb 7))))) CP)
abbrev jI:HMT:=
  (hPT [false,false,false,true,false,true] (z9 (mOp pLt (zb 5) (zj Qh (zc (zb 3) zq)))))
abbrev qE:HMS:=
  (wJ (Xn 6 (hP [false,false,false,true,false,true] (mOp pIx (zb 3) (zb 5))))
  (wJ (ir [true,false,false,false,false,false,true] (yi (mOp pIx (zb 0) (zb 6))) qD yY)
  (Oa 5 (λa b=>a+b) (hP [] (mC (.i 1))))))
abbrev ZZ:HMS:=
  (wJ (Xn 1 (Qe zM (yQ (qJ 0) cK)))
  (wJ (Xn 2 (hF [false,true] (zj jD (zc (mLC (zP 1) [none,some 1] Q2 Q3 Q4) zq))))
  (wJ (Xn 3 (hF [true,false,true] (mLC (zP 0) [none,some 2] Zb Zc Zd)))
  (wJ (Xn 4 (hF [] VY))
  (wJ (Xn 5 (hP [] (mC (.i 0))))
  (wJ (iq jI qE)
  (ip (MC (yQ (qJ 3) (yQ (hF [false,false,false,false,true] (zj vT (zc (zb 4) zq))) cK))))))))))
def Z0:List HV->AH->HX HV:=BU 8 ZZ
abbrev Vy:MG:=
  (gNm 0)
abbrev Vz:MT:=
  sE
abbrev VA:ME:=
  (my (zc (mOp pIx (zb 1) (zb 0)) (zc (mC (.b true)) zq)))
abbrev we:MG:=
  (gNm 0)
abbrev wg:MT:=
  (z9 (mOp (pIn true) (zb 0) (zb 1)))
abbrev wj:ME:=
  (zj qz (zc (zb 0) (zc (zb 2) zq)))
abbrev WM:HMS:=
  (wJ (Xo (hP [true] (zj yc (zc (zb 0) zq))))
  (wJ (Xn 1 (Qe wc (yQ (qJ 0) cK)))
  (wJ (Xn 2 (hF [false,true] (zj jD (zc (mLC (zP 1) [none,some 1] Vy Vz VA) zq))))
  (ip (Hb [true,true,true] (mLC (zP 0) [none,some 2,some 1] we wg (mLI wj)))))))
def Q5:List HV->AH->HX HV:=BU 3 WM
abbrev JY:MG:=
  (gNm 0)
abbrev JZ:MT:=
  (z9 (mOp (pIn true) (zb 0) (mOp pIx (zb 1) (mC (.i 0)))))
abbrev J3:ME:=
  (zb 0)
abbrev ay:HMS:=
  (wJ (Xn 1 (Qe Z0 (yQ (qJ 0) cK)))
  (ip (MC (yQ (hF [true,true] (mLC (zP 0) [none,some 1] JY JZ J3)) (yQ (hIx (qJ 1) (hP [] (mC (.i 1)))) cK)))))
def WN:List HV->AH->HX HV:=BU 2 ay
abbrev J5:MG:=
  (gNm 0)
abbrev J6:MT:=
  (o9 (z9 (mOp (pIn true) (zb 0) (mOp pIx (zb 1) (mC (.i 0))))) (z9 (mOp (pIn true) (zb 0) (mOp pIx (zb 1) (mC (.i 1))))))
abbrev J7:ME:=
  (zb 0)
abbrev az:HMS:=
  (wJ (Xo (hP [true] (zj yc (zc (zb 0) zq))))
  (wJ (Xn 1 (Qe WN (yQ (qJ 0) cK)))
  (ip (hF [true,true] (mLC (zP 0) [none,some 1] J5 J6 J7)))))
def WO:List HV->AH->HX HV:=BU 2 az
abbrev dR:MS:=
  (zD (yo 3 (zj XJ (zc (zj (mkV 12 qU) (zc (zb 0) (zc (zb 1) zq))) zq)))
  (zD (yo 4 (zj (vOf Q5) (zc (zb 3) zq)))
  (zD (yo 5 (zj (vOf WO) (zc (zb 3) zq)))
  (zD (sIf (mOr (uS (z9 (zj qQ (zc (zb 4) (zc (zb 2) zq))))) (uS (z9 (zj ki (zc (zb 5) (zc (zb 2) zq)))))) (kQ (mUn mq (mC (.i 1)))) yk)
  (zD (sIf (z9 (mOp (cG true) (zj Qh (zc (zb 5) zq)) (zj Qh (zc (zb 4) zq)))) (kQ (mUn mq (mC (.i 1)))) yk)
  (kQ (zj Qh (zc (zb 4) zq))))))))
def jJ:List PV->Out PV:=wI false 6 dR
abbrev pT:MG:=
  (gNm 0)
abbrev pV:MT:=
  sE
abbrev pW:ME:=
  (zj jG (zc (zj yr (zc (zb 1) (zc (mC (.i 1)) zq))) (zc (zb 0) zq)))
abbrev Nh:MS:=
  (zD (yo 1 (mOp qZ (mC (.i 1)) (mOp qf (zj zC (zc (zj yr (zc (zb 0) (zc (mC (.i 0)) zq))) (zc (mC (.i 43)) zq))) (mC (.i 6)))))
  (zD (yo 2 (mLC (VU (zc (zb 1) zq)) [none,some 0] pT pV pW))
  (zD (yo 3 (mSl pSl (zb 0) (J_ (mC (.i 4))) (J_ (mC (.i 64)))))
  (zD (yo 4 (zj vL (zc (zb 0) (zc (MZ (zb 3) Cz Cz (J_ (mC (.i 2)))) (zc (zb 2) zq)))))
  (zD (yo 5 (zj qP (zc (zb 2) (zc (zb 4) zq))))
  (zD (yo 6 (zj kj (zc (zb 0) (zc (MZ (zb 3) (J_ (mC (.i 1))) Cz (J_ (mC (.i 2)))) (zc (zb 2) (zc (zb 5) zq))))))
  (zD (yo 7 (zj qC (zc (zj vT (zc (zb 2) zq)) (zc (zj vT (zc (zb 4) zq)) zq))))
  (zD (yo 8 (zj vT (zc (zb 6) zq)))
  (zD (yo 1 (zj jJ (zc (zb 7) (zc (zb 8) (zc (zj yX (zc (zb 6) (zc (zb 5) zq))) zq)))))
  (zD (sIf (mOr (z9 (mOp pLt (zb 1) (mC (.i 0)))) (z9 (mOp (cG true) (zb 8) (zb 6)))) (kQ (mC (.b false))) yk)
  (zD (yo 9 (mSl pSl (zb 6) Cz (J_ (mUn mq (mC (.i 1))))))
  (zD (yo 10 (zj jJ (zc (zb 7) (zc (zj vT (zc (zb 9) zq)) (zc (zj yX (zc (zb 9) (zc (zb 5) zq))) zq)))))
  (zD (sIf (mOr (z9 (mOp pLt (zb 10) (mC (.i 0)))) (z9 (mOp (pIn true) (mOp Cp (zb 1) (zb 10)) (mr (zc (mC (.i 0)) (zc (zj u7 (zc (mC (.i 1)) (zc (zj Qh (zc (zb 6) zq)) zq))) zq)))))) (kQ (mC (.b false))) yk)
  (kQ (mOp (cG false) (zj jJ (zc (zb 7) (zc (zj JK (zc (zb 6) zq)) (zc (zj yX (zc (zb 6) (zc (zb 5) zq))) zq)))) (zb 1))))))))))))))))
def Am:List PV->Out PV:=wI false 11 Nh
section
variable {P:SV}{w:S_}{K:Tr}{mg:Sx}{base:Heap}{a:Adr}
def yH(T:Txt K mg a):yz P w K mg base (CXe P w) 1 a.zC a.lK ["_law_cell_here","_law_turn"] (lsp (WW K a) false [true,true] zC):=
 zp (ms:=bQ) (S':=[1,1,0]) (Sb:=[]) (Sc:=[]) T.yd.F dJ rfl rfl rfl (by decide) λc A b s H E d=>
  (zg (se 2 dJ.nd (zG yO yP (zG aR aS (zG z5 z6 (ev 0) ei) ei) (zG aR aS (ev 1) ei)))
   (zk (yh (zG vN vO (zG z5 z6 (zG aR aS (ev 2) (ev 2)) ei) ei))))
def Z1(T:Txt K mg a):yz P w K mg base (CXe P w) 1 a.yr a.d7 ["_law_script","_law_k"] (lsp (WW K a) false [true,true] yr):=
 zp (ms:=XI) (S':=[1,1]) (Sb:=[]) (Sc:=[]) T.jE.F nA rfl rfl rfl (by decide) λc A b s H E d=>
  (zg (qt (qv eN eT (ev 1) (jB rfl T.wL (za (ev 0) zf)) (qV _))
    (zk (yh (ix d (ev 0) (ev 1))))
    z7)
   (zk (yh (zG aR aS (ev 1) (ev 1)))))
def fY(T:Txt K mg a):yz P w K mg base (CXe P w) 1 a.qP a.W0 ["_law_places","_law_ways_here"] (lsp (WW K a) true [true,true] qP):=
 zp (ms:=Wr) (S':=[1,1,0,0,0,0,0,0,0,0]) (Sb:=[]) (Sc:=[]) T.qN.F zQ rfl rfl rfl (by decide) λd A c s H E b=>
  (zg (vR (i:=2) zQ.nd rfl (.inl rfl) Ye)
   (zg (j6 (zo ⟨rfl,rfl⟩) rfl (vS (VT (pv 0))) (gn 3 zQ.nd)
    (zg (vR (i:=4) zQ.nd rfl (.inl rfl) (MP (ev 3) ei))
   (zg (se 5 zQ.nd (kO kN))
   (zg (af (zo ⟨rfl,rfl⟩) (Qk (ev 5))
    (zg (se 5 zQ.nd (kO kN))
   (zk (j6 (zo ⟨rfl,rfl⟩) rfl (vS (VT (pv 1))) (xl (n:=3) rfl (Yd (gn 6 zQ.nd) (Yd (gn 7 zQ.nd) (Yd (gn 8 zQ.nd) xk VX) VX) VX))
    (zk (qt (eW (yC b) (ev 6) (ev 4))
    (zg (se 9 zQ.nd (zG yO yP (ix b (ev 4) (ev 6)) (ev 8)))
   (zk (qt (TWM.tm (UP (z_ (yC b) (ev 7) (ev 4)) (Kk (qv eN eT (ev 9) (ix b (ev 4) (ev 7)) (qV _)))))
    (zg (aW (yC b) (pv 4) (ev 7) (zu (pv 9)))
   (zk (se 5 zQ.nd (kO kN))))
    z7)))
    z7))))))
   (L4 4 (zk (aW (yC b) (pv 2) (ev 3) (zu (pv 4)))))))))
   (zk (Vn (pv 2)))))
def c5(T:Txt K mg a):yz P w K mg base (CXe P w) 1 a.ZH a.ZL ["self","most"] (t5 a.wq ["most"]):=by
 refine T.cQ.okX bw (λf H Q E h=>by obtain⟨e,d,rfl,b,_⟩:=h;rw[v4,b];rfl) λg A c s H f Q E j h=>?_;obtain⟨e,d,rfl,b,i,k⟩:=h
 match d,b with
 |[v],_=>exact⟨_,j7 (jL (pv 0) (pv 1) rfl),_,rfl,_,rfl,e,a.wq,.none,rfl,T.iQ,T.bM,.inl ⟨i,k⟩⟩
def KD(T:Txt K mg a):yz P w K mg base (CXe P w) 1 a.ZI a.ZM ["self","name"] (t5 a.wo ["name"]):=by
 refine T.cS.okX bx (λf H Q E h=>by obtain⟨e,d,rfl,b,_⟩:=h;rw[v4,b];rfl) λg A c s H f Q E j h=>?_;obtain⟨e,d,rfl,b,i,k⟩:=h
 match d,b with
 |[v],_=>exact⟨_,j7 (jL (pv 0) (pv 1) rfl),_,rfl,_,rfl,e,a.wo,.none,rfl,T.bJ,T.bK,.inl ⟨i,k⟩⟩
def iW(T:Txt K mg a):yz P w K mg base (CXe P w) 1 a.Q_ a.Jc ["self","name"] (t5 a.VD ["name"]):=by
 refine T.iG.okX fI (λf H Q E h=>by obtain⟨e,d,rfl,b,_⟩:=h;rw[v4,b];rfl) λg A c s H f Q E j h=>?_;obtain⟨e,d,rfl,b,i,k⟩:=h
 match d,b with
 |[v],_=>exact⟨_,j7 (jL (pv 0) (pv 1) rfl),_,rfl,_,rfl,e,a.VD,.none,rfl,T.Ai,T.fU,.inl ⟨i,k⟩⟩
def c6(T:Txt K mg a):yz P w K mg base (CXe P w) 1 a.ZJ a.ZN ["self","name"] (t5 a.wt ["name"]):=by
 refine T.cT.okX bz (λf H Q E h=>by obtain⟨e,d,rfl,b,_⟩:=h;rw[v4,b];rfl) λg A c s H f Q E j h=>?_;obtain⟨e,d,rfl,b,i,k⟩:=h
 match d,b with
 |[v],_=>exact⟨_,j7 (jL (pv 0) (pv 1) rfl),_,rfl,_,rfl,e,a.wt,.none,rfl,T.iR,T.bN,.inl ⟨i,k⟩⟩
def UY(T:Txt K mg a):yz P w K mg base (CXe P w) 1 a.ve a.vf ["self","value"] (t5 a.jx ["value"]):=by
 refine T.UU.okX Xw (λf H Q E h=>by obtain⟨e,d,rfl,b,_⟩:=h;rw[v4,b];rfl) λg A c s H f Q E j h=>?_;obtain⟨e,d,rfl,b,i,k⟩:=h
 match d,b with
 |[v],_=>exact⟨_,j7 (jL (pv 0) (pv 1) rfl),_,rfl,_,rfl,e,a.jx,.none,rfl,T.bL,T.Wo,.inl ⟨i,k⟩⟩
def c7(T:Txt K mg a):yz P w K mg base (CXe P w) 1 a.yp a.KN ["origin","ways"] (lsp (WW K a) true [true,true] yp):=
 zp (ms:=Ku) (S':=[1,1,0,0,0,0,0,0]) (Sb:=[]) (Sc:=[]) T.ql.F zX rfl rfl rfl (by decide) λd A c s H E b=>
  (zg (vR (i:=2) zX.nd rfl (.inl rfl) (MP (ev 0) ei))
   (zg (se 3 zX.nd (kO kN))
   (zg (af (zo ⟨rfl,rfl⟩) (Qk (ev 3))
    (zg (se 3 zX.nd (kO kN))
   (zk (j6 (zo ⟨rfl,rfl⟩) rfl (vS (VT (pv 1))) (xl (n:=3) rfl (Yd (gn 4 zX.nd) (Yd (gn 5 zX.nd) (Yd (gn 6 zX.nd) xk VX) VX) VX))
    (zk (qt (eW (yC b) (ev 4) (ev 2))
    (zg (se 7 zX.nd (zG yO yP (ix b (ev 2) (ev 4)) (ev 6)))
   (zk (qt (TWM.tm (UP (z_ (yC b) (ev 5) (ev 2)) (Kk (qv eN eT (ev 7) (ix b (ev 2) (ev 5)) (qV _)))))
    (zg (aW (yC b) (pv 2) (ev 5) (zu (pv 7)))
   (zk (se 3 zX.nd (kO kN))))
    z7)))
    z7))))))
   (zk (Vn (pv 2))))))
def fZ(T:Txt K mg a):yz P w K mg base (CXe P w) 1 a.yb a.YF ["self"] (lsp (WW K a) true [true] yb):=
 zp (ms:=Ws) (S':=[1]) (Sb:=[]) (Sc:=[]) T.fP cN rfl rfl rfl (by decide) λc A b s H E d=>
  (zk (eZ (kA rfl rfl T.vn (za (VP (ev 0) (fa ⟨T.jm,T.Ks⟩ fz)) zf))))
def f6(T:Txt K mg a):yz P w K mg base (CXe P w) 1 a.yG a.YG ["self"] (lsp (WW K a) true [true] yG):=
 zp (ms:=Wt) (S':=[1]) (Sb:=[]) (Sc:=[]) T.fR cO rfl rfl rfl (by decide) λc A b s H E d=>
  (zk (eZ (kA rfl rfl T.vn (za (VP (ev 0) (fa ⟨T.kH,T.jS⟩ fz)) zf))))
def WQ(T:Txt K mg a):yz P w K mg base (CXe P w) 1 a.YE a.YH ["self","name"] (t5 a.YB ["name"]):=by
 refine T.fT.okX cP (λf H Q E h=>by obtain⟨e,d,rfl,b,_⟩:=h;rw[v4,b];rfl) λg A c s H f Q E j h=>?_;obtain⟨e,d,rfl,b,i,k⟩:=h
 match d,b with
 |[v],_=>exact⟨_,j7 (jL (pv 0) (pv 1) rfl),_,rfl,_,rfl,e,a.YB,.none,rfl,T.fW,T.cY,.inl ⟨i,k⟩⟩
def nM(T:Txt K mg a):yz P w K mg base (CXe P w) 1 a.VE a.VF ["self","name"] (t5 a.b_ ["name"]):=by
 refine T.nH.okX iE (λf H Q E h=>by obtain⟨e,d,rfl,b,_⟩:=h;rw[v4,b];rfl) λg A c s H f Q E j h=>?_;obtain⟨e,d,rfl,b,i,k⟩:=h
 match d,b with
 |[v],_=>exact⟨_,j7 (jL (pv 0) (pv 1) rfl),_,rfl,_,rfl,e,a.b_,.none,rfl,T.Fe,T.iS,.inl ⟨i,k⟩⟩
def XM(T:Txt K mg a):yz P w K mg base (CXe P w) 1 a.km a.kn ["self","first","second","third"] (t5 a.ye ["first","second","third"]):=by
 refine T.XE.okX Wf (λp H Q E h=>by obtain⟨e,m,rfl,l,_⟩:=h;rw[v4,l];rfl) λr A j s H p Q E x h=>?_;obtain⟨e,m,rfl,l,n,k⟩:=h
 match m,l with
 |[v,u,z],_=>
  have i:∀{c},H c=none->c≠e:=λh z=>by rw[z,n]at h;cases h
  exact⟨_,VH (jL (pv 0) (pv 1) rfl) (VH (jL (pv 0) (pv 2) rfl) (j7 (jL (pv 0) (pv 3) rfl))),_,rfl,_,rfl,e,a.ye,.none,rfl,T.wW,T.Vw,.inl ⟨n,λc f=>⟨_,rfl,_,rfl,e,a.ye,.none,rfl,T.wW,T.Kc,.inr ⟨c,[(("first":Str),v)],by rw[ze],by rw[zh (i f),ze],i f,(show 1<1000 by decide),⟨_,rfl,_,rfl,e,a.ye,.none,rfl,T.wW,T.Vx,.inr ⟨c,[(("first":Str),v),(("second":Str),u)],by rw[zh (Ne.symm (i f)),ze],by rw[ze];rfl,i f,(show 2<1000 by decide),by
   have q:=k c f;have t:VI ("third":Str) z [(("first":Str),v),(("second":Str),u)]=[(("first":Str),v),(("second":Str),u),(("third":Str),z)]:=rfl;rw[t];have o:∀{A B C D:HO},upd (upd (upd (upd H c A) e B) c C) c D=upd (upd H c D) e B:=λ{A B C D}=>funext λb=>by
    by_cases g:b=c
    .subst g;rw[ze,zh (i f),ze]
    .rw[zh g,zh g];by_cases d:b=e
     .subst d;rw[ze,ze]
     .rw[zh d,zh d,zh g,zh g]
   rw[o];exact q⟩⟩⟩⟩⟩⟩
theorem WR(T:Txt K mg a):∀d,yz P w K mg base (CXe P w) (1+d) a.Uo a.Ut ["rows","left","owners","tried"] (hsp (WW K a) 4 (zY d))
 |0=>G0 rfl
 |d+1=>by
  have F:=WR T d;exact X9 (k:=1+d) (ms:=vx (zY d)) T.yF.F Wg rfl rfl rfl λe A c s H E b=>
  (zH (m_ (S:=[0,0,0,0,0]) (fr:=false) [true,true] (zo ⟨rfl,rfl⟩) rfl (vS (EM.en (ix b (ev 0) (ev 1)))) (fk (i:=4) Wg.nd rfl (.inl rfl))
    (jb (GX (N9 (S:=[0,0,0,0,0]) (fr:=false) [false,false,false,true,true] (z_ (yC b) (ev 4) (ev 3)))
    (zH (pE (yC b) (yN (pv 3)) (yN (pv 4)) (hp (kO kN)))
   (jb (GX (HTW.tm (Po (N9 (S:=[0,0,0,0,0]) (fr:=false) [false,false,true,false,true] (z_ (yC b) (ev 4) (ev 2))) (MD (MF (Vo F b rfl T.yF.g T.yF.k T.yF.b zz (qx (yN (pv 0)) (qx (hp (ix b (ev 2) (ev 4))) (qx (yN (pv 2)) (qx (yN (pv 3)) V_)))) (ke (ke (ke (ke bc)))))))))
    (zH (pE (yC b) (yN (pv 2)) (yN (pv 4)) (yN (pv 1)))
   (jb (X8 (hp (kO kN)))))
    m9)))
    m9)))
   (jb (X8 (hp (kO kN)))))
def iX(T:Txt K mg a):yz P w K mg base (CXe P w) 1 a.qz a.Uu ["name","given"] (lsp (WW K a) true [false,true] qz):=
 zp (ms:=wX) (S':=[0,1,0]) (Sb:=[]) (Sc:=[]) T.jF.F Wh rfl rfl rfl (by decide) λd A c s H E b=>
  (zg (vR (i:=2) Wh.nd rfl (.inl rfl) (Ki (za (zu (pv 0)) zf)))
   (zg (af (zo ⟨rfl,rfl⟩) (eW (yC b) (ix b (ev 2) (g7 XZ X4 ei)) (ev 1))
    (zk (VQ (pv 2) (ix b (ev 1) (ix b (ev 2) (g7 XZ X4 ei))))))
   (zk (Vn (pv 2)))))
def bT(T:Txt K mg a):yz P w K mg base (CXe P w) 1 a.wx a.wy ["self","name"] (t5 a.kl ["name"]):=by
 refine T.bH.okX UT (λf H Q E h=>by obtain⟨e,d,rfl,b,_⟩:=h;rw[v4,b];rfl) λg A c s H f Q E j h=>?_;obtain⟨e,d,rfl,b,i,k⟩:=h
 match d,b with
 |[v],_=>exact⟨_,j7 (jL (pv 0) (pv 1) rfl),_,rfl,_,rfl,e,a.kl,.none,rfl,T.dM,T.UX,.inl ⟨i,k⟩⟩
def iY(T:Txt K mg a):yz P w K mg base (CXe P w) 1 a.Ja a.Jg ["self","origin","goal"] (t5 a.YA ["origin","goal"]):=by
 refine T.iL.okX fL (λp H Q E h=>by obtain⟨e,m,rfl,l,_⟩:=h;rw[v4,l];rfl) λr A i s H p Q E x h=>?_;obtain⟨e,m,rfl,l,n,k⟩:=h
 match m,l with
 |[v,u],_=>
  have j:∀{c},H c=none->c≠e:=λh z=>by rw[z,n]at h;cases h
  exact⟨_,VH (jL (pv 0) (pv 1) rfl) (j7 (jL (pv 0) (pv 2) rfl)),_,rfl,_,rfl,e,a.YA,.none,rfl,T.nK,T.bO,.inl ⟨n,λc g=>⟨_,rfl,_,rfl,e,a.YA,.none,rfl,T.nK,T.fV,.inr ⟨c,[(("origin":Str),v)],by rw[ze],by rw[zh (j g),ze],j g,(show 1<1000 by decide),by
   have q:=k c g;have t:VI ("goal":Str) u [(("origin":Str),v)]=[(("origin":Str),v),(("goal":Str),u)]:=rfl;rw[t];have o:∀{A B C:HO},upd (upd (upd H c A) e B) c C=upd (upd H c C) e B:=λ{A B C}=>funext λb=>by
    by_cases f:b=c
    .subst f;rw[ze,zh (j g),ze]
    .rw[zh f];by_cases d:b=e
     .subst d;rw[ze,ze]
     .rw[zh d,zh d,zh f,zh f]
   rw[o];exact q⟩⟩⟩⟩
def c8(T:Txt K mg a):yz P w K mg base (CXe P w) 1 a.ZK a.ZP ["self","name"] (t5 a.wu ["name"]):=by
 refine T.cW.okX bD (λf H Q E h=>by obtain⟨e,d,rfl,b,_⟩:=h;rw[v4,b];rfl) λg A c s H f Q E j h=>?_;obtain⟨e,d,rfl,b,i,k⟩:=h
 match d,b with
 |[v],_=>exact⟨_,j7 (jL (pv 0) (pv 1) rfl),_,rfl,_,rfl,e,a.wu,.none,rfl,T.iU,T.bP,.inl ⟨i,k⟩⟩
def UZ(T:Txt K mg a):yz P w K mg base (CXe P w) 1 a.zt a.YX ["trip"] (lsp (WW K a) false [true] zt):=
 zp (ms:=YQ) (S':=[1]) (Sb:=[]) (Sc:=[]) T.qi.F Xy rfl rfl rfl (by decide) λd A b s H E c=>
  (zk (yh (Kj (za (ix c (ev 0) (yt (zN (v:=.int 3) rfl T.Vt ⟨_,rfl⟩))) (za (ix c (ev 0) (yt (zN (v:=.int 4) rfl T.Yv ⟨_,rfl⟩))) (za (ix c (ev 0) (yt (zN (v:=.int 0) rfl T.X_ ⟨_,rfl⟩))) zf))))))
def f7(T:Txt K mg a):yz P w K mg base (CXe P w) 1 a.qQ a.W6 ["_law_found","_law_behind_here"] (lsp (WW K a) false [true,true] qQ):=
 zp (ms:=Wu) (S':=[1,1,0,0,0]) (Sb:=[]) (Sc:=[]) T.vw.F kD rfl rfl rfl (by decide) λcdv A outer s H E hr=>
  (zg (qt (aT (Qk (hX rfl T.qy (ev 0) (aG rfl T.vn PyProof.Rows.Boot.«list» (v:=.ty "list") rfl) rfl ⟨⟨trivial,T.kT⟩,trivial⟩)))
    (zk (yh (kO kN)))
    z7)
   (zg (vR (i:=2) kD.nd rfl (.inl rfl) Ye)
   (zg (j6 (zo ⟨rfl,rfl⟩) rfl (vS (VT (pv 0))) (gn 3 kD.nd)
    (zg (qt (TWM.tm (UP (aT (Qk (hX rfl T.qy (ev 3) (aG rfl T.vn PyProof.Rows.Boot.«list» (v:=.ty "list") rfl) rfl ⟨⟨trivial,T.kT⟩,trivial⟩))) (Kk (Gk hr.units (ev 3) (FM.em (Ki zf))))))
    (zk (yh (kO kN)))
    z7)
   (zk (j6 (zo ⟨rfl,rfl⟩) rfl (Xk rfl T.QG (za (jB rfl T.wL (za (ev 3) zf)) zf)) (gn 4 kD.nd)
    (zg (qt (TWM.tm (UP (aT (Qk (hX rfl T.qy (ix hr (ev 3) (ev 4)) (aG rfl T.De PyProof.Rows.Boot.«str» (v:=.ty "str") rfl) rfl ⟨⟨trivial,T.JV⟩,trivial⟩))) (UP (z_ (yC hr) (ix hr (ev 3) (ev 4)) (ev 1)) (Kk (eW (yC hr) (ix hr (ev 3) (ev 4)) (ev 2))))))
    (zk (yh (kO kN)))
    z7)
   (zg (qt (TWM.tm (o_ (qv rT su (ev 4) ei (qV _)) (mT (z_ (yC hr) (ix hr (ev 3) (ev 4)) (ix hr (ev 1) (ix hr (ev 3) (zG dv dC (ev 4) ei)))))))
    (zk (yh (kO kN)))
    z7)
   (zk (aW (yC hr) (pv 2) (ix hr (ev 3) (ev 4)) (kO kN)))))))))
   (zk (yh (LK hr.units (jB rfl T.wL (za (ev 2) zf)) (jB rfl T.wL (za (ev 1) zf))))))))
def f9(T:Txt K mg a):yz P w K mg base (CXe P w) 1 a.qR a.W7 ["_law_behind_here","_law_name"] (lsp (WW K a) true [true,true] qR):=
 zp (ms:=Wv) (S':=[1,1,0,0,0]) (Sb:=[]) (Sc:=[]) T.qO.F kE rfl rfl rfl (by decide) λd A c s H E b=>
  (zg (vR (i:=2) kE.nd rfl (.inl rfl) Ye)
   (zg (vR (i:=3) kE.nd rfl (.inl rfl) (kA rfl rfl T.vn (za (ix b (ev 0) (ev 1)) zf)))
   (zg (af (zo ⟨rfl,rfl⟩) (Cr b.units (ev 3) (FM.em (Ki zf)))
    (zg (G4 (i:=3) (j:=4) kE.nd rfl (.inl rfl) (pv 3))
   (zk (qt (z_ (yC b) (ev 4) (ev 2))
    (zg (aW (yC b) (pv 2) (ev 4) (kO kN))
   (zk (xh (pv 3) (ix b (ev 0) (ev 4)))))
    z7))))
   (zk (Vn (pv 2))))))
def An(T:Txt K mg a):yz P w K mg base (CXe P w) 1 a.ZY a.lM ["_law_one","_law_other","_law_near"] (lsp (WW K a) false [true,true,true] ZY):=
 zp (ms:=iV) (S':=[1,1,1]) (Sb:=[]) (Sc:=[]) T.Wn.F sV rfl rfl rfl (by decide) λd A c s H E b=>
  (zk (yh (Ew (O2 (yC b) (ix b (ev 1) ei) (ev 2)) (Eu (g8 FJ Gf (zG yO yP (ix b (ev 0) ei) (ix b (ev 2) (ix b (ev 1) ei))) (ix b (ev 1) ei) (qV _))))))
def WT(T:Txt K mg a):yz P w K mg base (CXe P w) 2 a.qb a.WZ ["_law_cell_here"] (lsp (WW K a) false [true] qb):=
 zp (ms:=Ww) (S':=[1,0]) (Sb:=[]) (Sc:=[]) T.jQ.F Kn rfl rfl rfl (by decide) λd A c s H E b=>
  (zg (se 1 Kn.nd (ec (yH T) b T.yd zz (za (ev 0) (za (EM.weak ei) zf))))
   (zg (qt (Gk b.units (zG z5 z6 (ev 1) ei) ei)
    (zk (yh (zG yO yP ei (zG z5 z6 (zG vN vO (ev 1) ei) ei))))
    z7)
   (zg (qt (Gk b.units (zG z5 z6 (ev 1) ei) ei)
    (zk (yh (zG yO yP ei (zG z5 z6 (zG vN vO (ev 1) ei) ei))))
    z7)
   (zk (yh (ix b (FM.em (Ki (za ei (za ei (za ei zf))))) (zG z5 z6 (zG vN vO (ev 1) ei) ei)))))))
def dS(T:Txt K mg a):yz P w K mg base (CXe P w) 2 a.jG a.d9 ["_law_cell_here","_law_k"] (lsp (WW K a) false [true,true] jG):=
 zp (ms:=JW) (S':=[1,1,0,0,0,0,0,0,0]) (Sb:=[]) (Sc:=[]) T.ZW.F y9 rfl rfl rfl (by decide) λd A c s H E b=>
  (zg (se 2 y9.nd (uO D9))
   (zg (se 3 y9.nd (uO D9))
   (zg (j6 (zo ⟨rfl,rfl⟩) rfl (Xk rfl T.QG (za ei zf)) (gn 4 y9.nd)
    (zk (se 3 y9.nd (zG yO yP (ev 3) (ix b (ev 2) (zG z5 z6 (ec (yH T) b T.yd zz (za (ev 0) (za (EM.weak (zG yO yP ei (ev 4))) zf))) ei))))))
   (zg (se 5 y9.nd (zG z5 z6 (ec (yH T) b T.yd zz (za (ev 0) (za (EM.weak ei) zf))) ei))
   (zg (se 6 y9.nd (zG z5 z6 (ec (yH T) b T.yd zz (za (ev 0) (za (EM.weak ei) zf))) (zG yO yP (ev 5) ei)))
   (zg (se 7 y9.nd (zG yO yP (zG z5 z6 (ec (yH T) b T.yd zz (za (ev 0) (za (EM.weak ei) zf))) ei) (ev 1)))
   (zg (se 8 y9.nd (zG yO yP (ix b (ev 2) (zG vN vO (ev 7) ei)) (ix b (ev 2) (zG z5 z6 (ev 7) ei))))
   (zk (yh (zG yO yP (zG yO yP (zG yO yP (JI (ev 3) Vm (vQ (ev 6))) (ev 8)) (JI (ev 3) (vQ (ev 6)) (vQ (ev 5)))) (zG aR aS (JI (ev 3) (vQ ei) Vm) (zG z5 z6 (ev 1) ei))))))))))))
def sZ(T:Txt K mg a):yz P w K mg base (CXe P w) 2 a.vJ a.d_ ["_law_name","_law_cell_here","_law_places","_law_lengths_here","_law_ahead"] (lsp (WW K a) false [false,true,true,true,true] vJ):=
 zp (ms:=dN) (S':=[0,1,1,1,1,0,0,0,0,0,0]) (Sb:=[]) (Sc:=[]) T.JT.F y_ rfl rfl rfl (by decide) λd A c s H E b=>
  (zg (se 5 y_.nd (ec (yH T) b T.yd zz (za (ev 1) (za (EM.weak ei) zf))))
   (zg (se 6 y_.nd (ix b (ev 2) (zG z5 z6 (ec (yH T) b T.yd zz (za (ev 1) (za (EM.weak ei) zf))) (jB rfl T.wL (za (ev 2) zf)))))
   (zg (se 7 y_.nd (ix b (ev 2) (zG z5 z6 (ec (yH T) b T.yd zz (za (ev 1) (za (EM.weak ei) zf))) (jB rfl T.wL (za (ev 2) zf)))))
   (zg (qt (z_ (yC b) (ev 7) (ix b (ev 3) (ev 6)))
    (zk (se 7 y_.nd (zu (pv 6))))
    z7)
   (zg (se 8 y_.nd (ix b (FM.em (Ki (za (zG z5 z6 (zG vN vO (ev 5) ei) ei) (za (zG z5 z6 (zG vN vO (ev 5) ei) ei) zf)))) (zG z5 z6 (ev 5) ei)))
   (zg (qt (TWM.tm (o_ (Cr b.units (ev 4) (FM.em (Ki zf))) (o_ (qv rT su (zG z5 z6 (zG vN vO (ev 5) ei) ei) ei (qV _)) (mT (eW (yC b) (ev 6) (ix b (ev 3) (ix b (ix b (ev 4) (g7 XZ X4 ei)) ei)))))))
    (zg (se 9 y_.nd (zG dv dC (zG yO yP (ix b (ix b (ev 4) (g7 XZ X4 ei)) ei) (ix b (ix b (ev 3) (ix b (ix b (ev 4) (g7 XZ X4 ei)) ei)) (ev 6))) (zG z5 z6 (zG vN vO (ev 5) ei) ei)))
   (zk (qt (qv FJ Gf (ev 9) ei (qV _))
    (zk (se 8 y_.nd (zu (pv 9))))
    z7)))
    z7)
   (zg (se 10 y_.nd (zG yO yP (ix b (ix b (ev 3) (ev 6)) (ev 7)) (ix b (FM.em (Ki (za ei (za (zG z5 z6 (zG vN vO (ev 5) ei) ei) zf)))) (zG z5 z6 (zG vN vO (ev 5) ei) ei))))
   (zk (yh (Kj (za (zu (pv 0)) (za (zu (pv 6)) (za (zu (pv 7)) (za (zu (pv 8)) (za (zG yO yP (ev 8) (LW rfl rfl T.Hf (za (ev 10) (za ei zf)))) (za (zG z5 z6 (ec (yH T) b T.yd zz (za (ev 1) (za (EM.weak ei) zf))) ei) zf))))))))))))))))
def nN(T:Txt K mg a):yz P w K mg base (CXe P w) 2 a.ki a.cf ["_law_found","_law_behind_here"] (lsp (WW K a) false [true,true] ki):=
 zp (ms:=bR) (S':=[1,1,0,0,0]) (Sb:=[]) (Sc:=[]) T.Yx.F wQ rfl rfl rfl (by decide) λcdv A outer s H E hr=>
  (zg (qt (aT (Qk (hX rfl T.qy (ev 0) (aG rfl T.vn PyProof.Rows.Boot.«list» (v:=.ty "list") rfl) rfl ⟨⟨trivial,T.kT⟩,trivial⟩)))
    (zk (yh (kO kN)))
    z7)
   (zg (j6 (zo ⟨rfl,rfl⟩) rfl (Xk rfl T.QG (za (jB rfl T.wL (za (ev 0) zf)) zf)) (gn 2 wQ.nd)
    (zg (qt (TWM.tm (UP (aT (Qk (hX rfl T.qy (ix hr (ev 0) (ev 2)) (aG rfl T.De PyProof.Rows.Boot.«str» (v:=.ty "str") rfl) rfl ⟨⟨trivial,T.JV⟩,trivial⟩))) (UP (z_ (yC hr) (ix hr (ev 0) (ev 2)) (ev 1)) (Kk (eW (yC hr) (ix hr (ev 0) (ev 2)) (JI (ev 0) Vm (vQ (ev 2))))))))
    (zk (yh (kO kN)))
    z7)
   (zg (se 3 wQ.nd (FM.em (vP (f9 T) (rm hr) rfl T.qO.g T.qO.k T.qO.b zz (za (ev 1) (za (EM.weak (ix hr (ev 0) (ev 2))) zf)))))
   (zk (j6 (zo ⟨rfl,rfl⟩) rfl (vS (VT (pv 0))) (gn 4 wQ.nd)
    (zk (qt (eW (yC hr) (ev 4) (ev 3))
    (zk (yh (kO kN)))
    z7)))))))
   (zk (yh (kO kN)))))
def Q6(T:Txt K mg a):yz P w K mg base (CXe P w) 2 a.yX a.Uw ["_law_trips_here","_law_lengths_here"] (lsp (WW K a) true [true,true] yX):=
 zp (ms:=Uc) (S':=[1,1,0,0]) (Sb:=[]) (Sc:=[]) T.zZ.F Yu rfl rfl rfl (by decide) λd A c s H E b=>
  (zg (vR (i:=2) Yu.nd rfl (.inl rfl) Ye)
   (zg (j6 (zo ⟨rfl,rfl⟩) rfl (vS (VT (pv 0))) (q_ (i:=3) Yu.nd rfl (by first|exact .inl rfl|exact .inr rfl))
    (zk (aW (yC b) (pv 2) (ix b (ev 3) ei) (FM.em (sF ["_law_other","_law_one","_law_lengths_here"] [none,some 3,some 1] [0,0,1] rfl (by kernel_rfl) (Xj (ev 0)) (λ_=>(q_ (i:=0) (show List.Nodup (["_law_other","_law_one","_law_lengths_here"]:List Str)from by decide +kernel) rfl (.inl rfl))) (λ_=>(dD (Qk (ec (An T) b T.Wn aO (za (ev 1) (za (ev 0) (za (EM.weak (ix b (ev 2) (ix b (ev 1) ei))) zf))))))) (λ_=>(ix b (ev 0) ei)))))))
   (zk (Vn (pv 2)))))
def s_(T:Txt K mg a):yz P w K mg base (CXe P w) 3 a.vL a.d8 ["_law_script","_law_cells","_law_places"] (lsp (WW K a) true [true,true,true] vL):=
 zp (ms:=dO) (S':=[1,1,1,0,0,0,0,0,0]) (Sb:=[]) (Sc:=[]) T.vG.F jv rfl rfl rfl (by decide) λd A c s H E b=>
  (zg (se 3 jv.nd (ec (yH T) b T.yd zz (za (EM.weak (ec (Z1 T) b T.jE zz (za (ev 0) (za (EM.weak ei) zf)))) (za (EM.weak ei) zf))))
   (zg (vR (i:=4) jv.nd rfl (.inl rfl) (Ki zf))
   (zg (qt (qv rT su (zG z5 z6 (ev 3) ei) ei (qV _))
    (zk (j6 (zo ⟨rfl,rfl⟩) rfl (Xk rfl T.QG (za (jB rfl T.wL (za (ev 2) zf)) zf)) (gn 5 jv.nd)
    (zg (se 6 jv.nd (ec (WT T) b T.jQ zz (za (EM.weak (ec (yH T) b T.yd zz (za (EM.weak (ec (Z1 T) b T.jE zz (za (ev 0) (za (EM.weak ei) zf)))) (za (EM.weak (zG yO yP ei (ev 5))) zf)))) zf)))
   (zk (VQ (pv 4) (Kj (za (ix b (ev 2) (ev 5)) (za (ix b (ev 2) (zG z5 z6 (zG yO yP (ev 5) ei) (jB rfl T.wL (za (ev 2) zf)))) (za (zu (pv 6)) zf)))))))))
    z7)
   (zg (j6 (zo ⟨rfl,rfl⟩) rfl (vS (VT (pv 1))) (gn 7 jv.nd)
    (zg (se 8 jv.nd (ix b (ev 2) (zG z5 z6 (ec (yH T) b T.yd zz (za (ev 7) (za (EM.weak ei) zf))) (jB rfl T.wL (za (ev 2) zf)))))
   (zk (VQ (pv 4) (Kj (za (zu (pv 8)) (za (ix b (ev 2) (zG z5 z6 (ec (yH T) b T.yd zz (za (ev 7) (za (EM.weak ei) zf))) (jB rfl T.wL (za (ev 2) zf)))) (za (ec (WT T) b T.jQ zz (za (ev 7) zf)) zf))))))))
   (zk (Vn (pv 4)))))))
def nO(T:Txt K mg a):yz P w K mg base (CXe P w) 3 a.kj a.cb ["_law_script","_law_cells","_law_places","_law_lengths_here"] (lsp (WW K a) true [true,true,true,true] kj):=
 zp (ms:=bS) (S':=[1,1,1,1,0,0,0]) (Sb:=[]) (Sc:=[]) T.kh.F wO rfl rfl rfl (by decide) λd A c s H E b=>
  (zg (vR (i:=4) wO.nd rfl (.inl rfl) (Ki zf))
   (zg (j6 (zo ⟨rfl,rfl⟩) rfl (Xk rfl T.QG (za (jB rfl T.wL (za (ev 1) zf)) zf)) (gn 5 wO.nd)
    (zg (se 6 wO.nd (ec (dS T) b T.ZW zz (za (EM.weak (ec (Z1 T) b T.jE zz (za (ev 0) (za (EM.weak ei) zf)))) (za (ev 5) zf))))
   (zk (VQ (pv 4) (ec (sZ T) b T.JT zz (za (zu (pv 6)) (za (EM.weak (ix b (ev 1) (ev 5))) (za (ev 2) (za (ev 3) (za (ev 4) zf))))))))))
   (zk (Vn (pv 4)))))
def kX(T:Txt K mg a):yz P w K mg base (CXe P w) 3 a.zA a.Uq ["things","most"] (lsp (WW K a) false [true,false] zA):=
 zp (ms:=kU) (S':=[1,0]) (Sb:=[]) (Sc:=[]) T.yW.F fH rfl rfl rfl (by decide) λd A b s H E e=>
  (zk (qt (qv rT su (jB rfl T.wL (za (ev 0) zf)) (ev 1) (qV _))
    (zk (qI (c:=3) rfl T.Ah T.iQ (c5 T) (rm e) rfl T.bE T.cR (za (zu (pv 1)) zf)))
    z7))
def c9(T:Txt K mg a):yz P w K mg base (CXe P w) 3 a.qo a.KI ["name"] (lsp (WW K a) false [false] qo):=
 zp (ms:=Kx) (S':=[0,0]) (Sb:=[]) (Sc:=[]) T.kF.F QC rfl rfl rfl (by decide) λe A b s H E d=>
  (zg (qt (TWM.tm (UP (qv eN eT (jB rfl T.wL (za (ev 0) zf)) ei (qV _)) (Kk (qv rT su (jB rfl T.wL (za (ev 0) zf)) (yt (zN (v:=.int 12) rfl T.ZC ⟨_,rfl⟩)) (qV _)))))
    (zk (qI (c:=1) rfl T.iP T.bJ (KD T) (rm d) rfl T.Wl T.Kq (za (zu (pv 0)) zf)))
    z7)
   (zg (j6 (zo ⟨rfl,rfl⟩) rfl (MU (ev 0)) (gn 1 QC.nd)
    (zk (qt (z_ (yC d) (ev 1) (uO (zN (v:=.str "abcdefghijklmnopqrstuvwxyz0123456789") rfl T.QD ⟨_,rfl⟩)))
    (zk (qI (c:=1) rfl T.iP T.bJ (KD T) (rm d) rfl T.Wl T.Kq (za (zu (pv 0)) zf)))
    z7)))
   (zk (yh (zu (pv 0))))))
def vC(T:Txt K mg a):yz P w K mg base (CXe P w) 3 a.ym a.W2 ["name","places"] (lsp (WW K a) false [false,true] ym):=
 zp (ms:=WE) (S':=[0,1]) (Sb:=[]) (Sc:=[]) T.qa.F cM rfl rfl rfl (by decide) λe A b s H E d=>
  (zk (qt (z_ (yC d) (ev 0) (ev 1))
    (zk (qI (c:=5) rfl T.Aj T.iR (c6 T) (rm d) rfl T.bF T.cU (za (zu (pv 0)) zf)))
    z7))
def jt(T:Txt K mg a):yz P w K mg base (CXe P w) 3 a.zE a.YV ["value","least"] (lsp (WW K a) false [false,true] zE):=
 zp (ms:=YS) (S':=[0,1]) (Sb:=[]) (Sc:=[]) T.yg.F Xx rfl rfl rfl (by decide) λd A b s H E e=>
  (zg (qt (TWM.tm (UP (qv eN eT (ev 0) (ev 1) (qV _)) (Kk (qv rT su (ev 0) (yt (zN (v:=.int 1000000000) rfl T.nB ⟨_,rfl⟩)) (qV _)))))
    (zk (qI (c:=2) rfl T.nJ T.bL (UY T) (rm e) rfl T.Vv T.UW (za (zu (pv 0)) zf)))
    z7)
   (zk (yh (zu (pv 0)))))
def Uj(T:Txt K mg a):yz P w K mg base (CXe P w) 3 a.z0 a.Je ["self","name"] (lsp (WW K a) false [true,false] z0):=
 zp (ms:=Ug) (S':=[1,0]) (Sb:=[]) (Sc:=[]) T.iK fK rfl rfl rfl (by decide) λe A b s H E d=>
  (zg (qt (z_ (yC d) (ev 1) (VP (ev 0) (fa ⟨T.jm,T.qj⟩ fz)))
    (zk (qI (c:=7) rfl T.pR T.fW (WQ T) (rm d) rfl T.aw T.Wm (za (zu (pv 1)) zf)))
    z7)
   (zk (yh (ix d (VP (ev 0) (fa ⟨T.jm,T.qj⟩ fz)) (ev 1)))))
def f_(T:Txt K mg a):yz P w K mg base (CXe P w) 3 a.qS a.W3 ["order"] (lsp (WW K a) false [true] qS):=
 zp (ms:=vy) (S':=[1,0,0]) (Sb:=[]) (Sc:=[]) T.vt.F ZA rfl rfl rfl (by decide) λe A b s H E d=>
  (zk (fe rfl ⟨rfl,rfl⟩ (λE=>(pv 0)) (λE=>(gn 1 ZA.nd))
    (λE=>(zk (j6 (zo ⟨rfl,rfl⟩) rfl (vS (EM.en (ix d (ev 0) (ev 1)))) (gn 2 ZA.nd)
    (zk (qt (z_ (yC d) (ev 2) (ev 0))
    (zk (qI (c:=7) rfl T.pR T.fW (WQ T) (rm d) rfl T.aw T.Wm (za (zu (pv 2)) zf)))
    z7)))))))
def gc(T:Txt K mg a):yz P w K mg base (CXe P w) 3 a.qT a.W4 ["order"] (lsp (WW K a) false [true] qT):=
 zp (ms:=vz) (S':=[1,0]) (Sb:=[]) (Sc:=[]) T.vv.F Ko rfl rfl rfl (by decide) λe A b s H E d=>
  (zk (fe rfl ⟨rfl,rfl⟩ (λE=>(pv 0)) (λE=>(gn 1 Ko.nd))
    (λE=>(zk (qt (eW (yC d) (ev 1) (ix d (ev 0) (ev 1)))
    (zk (qI (c:=8) rfl T.Nf T.Fe (nM T) (rm d) rfl T.Af T.nI (za (zu (pv 1)) zf)))
    z7)))))
def U0(T:Txt K mg a):yz P w K mg base (CXe P w) 3 a.yD a.YW ["order","first"] (lsp (WW K a) false [true,false] yD):=
 zp (ms:=jq) (S':=[1,0,0,0,0]) (Sb:=[]) (Sc:=[]) T.jj.F qL rfl rfl rfl (by decide) λe A d s H E b=>
  (zg (se 2 qL.nd (FM.em (JM rfl rfl T.Ua (za (FM.em (sF ["name"] [none] [0] rfl (by kernel_rfl) (Xj (ix b (ev 0) (ev 1))) (λ_=>(q_ (i:=0) (show List.Nodup (["name"]:List Str)from by decide +kernel) rfl (.inl rfl))) (λ_=>X5) (λ_=>(Kj (za (zu (pv 0)) (za (kO kN) zf)))))) zf))))
   (zk (j6 (zo ⟨rfl,rfl⟩) rfl (vS (EM.en (ix b (ev 0) (ev 1)))) (gn 3 qL.nd)
    (zk (j6 (zo ⟨rfl,rfl⟩) rfl (vS (EM.en (ix b (ev 0) (ev 3)))) (gn 4 qL.nd)
    (zk (qt (z_ (yC b) (ev 4) (ev 2))
    (zk (qI (c:=9) rfl T.iT T.wW (XM T) (rm b) rfl T.QF T.XF (za (zu (pv 1)) (za (zu (pv 3)) (za (zu (pv 4)) zf)))))
    z7)))))))
def Ze(T:Txt K mg a):yz P w K mg base (CXe P w) 4 a.zL a.Zk ["name","had"] (lsp (WW K a) false [false,true] zL):=
 zp (ms:=w_) (S':=[0,1]) (Sb:=[]) (Sc:=[]) T.yE.F Vs rfl rfl rfl (by decide) λe A b s H E d=>
  (zg (yL (ec (c9 T) d T.kF zz (za (zu (pv 0)) zf)))
   (zg (qt (eW (yC d) (ev 0) (ev 1))
    (zk (qI (c:=4) rfl T.Hh T.Ai (iW T) (rm d) rfl T.nD T.iH (za (zu (pv 0)) zf)))
    z7)
   (zk (yh (zu (pv 0))))))
def iZ(T:Txt K mg a):yz P w K mg base (CXe P w) 4 a.jH a.Ur ["places","ways"] (lsp (WW K a) false [true,true] jH):=
 zp (ms:=Uh) (S':=[1,1,0,0,0]) (Sb:=[]) (Sc:=[]) T.wU.F vq rfl rfl rfl (by decide) λd A b s H E c=>
  (zk (j6 (zo ⟨rfl,rfl⟩) rfl (vS (VT (pv 1))) (xl (n:=3) rfl (Yd (gn 2 vq.nd) (Yd (gn 3 vq.nd) (Yd (gn 4 vq.nd) xk VX) VX) VX))
    (zg (yL (ec (vC T) c T.qa zz (za (zu (pv 2)) (za (ev 0) zf))))
   (zg (yL (ec (vC T) c T.qa zz (za (zu (pv 3)) (za (ev 0) zf))))
   (zk (yL (ec (jt T) c T.yg zz (za (zu (pv 4)) (za (EM.weak ei) zf)))))))))
def KG(T:Txt K mg a):yz P w K mg base (CXe P w) 4 a.zS a.ZO ["self","origin","goal"] (lsp (WW K a) false [true,false,false] zS):=
 zp (ms:=Kz) (S':=[1,0,0]) (Sb:=[]) (Sc:=[]) T.cV bA rfl rfl rfl (by decide) λd A c s H E b=>
  (zg (yL (ec (vC T) b T.qa zz (za (zu (pv 1)) (za (EM.weak (VP (ev 0) (fa ⟨T.kH,T.jS⟩ fz))) zf))))
   (zg (yL (ec (vC T) b T.qa zz (za (zu (pv 2)) (za (EM.weak (VP (ev 0) (fa ⟨T.kH,T.jS⟩ fz))) zf))))
   (zk (yh (MV (yC b) (ix b (VP (ev 0) (fa ⟨T.kH,T.YM⟩ fz)) (ev 1)) (ev 2) ⟨rfl,rfl,rfl,rfl⟩)))))
def Uk(T:Txt K mg a):yz P w K mg base (CXe P w) 4 a.zW a.Us ["rows"] (lsp (WW K a) false [true] zW):=
 zp (ms:=kW) (S':=[1,0]) (Sb:=[]) (Sc:=[]) T.kR.F We rfl rfl rfl (by decide) λd A b s H E c=>
  (zg (yL (ec (kX T) c T.yW zz (za (ev 0) (za (yt (zN (v:=.int 40) rfl T.wR ⟨_,rfl⟩)) zf))))
   (zk (fe rfl ⟨rfl,rfl⟩ (λE=>(pv 0)) (λE=>(gn 1 We.nd))
    (λE=>(zk (yL (ec (kX T) c T.yW zz (za (EM.weak (ix c (ev 0) (ev 1))) (za (yt (zN (v:=.int 40) rfl T.wR ⟨_,rfl⟩)) zf)))))))))
def c_(T:Txt K mg a):yz P w K mg base (CXe P w) 5 a.qp a.KJ ["places"] (lsp (WW K a) false [true] qp):=
 zp (ms:=KA) (S':=[1,2,0]) (Sb:=[]) (Sc:=[]) T.kG.F vX rfl rfl rfl (by decide) λd A b s H E c=>
  (zg (vR (i:=1) vX.nd rfl (.inl rfl) Ye)
   (zk (j6 (zo ⟨rfl,rfl⟩) rfl (vS (VT (pv 0))) (gn 2 vX.nd)
    (zg (yL (ec (Ze T) c T.yE zz (za (zu (pv 2)) (za (ev 1) zf))))
   (zk (aW (yC c) (pv 1) (ev 2) (kO kN)))))))
def PF(T:Txt K mg a):yz P w K mg base (CXe P w) 5 a.sX a.NP ["table","one","other"] (lsp (WW K a) false [true,false,false] sX):=
 zp (ms:=Ng) (S':=[1,0,0,0,0,0]) (Sb:=[]) (Sc:=[]) T.Dg.F pN rfl rfl rfl (by decide) λd A c s H E b=>
  (zg (se 3 pN.nd (eY (fr:=false) (ws:=[false]) (tab:=[(12,z0)]) (ev 0) (al ⟨_,_,_,_,T.jm,T.Wq,Uj T,(rm b),T.Ub⟩) zz (za (zu (pv 1)) zf)))
   (zg (se 4 pN.nd (eY (fr:=false) (ws:=[false]) (tab:=[(12,z0)]) (ev 0) (al ⟨_,_,_,_,T.jm,T.Wq,Uj T,(rm b),T.Ub⟩) zz (za (zu (pv 2)) zf)))
   (zg (se 5 pN.nd (eY (fr:=false) (ws:=[false,false]) (tab:=[(13,zS)]) (VP (ev 0) (fa ⟨T.jm,T.Kt⟩ fz)) (al ⟨_,_,_,_,T.kH,T.QH,KG T,(rm b),T.Kr⟩) zz (za (ix b (ev 3) (yt (zN (v:=.int 2) rfl T.iF ⟨_,rfl⟩))) (za (ix b (ev 4) (yt (zN (v:=.int 1) rfl T.Wk ⟨_,rfl⟩))) zf))))
   (zg (qt (qv Ec Et (ev 5) (o8 oC) (qV _))
    (zk (yh (o8 oC)))
    z7)
   (zk (yh (zG dv dC (zG dv dC (ix b (ev 4) (yt (zN (v:=.int 3) rfl T.Vt ⟨_,rfl⟩))) (ix b (ev 3) (yt (zN (v:=.int 4) rfl T.Yv ⟨_,rfl⟩)))) (ev 5))))))))
def WU(T:Txt K mg a):yz P w K mg base (CXe P w) 5 a.yc a.W5 ["order"] (lsp (WW K a) false [true] yc):=
 zp (ms:=vA) (S':=[1,0]) (Sb:=[]) (Sc:=[]) T.jR.F Kp rfl rfl rfl (by decide) λd A c s H E b=>
  (zg (yL (ec (Uk T) b T.kR zz (za (ev 0) zf)))
   (zg (yL (ec (f_ T) b T.vt zz (za (ev 0) zf)))
   (zg (yL (ec (gc T) b T.vv zz (za (ev 0) zf)))
   (zk (fe rfl ⟨rfl,rfl⟩ (λE=>(pv 0)) (λE=>(gn 1 Kp.nd))
    (λE=>(zk (yL (ec (U0 T) b T.jj zz (za (ev 0) (za (zu (pv 1)) zf)))))))))))
def i4(T:Txt K mg a):yz P w K mg base (CXe P w) 5 a.qB a.Uv ["roads","trip","had"] (lsp (WW K a) false [true,true,true] qB):=
 zp (ms:=Ui) (S':=[1,1,1,0]) (Sb:=[]) (Sc:=[]) T.wV.F Wi rfl rfl rfl (by decide) λe A d s H E b=>
  (zg (yL (ec (Ze T) b T.yE zz (za (ix b (ev 1) (yt (zN (v:=.int 0) rfl T.X_ ⟨_,rfl⟩))) (za (ev 2) zf))))
   (zg (se 3 Wi.nd (eY (fr:=false) (ws:=[false,false]) (tab:=[(13,zS)]) (ev 0) (al ⟨_,_,_,_,T.kH,T.QH,KG T,(rm b),T.Kr⟩) zz (za (ix b (ev 1) (yt (zN (v:=.int 1) rfl T.Wk ⟨_,rfl⟩))) (za (ix b (ev 1) (yt (zN (v:=.int 2) rfl T.iF ⟨_,rfl⟩))) zf))))
   (zg (yL (ec (jt T) b T.yg zz (za (ix b (ev 1) (yt (zN (v:=.int 3) rfl T.Vt ⟨_,rfl⟩))) (za (EM.weak ei) zf))))
   (zg (yL (ec (jt T) b T.yg zz (za (ix b (ev 1) (yt (zN (v:=.int 4) rfl T.Yv ⟨_,rfl⟩))) (za (EM.weak ei) zf))))
   (zg (yL (ec (jt T) b T.yg zz (za (ix b (ev 1) (yt (zN (v:=.int 5) rfl T.nC ⟨_,rfl⟩))) (za (EM.weak ei) zf))))
   (zg (qt (qv FJ Gf (ix b (ev 1) (yt (zN (v:=.int 4) rfl T.Yv ⟨_,rfl⟩))) (ix b (ev 1) (yt (zN (v:=.int 3) rfl T.Vt ⟨_,rfl⟩))) (qV _))
    (zk (qI (c:=10) rfl T.sW T.dM (bT T) (rm b) rfl T.Xz T.bI (za (ix b (ev 1) (yt (zN (v:=.int 0) rfl T.X_ ⟨_,rfl⟩))) zf)))
    z7)
   (zg (qt (qv Ec Et (ev 3) (o8 oC) (qV _))
    (zk (qI (c:=6) rfl T.Hi T.nK (iY T) (rm b) rfl T.nE T.iM (za (ix b (ev 1) (yt (zN (v:=.int 1) rfl T.Wk ⟨_,rfl⟩))) (za (ix b (ev 1) (yt (zN (v:=.int 2) rfl T.iF ⟨_,rfl⟩))) zf))))
    z7)
   (zk (qt (qv eN eT (zG dv dC (ix b (ev 1) (yt (zN (v:=.int 4) rfl T.Yv ⟨_,rfl⟩))) (ix b (ev 1) (yt (zN (v:=.int 3) rfl T.Vt ⟨_,rfl⟩)))) (ev 3) (qV _))
    (zk (qI (c:=11) rfl T.Ak T.iU (c8 T) (rm b) rfl T.bG T.cX (za (ix b (ev 1) (yt (zN (v:=.int 0) rfl T.X_ ⟨_,rfl⟩))) zf)))
    z7)))))))))
def i5(T:Txt K mg a):yz P w K mg base (CXe P w) 6 a.qC a.Jd ["self","places","ways"] (N4 (WW K a) 13 [true,true] qC):=
 xt (ms:=Za) (S':=[2,1,1]) (Sb:=[]) (Sc:=[]) (n:=2) T.iI fJ rfl rfl rfl (by decide) rfl λd A c s H E b=>
  (zg (yL (ec (kX T) b T.yW zz (za (ev 1) (za (yt (zN (v:=.int 12) rfl T.Yw ⟨_,rfl⟩)) zf))))
   (zg (yL (ec (kX T) b T.yW zz (za (ev 2) (za (yt (zN (v:=.int 60) rfl T.Vu ⟨_,rfl⟩)) zf))))
   (zg (yL (ec (c_ T) b T.kG zz (za (ev 1) zf)))
   (zg (yL (ec (iZ T) b T.wU zz (za (ev 1) (za (ev 2) zf))))
   (zg (xi (i:=0) (pv 0) (FM.em (kA rfl rfl T.vn (za (ev 1) zf))) (fa ⟨T.kH,T.jS⟩ fz))
   (zg (xi (i:=0) (pv 0) (FM.em (kA rfl rfl T.vn (za (ev 2) zf))) (fa ⟨T.kH,T.fX⟩ fz))
   (zk (xi (i:=0) (pv 0) (FM.em (JM rfl rfl T.Ua (za (FM.em (sF ["place","ways"] [none,some 2] [0,1] rfl (by kernel_rfl) (Xj (ev 1)) (λ_=>(q_ (i:=0) (show List.Nodup (["place","ways"]:List Str)from by decide +kernel) rfl (.inl rfl))) (λ_=>X5) (λ_=>(Kj (za (zu (pv 0)) (za (FM.em (vP (c7 T) (rm b) rfl T.ql.g T.ql.k T.ql.b aO (za (ev 0) (za (ev 1) zf)))) zf)))))) zf))) (fa ⟨T.kH,T.YM⟩ fz)))))))))
def Dj(T:Txt K mg a):yz P w K mg base (CXe P w) 6 a.JX a.rM ["table","one","other"] (lsp (WW K a) false [true,false,false] JX):=
 zp (ms:=pS) (S':=[1,0,0,0]) (Sb:=[]) (Sc:=[]) T.ax.F iD rfl rfl rfl (by decide) λc A b s H E d=>
  (zg (se 3 iD.nd (ec (PF T) d T.Dg zz (za (ev 0) (za (zu (pv 1)) (za (zu (pv 2)) zf)))))
   (zk (yh (Ew (g8 FK Gg (ev 3) (o8 oC) (qV _)) (Eu (g8 OB OY (ev 3) ei (qV _)))))))
def gd(T:Txt K mg a):yz P w K mg base (CXe P w) 6 a.Jb a.Jh ["self","roads","trips"] (hsp (WW K a) 3 qU):=
 X9 (ms:=vB) T.iN Wj rfl rfl rfl λd A c s H E b=>
  (zH (Xp (hp (ec (kX T) b T.yW zz (za (ev 2) (za (yt (zN (v:=.int 40) rfl T.QE ⟨_,rfl⟩)) zf)))))
   (zH (xW (yN (pv 0)) (yN (pv 1)) (fa ⟨T.jm,T.Kt⟩ fz))
   (zH (xW (yN (pv 0)) (hf Ye) (fa ⟨T.jm,T.qj⟩ fz))
   (zH (m_ (S:=[0,0,0,0]) (fr:=false) [false,false,true] (zo ⟨rfl,rfl⟩) rfl (vS (EM.en (zu (pv 2)))) (fk (i:=3) Wj.nd rfl (.inl rfl))
    (zH (Xp (hp (ec (i4 T) b T.wV zz (za (ev 1) (za (ev 3) (za (EM.weak (VP (ev 0) (fa ⟨T.jm,T.qj⟩ fz))) zf))))))
   (jb (pE (yC b) (MJ (yN (pv 0)) (fa ⟨T.jm,T.qj⟩ fz)) (hp (ix b (ev 3) (yt (zN (v:=.int 0) rfl T.X_ ⟨_,rfl⟩)))) (yN (pv 3))))))
   (jb (xW (yN (pv 0)) (hp (FM.em (sF ["trip"] [none] [0] rfl (by kernel_rfl) (Xj (FM.em (C5 (wk:=true) (UZ T) (rm b) T.qi.b rfl T.fO rfl T.qi.g (za (ev 2) zf)))) (λ_=>(q_ (i:=0) (show List.Nodup (["trip"]:List Str)from by decide +kernel) rfl (.inl rfl))) (λ_=>X5) (λ_=>(ix b (ev 0) (yt (zN (v:=.int 0) rfl T.X_ ⟨_,rfl⟩))))))) (fa ⟨T.jm,T.Ks⟩ fz)))))))
def bU(T:Txt K mg a):yz P w K mg base (CXe P w) 7 a.yU a.Jf ["table","one","names"] (lsp (WW K a) true [true,false,true] yU):=
 zp (ms:=Q1) (S':=[1,0,1]) (Sb:=[]) (Sc:=[]) T.yR.F US rfl rfl rfl (by decide) λc A b s H E d=>
  (zk (eZ (sF ["other","table","one"] [none,some 0,some 1] [0,1,0] rfl (by kernel_rfl) (Xj (ev 2)) (λ_=>(q_ (i:=0) (show List.Nodup (["other","table","one"]:List Str)from by decide +kernel) rfl (.inl rfl))) (λ_=>(dD (Qk (ec (Dj T) d T.ax aO (za (ev 1) (za (zu (pv 2)) (za (zu (pv 0)) zf))))))) (λ_=>(zu (pv 0))))))
def Hj(T:Txt K mg a):yz P w K mg base (CXe P w) 8 a.XJ a.Bx ["table"] (lsp (WW K a) true [true] XJ):=
 zp (ms:=Al) (S':=[1,0]) (Sb:=[]) (Sc:=[]) T.XB.F pO rfl rfl rfl (by decide) λf A b s H E c=>
  (zg (EE (i:=1) pO.nd rfl (by first|exact .inl rfl|exact .inr rfl) (FM.em (Cv (tab:=[(12,yb),(13,yG)]) (ev 0) (λK h ⟨q,d,g,e⟩=>by
    simp only[List.mem_cons,List.not_mem_nil,or_false]at d;rcases d with rfl|rfl<;>subst g e
    .exact⟨_,_,_,_,T.jm,T.cZ,fZ T,(rm c),T.fQ⟩
    .exact⟨_,_,_,_,T.kH,T.c4,f6 T,(rm c),T.fS⟩) zz)))
   (zk (eZ (JM rfl rfl T.Ua (za (FM.em (sF ["one","table","names"] [none,some 0,some 1] [0,1,0] rfl (by kernel_rfl) (Xj (ev 1)) (λ_=>(q_ (i:=0) (show List.Nodup (["one","table","names"]:List Str)from by decide +kernel) rfl (.inl rfl))) (λ_=>X5) (λ_=>(Kj (za (zu (pv 0)) (za (FM.em (vP (bU T) (rm c) rfl T.yR.g T.yR.k T.yR.b aO (za (ev 1) (za (zu (pv 0)) (za (ev 2) zf))))) zf)))))) zf)))))
def Zg(T:Txt K mg a):yz P w K mg base (CXe P w) 47 a.Z3 a.Z4 ["rows"] (hsp (WW K a) 1 zM):=
 X9 (ms:=qu) T.zI.F jP rfl rfl rfl λd A b s H E c=>
  (zH (Xp (hp (ec (Uk T) c T.kR zz (za (ev 0) zf))))
   (zH (hse 1 jP.nd (hf Ye))
   (zH (GZ rfl ⟨rfl,rfl⟩ (λE=>(pv 0)) (λE=>(fk (i:=2) jP.nd rfl (.inl rfl)))
    (λE=>(jb (Xp (Vo (WR T 45) (rm c) rfl T.yF.g T.yF.k T.yF.b zz (qx (yN (pv 0)) (qx (yN (pv 2)) (qx (yN (pv 1)) (qx (hf Ye) V_)))) (ke (ke (ke (ke bc)))))))))
   (jb (X8 (yN (pv 1)))))))
def nP(T:Txt K mg a):yz P w K mg base (CXe P w) 48 a.d6 a.ee ["rows"] (hsp (WW K a) 1 wc):=
 X9 (ms:=Yy) T.vH.F bB rfl rfl rfl λd A b s H E c=>
  (zH (X7 (i:=1) bB.nd rfl (by first|exact .inl rfl|exact .inr rfl) (Vo (Zg T) (rm c) rfl T.zI.g T.zI.k T.zI.b zz (qx (yN (pv 0)) V_) (ke bc)))
   (jb (X8 (hf (JM rfl rfl T.Ua (za (FM.em (ig ["right","owners"] [none,some 1] [0,0] rfl (by kernel_rfl) (pv 1) (λ_=>(q_ (i:=0) (show List.Nodup (["right","owners"]:List Str)from by decide +kernel) rfl (.inl rfl))) (λ_=>X5) (λ_=>(Kj (za (ix c (ev 1) (ev 0)) (za (zu (pv 0)) zf)))))) zf))))))
def tf(T:Txt K mg a):yz P w K mg base (CXe P w) 48 a.lJ a.lL ["rows"] (hsp (WW K a) 1 Z0):=
 X9 (ms:=ZZ) T.ZX.F qM rfl rfl rfl λd A c s H E b=>
  (zH (X7 (i:=1) qM.nd rfl (by first|exact .inl rfl|exact .inr rfl) (Vo (Zg T) (rm b) rfl T.zI.g T.zI.k T.zI.b zz (qx (yN (pv 0)) V_) (ke bc)))
   (zH (X7 (i:=2) qM.nd rfl (by first|exact .inl rfl|exact .inr rfl) (hf (JM rfl rfl T.Ua (za (FM.em (ig ["right","owners"] [none,some 1] [0,0] rfl (by kernel_rfl) (pv 1) (λ_=>(q_ (i:=0) (show List.Nodup (["right","owners"]:List Str)from by decide +kernel) rfl (.inl rfl))) (λ_=>X5) (λ_=>(Kj (za (ix b (ev 1) (ev 0)) (za (kO kN) zf)))))) zf))))
   (zH (MN (S:=a31) (j:=3) [true,false,true] ["left","served"] [none,some 2] [0,0] qM.nd rfl rfl rfl (by kernel_rfl) (pv 0) (λ_=>(q_ (i:=0) (show List.Nodup (["left","served"]:List Str)from by decide +kernel) rfl (.inl rfl))) (λ_=>(dD (z_ (yC b) (ev 0) (ev 1)))) (λ_=>(zu (pv 0))))
   (zH (hse 4 qM.nd (hf Ye))
   (zH (hse 5 qM.nd (hp ei))
   (zH (CQ (zo ⟨rfl,rfl⟩) (N9 (S:=a31) (fr:=false) [false,false,false,true,false,true] (qv eN eT (ev 5) (jB rfl T.wL (za (ev 3) zf)) (qV _)))
    (zH (hse 6 qM.nd (hp (ix b (ev 3) (ev 5))))
   (zH (m_ (S:=a31) (fr:=false) [true,false,false,false,false,false,true] (zo ⟨rfl,rfl⟩) rfl (vS (EM.en (ix b (ev 0) (ev 6)))) (fk (i:=7) qM.nd rfl (.inl rfl))
    (jb (GX (N9 (S:=a31) (fr:=false) [false,false,false,false,true,false,false,true] (z_ (yC b) (ev 7) (ev 4)))
    (zH (pE (yC b) (yN (pv 4)) (yN (pv 7)) (hp (kO kN)))
   (jb (xN (yN (pv 3)) (hp (ix b (ev 1) (ev 7))))))
    m9)))
   (jb (GY (i:=5) qM.nd rfl (.inl rfl) (hp ei) IL)))))
   (jb (X8 (EW (qx (yN (pv 3)) (qx (hf (kA rfl rfl T.vn (za (ev 4) zf))) V_)))))))))))
def Ao(T:Txt K mg a):yz P w K mg base (CXe P w) 49 a.rL a.rN ["order"] (hsp (WW K a) 1 Q5):=
 X9 (ms:=WM) T.JU.F bC rfl rfl rfl λd A c s H E b=>
  (zH (Xp (hp (ec (WU T) b T.jR zz (za (ev 0) zf))))
   (zH (X7 (i:=1) bC.nd rfl (by first|exact .inl rfl|exact .inr rfl) (Vo (nP T) (rm b) rfl T.vH.g T.vH.k T.vH.b zz (qx (yN (pv 0)) V_) (ke bc)))
   (zH (X7 (i:=2) bC.nd rfl (by first|exact .inl rfl|exact .inr rfl) (hf (JM rfl rfl T.Ua (za (FM.em (ig ["name","given"] [none,some 1] [0,0] rfl (by kernel_rfl) (pv 1) (λ_=>(q_ (i:=0) (show List.Nodup (["name","given"]:List Str)from by decide +kernel) rfl (.inl rfl))) (λ_=>X5) (λ_=>(Kj (za (ix b (ev 1) (ev 0)) (za (kO kN) zf)))))) zf))))
   (jb (X8 (Hc (S:=[1,1,1]) [true,true,true] ["name","followers","given"] [none,some 2,some 1] [0,1,1] rfl (by kernel_rfl) (pv 0) (λ_=>(q_ (i:=0) (show List.Nodup (["name","followers","given"]:List Str)from by decide +kernel) rfl (.inl rfl))) (λ_=>(dD (z_ (yC b) (ev 0) (ev 1)))) (λ_=>(vP (iX T) (rm b) rfl T.jF.g T.jF.k T.jF.b aO (za (zu (pv 0)) (za (ev 2) zf))))))))))
def Dk(T:Txt K mg a):yz P w K mg base (CXe P w) 49 a.Bv a.By ["rows"] (hsp (WW K a) 1 WN):=
 X9 (ms:=ay) T.XG.F pP rfl rfl rfl λd A c s H E b=>
  (zH (X7 (i:=1) pP.nd rfl (by first|exact .inl rfl|exact .inr rfl) (Vo (tf T) (rm b) rfl T.ZX.g T.ZX.k T.ZX.b zz (qx (yN (pv 0)) V_) (ke bc)))
   (jb (X8 (EW (qx (hf (ig ["left","found"] [none,some 1] [0,0] rfl (by kernel_rfl) (pv 0) (λ_=>(q_ (i:=0) (show List.Nodup (["left","found"]:List Str)from by decide +kernel) rfl (.inl rfl))) (λ_=>(dD (z_ (yC b) (ev 0) (ix b (ev 1) ei)))) (λ_=>(zu (pv 0))))) (qx (Pq (yC b) (yN (pv 1)) (hp ei)) V_))))))
def Dl(T:Txt K mg a):yz P w K mg base (CXe P w) 50 a.Bw a.Bz ["order"] (hsp (WW K a) 1 WO):=
 X9 (ms:=az) T.XH.F pQ rfl rfl rfl λd A c s H E b=>
  (zH (Xp (hp (ec (WU T) b T.jR zz (za (ev 0) zf))))
   (zH (X7 (i:=1) pQ.nd rfl (by first|exact .inl rfl|exact .inr rfl) (Vo (Dk T) (rm b) rfl T.XG.g T.XG.k T.XG.b zz (qx (yN (pv 0)) V_) (ke bc)))
   (jb (X8 (hf (ig ["name","covered"] [none,some 1] [0,0] rfl (by kernel_rfl) (pv 0) (λ_=>(q_ (i:=0) (show List.Nodup (["name","covered"]:List Str)from by decide +kernel) rfl (.inl rfl))) (λ_=>(dD (TWM.tm (o_ (z_ (yC b) (ev 0) (ix b (ev 1) ei)) (mT (z_ (yC b) (ev 0) (ix b (ev 1) ei))))))) (λ_=>(zu (pv 0)))))))))
def XN(T:Txt K mg a):yz P w K mg base (CXe P w) 51 a.jJ a.eh ["_law_roads","_law_trips_here","_law_behind_here"] (lsp (WW K a) false [false,false,true] jJ):=
 zp (ms:=dR) (S':=[0,0,1,0,0,0]) (Sb:=[]) (Sc:=[]) T.vI.F Yt rfl rfl rfl (by decide) λe A d s H E b=>
  (zg (se 3 Yt.nd (FM.em (vP (Hj T) (rm b) rfl T.XB.g T.XB.k T.XB.b zz (za (EM.weak (C8 (c:=12) T.Dh (gd T) (rm b) rfl T.nF T.iO zz (za (zu (pv 0)) (za (zu (pv 1)) zf)) rfl rfl)) zf))))
   (zg (se 4 Yt.nd (mX (fr:=false) (xP (ws:=[true]) (Ao T) rfl) (rm b) rfl T.JU.g T.JU.k T.JU.b zz (za (ev 3) zf)))
   (zg (se 5 Yt.nd (mX (fr:=false) (xP (ws:=[true]) (Dl T) rfl) (rm b) rfl T.XH.g T.XH.k T.XH.b zz (za (ev 3) zf)))
   (zg (qt (TWM.tm (UP (aT (Qk (ec (f7 T) b T.vw zz (za (ev 4) (za (ev 2) zf))))) (Kk (aT (Qk (ec (nN T) b T.Yx zz (za (ev 5) (za (ev 2) zf))))))))
    (zk (yh (g7 XZ X4 ei)))
    z7)
   (zg (qt (Cr b.units (jB rfl T.wL (za (ev 5) zf)) (jB rfl T.wL (za (ev 4) zf)))
    (zk (yh (g7 XZ X4 ei)))
    z7)
   (zk (yh (jB rfl T.wL (za (ev 4) zf)))))))))
def PH(T:Txt K mg a):yz P w K mg base (CXe P w) 52 a.Am a.NQ ["_law_script"] (lsp (WW K a) false [true] Am):=
 zp (ms:=Nh) (S':=[1,0,0,0,0,0,0,0,0,0,0]) (Sb:=[]) (Sc:=[]) T.Ag.F YL rfl rfl rfl (by decide) λe A d s H E b=>
  (zg (se 1 YL.nd (zG yO yP ei (zG z5 z6 (ec (yH T) b T.yd zz (za (EM.weak (ec (Z1 T) b T.jE zz (za (ev 0) (za (EM.weak ei) zf)))) (za (EM.weak ei) zf))) ei)))
   (zg (O5 (i:=2) ["_law_k","_law_script"] [none,some 0] [0,1] YL.nd rfl rfl rfl (by kernel_rfl) (Xk rfl T.QG (za (ev 1) zf)) (λ_=>(q_ (i:=0) (show List.Nodup (["_law_k","_law_script"]:List Str)from by decide +kernel) rfl (.inl rfl))) (λ_=>X5) (λ_=>(ec (dS T) b T.ZW aO (za (EM.weak (ec (Z1 T) b T.jE aO (za (ev 1) (za (EM.weak ei) zf)))) (za (ev 0) zf)))))
   (zg (se 3 YL.nd (JI (ev 0) (vQ ei) (vQ ei)))
   (zg (se 4 YL.nd (FM.em (vP (s_ T) (rm b) rfl T.vG.g T.vG.k T.vG.b zz (za (ev 0) (za (EM.weak (FM.em (iC (ev 3) Vm Vm (vQ ei)))) (za (ev 2) zf))))))
   (zg (se 5 YL.nd (FM.em (vP (fY T) (rm b) rfl T.qN.g T.qN.k T.qN.b zz (za (ev 2) (za (ev 4) zf)))))
   (zg (se 6 YL.nd (FM.em (vP (nO T) (rm b) rfl T.kh.g T.kh.k T.kh.b zz (za (ev 0) (za (EM.weak (FM.em (iC (ev 3) (vQ ei) Vm (vQ ei)))) (za (ev 2) (za (ev 5) zf)))))))
   (zg (se 7 YL.nd (FM.em (Gr (c:=13) T.Di (i5 T) (rm b) rfl T.nG T.iJ zz (za (EM.weak (FM.em (kA rfl rfl T.vn (za (ev 2) zf)))) (za (EM.weak (FM.em (kA rfl rfl T.vn (za (ev 4) zf)))) zf)))))
   (zg (se 8 YL.nd (FM.em (kA rfl rfl T.vn (za (ev 6) zf))))
   (zg (se 1 YL.nd (ec (XN T) b T.vI zz (za (zu (pv 7)) (za (zu (pv 8)) (za (EM.weak (FM.em (vP (Q6 T) (rm b) rfl T.zZ.g T.zZ.k T.zZ.b zz (za (ev 6) (za (ev 5) zf))))) zf)))))
   (zg (qt (TWM.tm (UP (qv eN eT (ev 1) ei (qV _)) (Kk (Cr b.units (ev 8) (ev 6)))))
    (zk (yh (kO kN)))
    z7)
   (zg (se 9 YL.nd (JI (ev 6) Vm (vQ (g7 XZ X4 ei))))
   (zg (se 10 YL.nd (ec (XN T) b T.vI zz (za (zu (pv 7)) (za (FM.em (kA rfl rfl T.vn (za (ev 9) zf))) (za (EM.weak (FM.em (vP (Q6 T) (rm b) rfl T.zZ.g T.zZ.k T.zZ.b zz (za (ev 9) (za (ev 5) zf))))) zf)))))
   (zg (qt (TWM.tm (UP (qv eN eT (ev 10) ei (qV _)) (Kk (z_ (yC b) (zG dv dC (ev 1) (ev 10)) (FM.em (Ki (za ei (za (LX rfl rfl T.Hg (za ei (za (jB rfl T.wL (za (ev 6) zf)) zf))) zf))))))))
    (zk (yh (kO kN)))
    z7)
   (zk (yh (LK b.units (ec (XN T) b T.vI zz (za (zu (pv 7)) (za (FM.em (m6 rfl rfl T.vn rfl T.XA (za (ev 6) zf))) (za (EM.weak (FM.em (vP (Q6 T) (rm b) rfl T.zZ.g T.zZ.k T.zZ.b zz (za (ev 6) (za (ev 5) zf))))) zf)))) (ev 1)))))))))))))))))
end
def zw(c:a ρ=.ok x)(d:b ρ=.ok y)(h:f x y=.ok z):mOp f a b ρ=.ok z:=by unfold mOp;rw[c,okb,d,okb,h]
def zx(h:ms ρ=.ok xs)(a:f xs=.ok x):zj f ms ρ=.ok x:=by unfold zj;rw[h,okb,a]
def zB(b:a ρ=.ok x)(h:ms ρ=.ok xs):zc a ms ρ=.ok (x::xs):=by unfold zc;rw[b,okb,h,okb]
def Dm(h:ms ρ=.ok xs)(a:xs.length<=sizeLine):mr ms ρ=.ok (.l xs):=by unfold mr;rw[h,okb,if_pos a]
def bV(b:a ρ=.ok (.i x))(c:0<n):mOp qf a (mC (.i n)) ρ=.ok (.i (x % n)):=zw b rfl (X6 c)
def PJ(b:a ρ=.ok (.i x))(d:0<n)(c:n<1073741824):mOp Yb a (mC (.i n)) ρ=.ok (.i (x / n)):=zw b rfl (EG d c)
def gf(h:ρ[i]?=some (some (.i x)))(b:0<d)(a:d<1073741824)(c:0<n):mOp qf (mOp Yb (zb i) (mC (.i d))) (mC (.i n)) ρ=.ok (.i (x / d % n)):=
 bV (PJ (by unfold zb;rw[h]) b a) c
def i6(b:a ρ=.ok (.i x)):z9 (mOp (cG false) a (mC (.i n))) ρ=.ok (decide (x=n)):=by unfold z9;rw[zw (z:=.b (decide (x=n))) b rfl (xw.trans (by rw[a1u]))];rfl
def Ul(b:a ρ=.ok (.i x)):z9 (mOp pGt a (mC (.i n))) ρ=.ok (decide (x>n)):=by unfold z9;rw[zw (z:=.b (decide (x>n))) b rfl rfl];rfl
def Um(c:a ρ=.ok x)(d:b ρ=.ok y):o9 a b ρ=.ok (x&&y):=by
 unfold o9;rw[c,okb];cases x
 .rfl
 .rw[d];rfl
def yn(h:c ρ=.ok x):sIf c a b ρ=if x=true then a ρ else b ρ:=by unfold sIf;rw[h,okb]
def Q7(h:m ρ=.ok x):kQ m ρ=.ok (.rt x):=by unfold kQ;rw[h,okb]
def Ap(b:a ρ=.ok (.i x)):z9 (mOp pLt a (mC (.i n))) ρ=.ok (decide (x<n)):=by unfold z9;rw[zw (z:=.b (decide (x<n))) b rfl rfl];rfl
def yj(h:m ρ=.ok (.b b)):z9 m ρ=.ok b:=by unfold z9;rw[h];rfl
def XQ(c:a ρ=.ok x)(d:b ρ=.ok y):mOr a b ρ=.ok (x||y):=by
 unfold mOr;rw[c,okb];cases x
 .rw[d];rfl
 .rfl
def pX(b:a ρ=.ok x):uS a ρ=.ok (!x):=by unfold uS;rw[b,okb]
def Aq(c:a ρ=.ok (.b x))(d:b ρ=.ok (.b y)):g9 a b ρ=.ok (.b (x&&y)):=by
 unfold g9;rw[c,okb];show(Out.ok x).bind _=_;rw[okb];cases x
 .rfl
 .rw[d];rfl
def sz5{z:Str}(h:z.length<=100000):z.length<=sizeLine:=T9 h (by decide)
def signs_at(h:m ρ=.ok (.s z)):iu m ρ=.ok (z.cps.toList.map λc=>PV.s ⟨#[c]⟩):=by unfold iu;rw[h];rfl
def tw(h:ms ρ=.ok xs)(a:xs.length<=sizeLine):my ms ρ=.ok (.t xs):=by unfold my;rw[h,okb,if_pos a]
def nQ(c:a ρ=.ok false):o9 a b ρ=.ok false:=by unfold o9;rw[c];rfl
def qF(h:p ρ G=.nx ρ' G')(a:q ρ' G'=o):wJ p q ρ G=o:=by unfold wJ;rw[h];exact a
def PL(a:Kb bs ρ=some r)(b:m r=.ok x):hP bs m ρ G=.ok (.v x) G:=by unfold hP;rw[a];dsimp only;rw[b]
def Sm:Km G bs []=some []:=by cases bs<;>rfl
def Sn(h:Km G bs ρ=some r):Km G (false::bs) (a::ρ)=some (none::r):=by show(Km G bs ρ).map _=_;rw[h];rfl
def PM(a:je G 8 x=some y)(h:Km G bs ρ=some r):Km G (true::bs) (some x::ρ)=some (some y::r):=by show(je G 8 x).bind _=_;rw[a,h];rfl
def Ni(a:0<=i)(b:i<xs.length):pIx (.l xs) (.i i)=.ok (xs[i.toNat]'(by omega)):=by rw[L_,ph a,T7 (by omega)];rfl
def oM{xs:SA}{i:Int}(a:0<=i)(b:i<xs.length):∃y∈xs,pIx (.l (xs.map .s)) (.i i)=.ok (.s y):=
 ⟨xs[i.toNat]'(by omega),a1x _,by rw[Ni a (by rw[f8];exact b),a11]⟩
def pY{xs:Th}{i:Int}(a:0<=i)(b:i<xs.length):∃y∈xs,pIx (.l (xs.map .i)) (.i i)=.ok (.i y):=
 ⟨xs[i.toNat]'(by omega),a1x _,by rw[Ni a (by rw[f8];exact b),a11]⟩
def any_map{b c d:Type}[DecidableEq b]{f:c->d}{kvs:List (b×c)}{k:b}:(kvs.map λp=>(p.1,f p.2)).any (λa=>decide (a.1=k))=kvs.any (λa=>decide (a.1=k)):=by rw[List.any_map];rfl
def J8{b a c:Type}[DecidableEq b]{f:a->c}{kvs:List (b×a)}{k:b}{x:a}:dput (kvs.map λp=>(p.1,f p.2)) k (f x)=(dput kvs k x).map λp=>(p.1,f p.2):=by
 unfold dput;rw[any_map];split
 .rw[a0a,a0a];refine a1c λp _=>?_;show(if p.1=k then(p.1,f x)else(p.1,f p.2))=((if p.1=k then(p.1,x)else p).1,f (if p.1=k then(p.1,x)else p).2);split<;>rfl
 .rw[a0n];rfl
theorem jf{b c d:Type}[DecidableEq b]{f:c->d}:∀{a:List (b×c)}{k:b},zm (a.map λp=>(p.1,f p.2)) k=(zm a k).map f
 |[],_=>rfl
 | (j,u)::a,k=>by rw[T6,zV,zV,jf];split<;>rfl
abbrev Wy:=Str×Str×Int
abbrev Ht:=List (Key×Int)
abbrev sk(z:Str):Key:=Sum.inr z
def wP(w:Wy):PV:=.t [.s w.1,.s w.2.1,.i w.2.2]
def hD(h:Ht):List (Key×PV):=h.map λp=>(p.1,.i p.2)
def dU:zm (hD h) k=(zm h k).map .i:=jf
def Fi:dput (hD h) k (.i v)=hD (dput h k v):=J8
def Fj:(hD h).length=h.length:=f8 _
def rlx(u:Ht×Bool)(w:Wy):Ht×Bool:=
 match zm u.1 (sk w.1)with
 |none=>u
 |some x=>match zm u.1 (sk w.2.1)with
  |none=>(dput u.1 (sk w.2.1) (x+w.2.2),true)
  |some y=>if x+w.2.2<y then(dput u.1 (sk w.2.1) (x+w.2.2),true)else u
def Hk(h:Ht):Nat:=(h.map λp=>p.2.toNat).sum
def Sup(V:List Wy)(o:Str)(h:Ht):Prop:=∀g y,zm h g=some y->g=sk o\/∃w∈V,sk w.2.1=g/\∃x,zm h (sk w.1)=some x/\x+w.2.2<=y
structure pZ(V:List Wy)(K:SQ)(o:Str)(h:Ht):Prop where
 sup:Sup V o h
 nd:(h.map (·.1)).Nodup
 sub:∀k∈h.map (·.1),k∈K
 pos:∀k x,zm h k=some x->0<=x
 own:zm h (sk o)=some 0
def aA(h:Ht)(w:Wy):Prop:=∀x,zm h (sk w.1)=some x->∃y,zm h (sk w.2.1)=some y/\y<=x+w.2.2
def Hl(K:SQ)(h' h:Ht):Prop:=Prod.Lex (·<·) (·<·) (K.length-h'.length,Hk h') (K.length-h.length,Hk h)
theorem Z2{c:Type}[DecidableEq c]:∀{a b:List c},a.Nodup->(∀x∈a,x∈b)->a.length<=b.length
 |[],b,_,_=>a0y _
 |x::a,b,i,h=>by have d:=h x u8;obtain⟨j,g⟩:=a0t.mp i;have:=Z2 (a:=a) (b:=b.erase x) g λy f=>(a3y (show y≠x from λe=>j (e▸f))).mpr (h y (S0 _ f));rw[a2Y d]at this;have l:0<b.length:=a3f d;rw[v4];omega
def pZ.len{V:List Wy}{K:SQ}{o:Str}{h:Ht}(i:pZ V K o h):h.length<=K.length:=by
 have:=Z2 i.nd i.sub
 rwa [f8]at this
theorem Ar{k:Tw}{v:Int}:∀{h:Ht}{y:Int},(h.map (·.1)).Nodup->zm h k=some y->v.toNat<y.toNat->Hk (h.map λa=>if a.1=k then(a.1,v)else a)<Hk h
 |[],y,_,e,_=>by cases e
 | (j,x)::h,y,g,e,b=>by
  rw[zV]at e;obtain⟨f,d⟩:=a0t.mp g;by_cases c:j=k
  .subst c;rw[if_pos rfl]at e;cases e;have:(h.map λa=>if a.1=j then(a.1,v)else a)=h:=by
    conv=>rhs;rw[<- List.map_id h]
    refine a1c λp hp=>?_;rw[if_neg (show ¬p.1=j from λz=>f (a0i.mpr ⟨p,hp,z⟩))];rfl
   unfold Hk;rw[T6,this,if_pos rfl,T6,T6,a2x,a2x];exact Nat.add_lt_add_right b _
  .rw[if_neg c]at e;have:=Ar d e b;unfold Hk at this ⊢;rw[T6,if_neg c,T6,T6,a2x,a2x];exact Nat.add_lt_add_left this _
def Sup.put{V:List Wy}{o:Str}{h:Ht}{w:Wy}{x:Int}(i:Sup V o h)(m:w∈V)(q:1<=w.2.2)(d:zm h (sk w.1)=some x)(j:∀y,zm h (sk w.2.1)=some y->x+w.2.2<y):Sup V o (dput h (sk w.2.1) (x+w.2.2)):=by
 have l:¬sk w.2.1=sk w.1:=λc=>by rw[<- c]at d;have:=j x d;omega
 intro g y e;rw[ya]at e;split at e
 .rename_i c;cases e;refine .inr ⟨w,m,c,x,?_,a3Q _⟩;rw[ya,if_neg l];exact d
 .rcases i g y e with r|⟨p,a,n,f,b,le⟩
  .exact .inl r
  .refine .inr ⟨p,a,n,?_⟩;rw[ya];split
   .rename_i c;rw[<- c]at b;have:=j f b;exact⟨_,rfl,by omega⟩
   .exact⟨f,b,le⟩
def As{V:List Wy}{K:SQ}{o:Str}{u:Ht×Bool}{w:Wy}(i:pZ V K o u.1)(m:w∈V)(q:sk w.2.1∈K)(l:1<=w.2.2):pZ V K o (rlx u w).1/\((rlx u w=u/\aA u.1 w)\/((rlx u w).2=true/\Hl K (rlx u w).1 u.1)):=by
 unfold rlx;cases g:zm u.1 (sk w.1)with
 |none=>exact⟨i,.inl ⟨rfl,λx e=>by rw[g]at e;cases e⟩⟩
 |some x=>
  have s:=i.pos _ _ g;dsimp only;cases b:zm u.1 (sk w.2.1)with
  |none=>
   have h:pZ V K o (dput u.1 (sk w.2.1) (x+w.2.2)):=by
    refine⟨i.sup.put m l g (λy e=>by rw[b]at e;cases e),JR i.nd,λk d=>?_,λk y e=>?_,?_⟩
    .rw[Wb,b]at d;rcases a0j.mp d with d|d
     .exact i.sub k d
     .rw[T2.mp d];exact q
    .rw[ya]at e;split at e
     .cases e;omega
     .exact i.pos k y e
    .rw[ya];split
     .rename_i z;rw[z]at b;rw[i.own]at b;cases b
     .exact i.own
   refine⟨h,.inr ⟨rfl,.left _ _ ?_⟩⟩;have r:=h.len;have:(dput u.1 (sk w.2.1) (x+w.2.2)).length=u.1.length+1:=by have:=a0D List.length (Wb (a:=u.1) (k:=sk w.2.1) (v:=x+w.2.2));rw[b,f8]at this;rw[this];simp
   dsimp only at r ⊢;omega
  |some y=>
   dsimp only;by_cases c:x+w.2.2<y
   .rw[if_pos c];have d:(zm u.1 (sk w.2.1)).isSome=true:=by rw[b];rfl
    have h:pZ V K o (dput u.1 (sk w.2.1) (x+w.2.2)):=by
     refine⟨i.sup.put m l g (λz e=>by rw[b]at e;cases e;exact c),JR i.nd,λk f=>?_,λk z e=>?_,?_⟩
     .rw[Wb,if_pos d]at f;exact i.sub k f
     .rw[ya]at e;split at e
      .cases e;omega
      .exact i.pos k z e
     .rw[ya];split
      .rename_i z;rw[z,i.own]at b;cases b;omega
      .exact i.own
    refine⟨h,.inr ⟨rfl,?_⟩⟩;have n:dput u.1 (sk w.2.1) (x+w.2.2)=u.1.map λj=>if j.1=sk w.2.1 then(j.1,x+w.2.2)else j:=by unfold dput;rw[jh,if_pos d]
    have p:=Ar (v:=x+w.2.2) i.nd b (by omega);unfold Hl;dsimp only;rw[n,f8];exact .right _ p
   .rw[if_neg c];exact⟨i,.inl ⟨rfl,λz e=>by rw[g]at e;cases e;exact⟨y,b,by omega⟩⟩⟩
def tx(e:Hl K a b)(d:Hl K b c):Hl K a c:=by unfold Hl at *;rw[Prod.lex_def]at *;dsimp only at *;omega
theorem p0{V:List Wy}{K:SQ}{o:Str}:∀{W:List Wy}{u:Ht×Bool},pZ V K o u.1->(∀w∈W,w∈V/\sk w.2.1∈K/\1<=w.2.2)->pZ V K o (W.foldl rlx u).1/\((W.foldl rlx u=u/\∀w∈W,aA u.1 w)\/((W.foldl rlx u).2=true/\Hl K (W.foldl rlx u).1 u.1))
 |[],u,i,_=>⟨i,.inl ⟨rfl,λw h=>by cases h⟩⟩
 |w::W,u,i,d=>by
  obtain⟨v,g,m⟩:=d w u8;obtain⟨s,r⟩:=As (u:=u) (w:=w) i v g m;obtain⟨q,a⟩:=p0 (W:=W) (u:=rlx u w) s λc h=>d c (S0 _ h);refine⟨q,?_⟩;rw[a08];rcases r with⟨t,j⟩|⟨l,e⟩
  .rw[t]at a ⊢;rcases a with⟨b,f⟩|a
   .refine .inl ⟨b,λc h=>?_⟩;rcases T1.mp h with rfl|h
    .exact j
    .exact f c h
   .exact .inr a
  .rcases a with⟨b,f⟩|⟨n,p⟩
   .rw[b];exact .inr ⟨l,e⟩
   .exact .inr ⟨n,tx p e⟩
def Ke(r:TK):Prop:=∃a b c d,r=[a,b,c,d]
abbrev hSt(o:Str)(W:List Wy)(h:Ht)(b:Bool)(r:TK):Sto:=[some (.s o),some (.l (W.map wP)),some (.d (hD h)),some (.b b)]++r
def dW(b:a ρ=.ok (.s z))(hi:zb i ρ=.ok (.d (hD h))):z9 (mOp (pIn n) a (zb i)) ρ=.ok (xor n (zm h (sk z)).isSome):=by refine yj (zw b hi ?_);show Out.ok (PV.b (xor n (zm (hD h) (sk z)).isSome))=_;rw[dU,a1q]
def i8(c:a ρ=.ok (.s z))(hi:zb i ρ=.ok (.d (hD h)))(b:zm h (sk z)=some x):mOp pIx (zb i) a ρ=.ok (.i x):=by refine zw hi c ?_;show k7 (zm (hD h) (sk z))=_;rw[dU,b];rfl
def Fm(c:a ρ=.ok true):mOr a b ρ=.ok true:=by unfold mOr;rw[c];rfl
def Hm{o:Str}{W:List Wy}{h:Ht}{b:Bool}{w:Wy}{a7:Te}(q:h.length<100000):∃g,jn [some (.s o),some (.l (W.map wP)),some (.d (hD h)),some (.b b),some (.s w.1),some (.s w.2.1),some (.i w.2.2),a7]=.ok (.nx [some (.s o),some (.l (W.map wP)),some (.d (hD (rlx (h,b) w).1)),some (.b (rlx (h,b) w).2),some (.s w.1),some (.s w.2.1),some (.i w.2.2),g]):=by
 have e:=yn (ρ:=[some (.s o),some (.l (W.map wP)),some (.d (hD h)),some (.b b),some (.s w.1),some (.s w.2.1),some (.i w.2.2),a7]) (a:=zD (yo 7 (mOp qZ (mOp pIx (zb 2) (zb 4)) (zb 6))) (sIf (mOr (z9 (mOp (pIn true) (zb 5) (zb 2))) (z9 (mOp pLt (zb 7) (mOp pIx (zb 2) (zb 5))))) (zD (gE 2 (zb 5) (zb 7)) (yo 3 (mC (.b true)))) yk)) (b:=yk) (dW (n:=false) (a:=zb 4) (i:=2) rfl rfl);unfold rlx;dsimp only;cases f:zm h (sk w.1)with
 |none=>rw[f]at e;exact⟨a7,e⟩
 |some x=>
  rw[f]at e;have put:∀{d:Sto},d=[some (.s o),some (.l (W.map wP)),some (.d (hD h)),some (.b b),some (.s w.1),some (.s w.2.1),some (.i w.2.2),some (.i (x+w.2.2))]->zD (gE 2 (zb 5) (zb 7)) (yo 3 (mC (.b true))) d=.ok (.nx [some (.s o),some (.l (W.map wP)),some (.d (hD (dput h (sk w.2.1) (x+w.2.2)))),some (.b true),some (.s w.1),some (.s w.2.1),some (.i w.2.2),some (.i (x+w.2.2))]):=λ{d} j=>by subst j;refine zd ⟨[some (.s o),some (.l (W.map wP)),some (.d (hD (dput h (sk w.2.1) (x+w.2.2)))),some (.b true),some (.s w.1),some (.s w.2.1),some (.i w.2.2),some (.i (x+w.2.2))].set 3 (some (.b b)),?_,rfl⟩;show(if(hD h).length<sizeLine then Out.ok (Fw.nx [some (.s o),some (.l (W.map wP)),some (.d (dput (hD h) (sk w.2.1) (.i (x+w.2.2)))),some (.b b),some (.s w.1),some (.s w.2.1),some (.i w.2.2),some (.i (x+w.2.2))])else .wall)=_;rw[if_pos (by rw[Fj];exact a0c q (by decide)),Fi];rfl
  have p:yo 7 (mOp qZ (mOp pIx (zb 2) (zb 4)) (zb 6)) [some (.s o),some (.l (W.map wP)),some (.d (hD h)),some (.b b),some (.s w.1),some (.s w.2.1),some (.i w.2.2),a7]=.ok (.nx [some (.s o),some (.l (W.map wP)),some (.d (hD h)),some (.b b),some (.s w.1),some (.s w.2.1),some (.i w.2.2),some (.i (x+w.2.2))]):=z8 (zw (i8 rfl rfl f) rfl rfl);refine⟨some (.i (x+w.2.2)),e.trans ?_⟩;show zD _ _ _=_;refine zd ⟨_,p,?_⟩;cases l:zm h (sk w.2.1)with
  |none=>refine(yn (Fm ((dW (n:=true) (a:=zb 5) (i:=2) rfl rfl).trans (by rw[l];rfl)))).trans ?_;exact put rfl
  |some y=>
   dsimp only;have t:=yn (ρ:=[some (.s o),some (.l (W.map wP)),some (.d (hD h)),some (.b b),some (.s w.1),some (.s w.2.1),some (.i w.2.2),some (.i (x+w.2.2))]) (a:=zD (gE 2 (zb 5) (zb 7)) (yo 3 (mC (.b true)))) (b:=yk) (XQ (x:=false) ((dW (n:=true) (a:=zb 5) (i:=2) rfl rfl).trans (by rw[l];rfl)) (yj (m:=mOp pLt (zb 7) (mOp pIx (zb 2) (zb 5))) (b:=decide (x+w.2.2<y)) (zw rfl (i8 rfl rfl l) rfl)));refine t.trans ?_;by_cases c:x+w.2.2<y
   .rw[if_pos c,a0d c];exact put rfl
   .rw[if_neg c,T5 c];rfl
theorem p4{K:SQ}{o:Str}{W:List Wy}(n:K.length<=1000)(p:∀w∈W,sk w.2.1∈K/\1<=w.2.2):∀{V:List Wy}{u:Ht×Bool}{r:TK},(∀w∈V,w∈W)->pZ W K o u.1->Ke r->∃a,Ke a/\Qm YN jn (V.map wP) (hSt o W u.1 u.2 r)=.ok (.nx (hSt o W (V.foldl rlx u).1 (V.foldl rlx u).2 a))
 |[],u,r,_,_,f=>⟨r,f,rfl⟩
 |w::V,u,r,d,i,f=>by obtain⟨v,y,x,c,rfl⟩:=f;obtain⟨l,e⟩:=Hm (o:=o) (W:=W) (h:=u.1) (b:=u.2) (w:=w) (a7:=c) (a0q (T9 i.len n) (by decide));obtain⟨g,m⟩:=p w (d w u8);obtain⟨t,_⟩:=As (u:=u) (w:=w) i (d w u8) g m;obtain⟨a,j,q⟩:=p4 n p (V:=V) (u:=rlx u w) (r:=[some (.s w.1),some (.s w.2.1),some (.i w.2.2),l]) (λs h=>d s (S0 _ h)) t ⟨_,_,_,_,rfl⟩;refine⟨a,j,?_⟩;rw[a08,<- q];show(jn [some (.s o),some (.l (W.map wP)),some (.d (hD u.1)),some (.b u.2),some (.s w.1),some (.s w.2.1),some (.i w.2.2),c]).bind _=_;rw[e];rfl
def Qf(o:Str)(W:List Wy)(h:Ht):Prop:=pZ W (sk o::W.map λw=>sk w.2.1) o h/\∀w∈W,aA h w
abbrev signs:Str:="abcdefghijklmnopqrstuvwxyz0123456789"
def bW:signs.length=36:=by decide +kernel
def sgn(r:Int):Str:=⟨#[(signs.cps.toList[r.toNat]?).getD 0]⟩
def Hn:∀a:Fin 36,∀b:Fin 36,sgn (a.val:Int)=sgn (b.val:Int)->a=b:=by decide +kernel
def Au(r0:0<=r)(r1:r<36)(a:0<=s)(b:s<36)(h:sgn r=sgn s):r=s:=by
 have:=Hn ⟨r.toNat,by omega⟩ ⟨s.toNat,by omega⟩ (by
  show sgn (r.toNat:Int)=sgn (s.toNat:Int);rw[a2l r0,a2l a];exact h)
 have:=a0D Fin.val this;simp only at this;omega
def str_inj{a b a' c:Str}(f:a.length=a'.length)(h:a++b=a'++c):a=a'/\b=c:=by have d:=a0D Str.cps h;have:=Array.append_inj d f;obtain⟨x⟩:=a;obtain⟨y⟩:=b;obtain⟨g⟩:=a';obtain⟨i⟩:=c;obtain⟨d,e⟩:=this;exact⟨a0D Str.mk d,a0D Str.mk e⟩
def Sgs(z:Str):Prop:=∀c∈z.cps.toList,c∈signs.cps.toList
def Sgs.app(g:Sgs a)(f:Sgs b):Sgs (a++b):=λc d=>by have e:(a++b).cps.toList=a.cps.toList++b.cps.toList:=Array.toList_append;rw[e]at d;exact(a0j.mp d).elim (g c) (f c)
def Sgs.sgn{r:Int}(h0:0<=r)(h1:r<36):Sgs (sgn r):=λc hc=>by
 have hl:r.toNat<signs.cps.toList.length:=by have:=bW;unfold Str.length at this;simp;omega
 have e:(K37.sgn r).cps.toList=[signs.cps.toList[r.toNat]'hl]:=by show[(signs.cps.toList[r.toNat]?).getD 0]=_;rw[T7 hl];rfl
 rw[e]at hc;rw[T2.mp hc];exact a1x hl
def Sgs.slice(h:Sgs z):Sgs (Txt.slice z lo b):=λc a=>by
 unfold Txt.slice at a;split at a
 .exact h c a
 have a:c∈((Builtin.Str.strSliceIndices lo b 1 z.length).filterMap λi=>z.cps[i]?):=by simpa using a
 obtain⟨i,_,b⟩:=a1e.mp a;exact h c (a0Q (by rw[a12];exact b))
def Nj(a:0<=j)(b:j<=x.length):((Txt.slice x none (some j)).length:Int)=j:=by rw[eq_of_beq (PyProof.Rows.slice_closes_toL a b)];show(((x.cps.toList.drop (0:Int).toNat).take (j-0).toNat).toArray.size:Int)=j;have:x.cps.toList.length=x.length:=a1b;simp only[List.size_toArray,List.length_take,List.length_drop];rw[this];simp;omega
def Ho(a:0<=i)(c:i<=j)(b:j<=x.length):((Txt.slice x (some i) (some j)).length:Int)=j-i:=by rw[eq_of_beq (PyProof.Rows.slice_closesL a c b)];show(((x.cps.toList.drop i.toNat).take (j-i).toNat).toArray.size:Int)=j-i;have:x.cps.toList.length=x.length:=a1b;simp only[List.size_toArray,List.length_take,List.length_drop];omega
def Nm(z:Str):Prop:=(1<=z.length/\z.length<=12)/\Sgs z
def nodup_range{g:Type}{f:Nat->g}(h:∀j k,j<n->k<n->f j=f k->j=k):((List.range n).map f).Nodup:=by rw[a2y,List.pairwise_map];refine List.Pairwise.imp_of_mem ?_ (a2y.mp List.nodup_range);intro a b i d c e;exact c (h a b (a06.mp i) (a06.mp d) e)
def PN(h:k=0\/k=1):Txt.mul z k=""\/Txt.mul z k=z:=by
 rcases h with rfl|rfl
 .exact .inl rfl
 .exact .inr rfl
def WOk(N:SA)(W:List Wy):Prop:=∀w∈W,w.1∈N/\w.2.1∈N/\1<=w.2.2/\w.2.2<=1000000000
def wm{a:Type}{f:a->PV}{xs:List a}:Qh [.l (xs.map f)]=.ok (.i (xs.length:Int)):=by show Out.ok (PV.i ((xs.map f).length:Int))=_;rw[f8]
def bX{N:SA}{s:Int}(h:0<N.length):∃z∈N,pIx (.l (N.map .s)) (.i (s % (N.length:Int)))=.ok (.s z):=
 oM (a1i _ (by omega)) (a1f _ (by omega))
def Av{fr:Bool}{n:Nat}{ms:MS}{xs:SX}{ρ:Sto}(hf:fr=false)(h:ms (xs.map some++List.replicate (n-xs.length) none)=.ok (.nx ρ)):wI fr n ms xs=.ok .n:=by subst hf;unfold wI;rw[h];rfl
def yV(h:m ρ=.ok x):j_ m ρ=.ok (.nx ρ):=by unfold j_;rw[h];rfl
def nR{x:PV}{n:Int}{k:Nat}(h:Qh [x]=.ok (.i (k:Int)))(a:(k:Int)<=n):zA [x,.i n]=.ok .n:=by refine Av rfl ((yn (x:=false) (yj (zw (zx (xs:=[x]) rfl h) rfl ?_))).trans (show _=Out.ok (Fw.nx [some x,some (.i n)])from rfl));show Out.ok (PV.b (decide ((k:Int)>n)))=_;rw[T5 (by omega)]
def Aw(h:Nm z):qo [.s z]=.ok (.s z):=by
 obtain⟨⟨l1,l2⟩,hs⟩:=h;have hl:Qh [.s z]=.ok (.i z.length):=Me (sz5 (by omega));have loop:∀{cs:Sy}{o:Te},(∀c∈cs,c∈signs.cps.toList)->∃o',Qm YR jo (cs.map λc=>PV.s ⟨#[c]⟩) [some (.s z),o]=.ok (.nx [some (.s z),o']):=by
  intro cs
  induction cs with
  |nil=>intro o _;exact⟨o,rfl⟩
  |cons c cs ih=>
   intro o hc;obtain⟨o',e⟩:=ih (o:=some (.s ⟨#[c]⟩)) λx hx=>hc x (S0 _ hx);refine⟨o',?_⟩;have eb:jo [some (.s z),some (.s ⟨#[c]⟩)]=.ok (.nx [some (.s z),some (.s ⟨#[c]⟩)]):=by refine(yn (x:=false) (yj (zw (x:=.s ⟨#[c]⟩) (y:=.s signs) rfl rfl ?_))).trans rfl;show Out.ok (PV.b (xor true (!(Builtin.Str.occurrences signs ⟨#[c]⟩ 0 signs.length 1).isEmpty)))=_;rw[StrLaws.found_one,a0d (hc c u8)];rfl
   show(jo [some (.s z),some (.s ⟨#[c]⟩)]).bind _=_;rw[eb];exact e
 obtain⟨o',e⟩:=loop (cs:=z.cps.toList) (o:=none) hs;refine zO (zd ⟨_,(yn (XQ (x:=false) (y:=false) ((Ap (x:=(z.length:Int)) (zx (xs:=[.s z]) rfl hl)).trans (by rw[T5 (by omega)])) ((Ul (x:=(z.length:Int)) (zx (xs:=[.s z]) rfl hl)).trans (by rw[T5 (by omega)])))).trans (show _=Out.ok (Fw.nx [some (.s z),none])from rfl),zd ⟨_,qX (signs_at rfl) e,rfl⟩⟩)
def dX(P:SA):List (Key×PV):=P.map λz=>(sk z,.b true)
def p5(h:z∉P):zm (dX P) (sk z)=none:=by
 cases e:zm (dX P) (sk z)with
 |none=>rfl
 |some x=>have:=qK e;obtain⟨y,b,a⟩:=a0i.mp this;cases a;exact absurd b h
def Ax{N:SA}(c:N.Nodup)(i:∀z∈N,Nm z)(m:N.length<=12):qp [.l (N.map .s)]=.ok .n:=by
 have loop:∀{R P:SA}{o:Te},P++R=N->∃b a,Qm YT jr (R.map .s) [some (.l (N.map .s)),some (.d (dX P)),o]=.ok (.nx [some (.l (N.map .s)),some (.d (dX b)),a]):=by
  intro R
  induction R with
  |nil=>intro P o _;exact⟨P,o,rfl⟩
  |cons z R f=>
   intro P o e;obtain⟨b,a,l⟩:=f (P:=P++[z]) (o:=some (.s z)) (by rw[W1];exact e);refine⟨b,a,?_⟩;have hz:z∉P:=λh=>by rw[<- e]at c;exact(a0r.mp c).2.2 z h z u8 rfl
   have d:z∈N:=by rw[<- e];exact T4 _ u8
   have hp:(dX P).length<=12:=by have:=a0D List.length e;rw[S4]at this;unfold dX;rw[f8];omega
   have en:zL [.s z,.d (dX P)]=.ok (.s z):=by refine zO (zd ⟨_,yV (zx (xs:=[.s z]) rfl (Aw (i z d))),zd ⟨_,(yn (x:=false) (yj (zw (x:=.s z) (y:=.d (dX P)) rfl rfl ?_))).trans (show _=Out.ok (Fw.nx [some (.s z),some (.d (dX P))])from rfl),rfl⟩⟩);show Out.ok (PV.b (xor false (zm (dX P) (sk z)).isSome))=_;rw[p5 hz];rfl
   have g:dput (dX P) (sk z) (.b true)=dX (P++[z]):=by unfold dput;rw[jh,p5 hz];unfold dX;rw[a0n];rfl
   have j:jr [some (.l (N.map .s)),some (.d (dX P)),some (.s z)]=.ok (.nx [some (.l (N.map .s)),some (.d (dX (P++[z]))),some (.s z)]):=by refine zd ⟨_,yV (zx (xs:=[.s z,.d (dX P)]) rfl en),?_⟩;show(if(dX P).length<sizeLine then Out.ok (Fw.nx [some (.l (N.map .s)),some (.d (dput (dX P) (sk z) (.b true))),some (.s z)])else .wall)=_;rw[if_pos (a0q hp (by decide)),g]
   show(jr [some (.l (N.map .s)),some (.d (dX P)),some (.s z)]).bind _=_;rw[j];exact l
 obtain⟨b,a,e⟩:=loop (R:=N) (P:=[]) (o:=none) rfl;exact Av rfl (zd ⟨[some (.l (N.map .s)),some (.d (dX [])),none],rfl,qX (yx rfl) e⟩)
theorem Nk{z:Str}:∀{N:SA},inP (.str z) (N.map .s)=some (decide (z∈N))
 |[]=>by rw[T5 (by simp)];rfl
 |y::N=>by
  show(match some (V.str y),inP (.str z) (N.map .s)with|some u,some b=>some (eqV u (.str z)||b)|_,_=>none)=_;rw[Nk (N:=N)];show some ((y==z)||decide (z∈N))=_;congr 1;by_cases c:y=z
  .subst c;rw[a1w,a0d u8];rfl
  .rw[a0N.mpr c,Bool.false_or];by_cases h:z∈N
   .rw[a0d h,a0d (S0 _ h)]
   .rw[T5 h,T5 λq=>(T1.mp q).elim (λe=>c e.symm) h]
def PQ{z:Str}{N:SA}{n:Bool}:pIn n (.s z) (.l (N.map .s))=.ok (.b (xor n (decide (z∈N)))):=by show k7 ((inP (.str z) (N.map .s)).map λb=>PV.b (xor n b))=_;rw[Nk];rfl
def wN{z:Str}{N:SA}(h:z∈N):ym [.s z,.l (N.map .s)]=.ok .n:=
 Av rfl ((yn (x:=false) (yj (zw (x:=.s z) (y:=.l (N.map .s)) rfl rfl (PQ.trans (by rw[a0d h];rfl))))).trans (show _=Out.ok (Fw.nx [some (.s z),some (.l (N.map .s))])from rfl))
def Ay(b:1<=m)(a:m<=1000000000):zE [.i m,.i 1]=.ok (.i m):=by refine zO (zd ⟨_,(yn (XQ (x:=false) (y:=false) (yj (zw (x:=.i m) (y:=.i 1) rfl rfl ?_)) ((Ul (x:=m) rfl).trans (by rw[T5 (by omega)])))).trans (show _=Out.ok (Fw.nx [some (.i m),some (.i 1)])from rfl),rfl⟩);show Out.ok (PV.b (decide (m<1)))=_;rw[T5 (by omega)]
def Dp(h:WOk N W):jH [.l (N.map .s),.l (W.map wP)]=.ok .n:=by
 have loop:∀{V:List Wy}{a b c:Te},(∀w∈V,w∈W)->∃d f g,Qm Ky kJ (V.map wP) [some (.l (N.map .s)),some (.l (W.map wP)),a,b,c]=.ok (.nx [some (.l (N.map .s)),some (.l (W.map wP)),d,f,g]):=by
  intro V
  induction V with
  |nil=>intro a b c _;exact⟨a,b,c,rfl⟩
  |cons w V l=>
   intro a b c i;obtain⟨q,o,n,j⟩:=h w (i w u8);obtain⟨d,f,g,e⟩:=l (a:=some (.s w.1)) (b:=some (.s w.2.1)) (c:=some (.i w.2.2)) λx m=>i x (S0 _ m);refine⟨d,f,g,?_⟩;have p:kJ [some (.l (N.map .s)),some (.l (W.map wP)),some (.s w.1),some (.s w.2.1),some (.i w.2.2)]=.ok (.nx [some (.l (N.map .s)),some (.l (W.map wP)),some (.s w.1),some (.s w.2.1),some (.i w.2.2)]):=
    zd ⟨_,yV (zx (xs:=[.s w.1,.l (N.map .s)]) rfl (wN q)),zd ⟨_,yV (zx (xs:=[.s w.2.1,.l (N.map .s)]) rfl (wN o)),yV (zx (xs:=[.i w.2.2,.i 1]) rfl (Ay n j))⟩⟩
   show(kJ [some (.l (N.map .s)),some (.l (W.map wP)),some (.s w.1),some (.s w.2.1),some (.i w.2.2)]).bind _=_;rw[p];exact e
 obtain⟨d,f,g,e⟩:=loop (V:=W) (a:=none) (b:=none) (c:=none) λw h=>h;exact Av rfl (qX (yx rfl) e)
def ZG(N:SA)(F:Str->Ht):List (Key×PV):=N.map λz=>(sk z,.d (hD (F z)))
def roP(N:SA)(W:List Wy)(F:Str->Ht):PV:=.o 13 [("places",.l (N.map .s)),("ways",.l (W.map wP)),("lengths",.d (ZG N F))]
def p6:∀{acc:SY},((acc++es).map (·.1)).Nodup->es.foldl (λacc kv=>dput acc kv.1 kv.2) acc=acc++es:=by
 induction es with
 |nil=>intro acc _;rw[a0m];rfl
 |cons e es ih=>
  intro acc nd;have hn:zm acc e.1=none:=by
   cases h:zm acc e.1 with
   |none=>rfl
   |some x=>have hm:e.1∈acc.map (·.1):=a0i.mpr ⟨_,qK h,rfl⟩;rw[a0n]at nd;exact absurd rfl ((a0r.mp nd).2.2 e.1 hm e.1 u8)
  have ed:dput acc e.1 e.2=acc++[e]:=by unfold dput;rw[jh,hn];rfl
  rw[a08,ed,ih (by grind),W1];rfl
def Dq(c:N.Nodup):((ZG N F).map (·.1)).Nodup:=by unfold ZG;rw[a0a];exact a2E _ (λa b h e=>h (a0W e)) c
def Az(h:o∈N):zm (ZG N F) (sk o)=some (.d (hD (F o))):=by
 induction N with
 |nil=>cases h
 |cons z N a=>
  unfold ZG;rw[T6,zV];by_cases c:sk z=sk o
  .rw[if_pos c];rw[a0W c]
  .rw[if_neg c];exact a ((T1.mp h).resolve_left λe=>c (by rw[e]))
theorem p7{F:Str->Ht}:∀{N:SA},mz (N.map λz=>.t [.s z,.d (hD (F z))])=some (ZG N F)
 |[]=>rfl
 |z::N=>by show(mz (N.map λz=>.t [.s z,.d (hD (F z))])).map ((sk z,PV.d (hD (F z)))::·)=_;rw[p7 (N:=N)];rfl
def AA(h:m (some (.o 13 fs)::r)=.ok v)(a:fs.length<1000):h8 0 [13] f m (some (.o 13 fs)::r)=.ok (.nx (some (.o 13 (BP fs f v))::r)):=by unfold h8;rw[h];show(if 13∈[13]/\fs.length<1000 then Out.ok (Fw.nx (some (PV.o 13 (BP fs f v))::r))else .wall)=_;rw[if_pos ⟨u8,a⟩]
structure ROk(N:SA)(W:List Wy):Prop where
 len:N.length<=12
 nd:N.Nodup
 nm:∀z∈N,Nm z
 wl:W.length<=60
 ok:WOk N W
def Hq(R:ROk N W)(hF:∀z,yp [.s z,.l (W.map wP)]=.ok (.d (hD (F z)))):qC [.l (N.map .s),.l (W.map wP)]=.ok (roP N W F):=by
 have hl:=R.len;have hw:=R.wl;have ec:lcP QX QY QZ (N.map .s) [none,some (.l (W.map wP))] []=.ok (.l (N.map λz=>.t [.s z,.d (hD (F z))])):=by refine Xl PV.s (λz=>.t [.s z,.d (hD (F z))]) (λρ=>∃o,ρ=[o,some (.l (W.map wP))]) N [none,some (.l (W.map wP))] ⟨none,rfl⟩ (λz hz ρ ⟨o,ho⟩=>?_) (by omega);subst ho;exact⟨_,rfl,⟨_,rfl⟩,tw (zB rfl (zB (zx (xs:=[.s z,.l (W.map wP)]) rfl (hF z)) rfl)) (a0C rfl)⟩
 have ed:jD [.l (N.map λz=>.t [.s z,.d (hD (F z))])]=.ok (.d (ZG N F)):=by show k7 ((mz (N.map λz=>.t [.s z,.d (hD (F z))])).map λes=>PV.d (ZT es))=_;rw[p7];show Out.ok (PV.d (ZT (ZG N F)))=_;unfold ZT;rw[p6 (acc:=[]) (by rw[a1h];exact Dq R.nd)];rfl
 have e:Za [some (.o 13 []),some (.l (N.map .s)),some (.l (W.map wP))]=.ok (.nx [some (roP N W F),some (.l (N.map .s)),some (.l (W.map wP))]):=by refine zd ⟨_,yV (zx (xs:=[.l (N.map .s),.i 12]) rfl (nR wm (by omega))),zd ⟨_,yV (zx (xs:=[.l (W.map wP),.i 60]) rfl (nR wm (by omega))),zd ⟨_,yV (zx (xs:=[.l (N.map .s)]) rfl (Ax R.nd R.nm hl)),zd ⟨_,yV (zx (xs:=[.l (N.map .s),.l (W.map wP)]) rfl (Dp R.ok)),zd ⟨_,AA (v:=.l (N.map .s)) rfl (by decide),zd ⟨_,AA (v:=.l (W.map wP)) rfl (a0C rfl),(AA (v:=.d (ZG N F)) (zx (zB (UR (yx rfl) ec) rfl) ed) (a0C rfl)).trans ?_⟩⟩⟩⟩⟩⟩;rw[ag,V1 (by decide +kernel),ag,V1 (by decide +kernel),V1 (by decide +kernel),ag];rfl
 show(match Za [some (.o 13 []),some (.l (N.map .s)),some (.l (W.map wP))]with | .ok (.nx ρ)=>(match ρ[0]? with|some (some x)=>Out.ok x|_=>.wall) | .ok (.rt _)=>.wall | .ok (.bk _)=>.wall | .ok (.ct _)=>.wall | .exc c fs=>.exc c fs | .wall=>.wall)=_;rw[e];rfl
def Hr(h:m ρ=.ok (roP N W F)):ae [13] "places" m ρ=.ok (.l (N.map .s))/\ae [13] "lengths" m ρ=.ok (.d (ZG N F)):=by
 constructor
 .unfold ae;rw[h,okb];show(if 13∈[13]then k7 (List.lookup ("places":Str) [("places",PV.l (N.map .s)),("ways",.l (W.map wP)),("lengths",.d (ZG N F))])else .wall)=_;rw[if_pos u8,a8];rfl
 .unfold ae;rw[h,okb];show(if 13∈[13]then k7 (List.lookup ("lengths":Str) [("places",PV.l (N.map .s)),("ways",.l (W.map wP)),("lengths",.d (ZG N F))])else .wall)=_;rw[if_pos u8,ja (by decide +kernel),ja (by decide +kernel),a8];rfl
def Qf.Hs(g:Qf o W h)(e:zm h (sk z)=some y)(hz:z≠o):∃w∈W,w.2.1=z/\∃x,zm h (sk w.1)=some x/\x+w.2.2=y:=by
 rcases g.1.sup _ _ e with c|⟨w,d,a,x,b,le⟩
 .exact absurd (a0W c) hz
 .have a:=a0W a;obtain⟨j,f,i⟩:=g.2 w d x b;rw[a,e]at f;cases f;exact⟨w,d,a,x,b,by omega⟩
def Iv:Option Int->PV
 |none=>.n
 |some x=>.i x
def Nl(c:a ρ=.ok (.d (hD h)))(d:b ρ=.ok (.s z)):Ob a b ρ=.ok (Iv (zm h (sk z))):=by unfold Ob;rw[c,okb];show(b ρ).bind (G6 (hD h))=_;rw[d,okb];show Out.ok ((zm (hD h) (sk z)).getD .n)=_;rw[dU];cases zm h (sk z)<;>rfl
def Oh(c:a ρ=.ok (.d (ZG N F)))(e:b ρ=.ok (.s o))(d:o∈N):mOp pIx a b ρ=.ok (.d (hD (F o))):=by refine zw c e ?_;show k7 (zm (ZG N F) (sk o))=_;rw[Az d];rfl
def dY(a:o∈N)(b:g∈N):zS [roP N W F,.s o,.s g]=.ok (Iv (zm (F o) (sk g))):=by have q:=Hr (m:=zb 0) (ρ:=[some (roP N W F),some (.s o),some (.s g)]) (N:=N) (W:=W) (F:=F) rfl;exact zO (zd ⟨_,yV (zx (xs:=[.s o,.l (N.map .s)]) (zB rfl (zB q.1 rfl)) (wN a)),zd ⟨_,yV (zx (xs:=[.s g,.l (N.map .s)]) (zB rfl (zB q.1 rfl)) (wN b)),Q7 (Nl (Oh q.2 rfl a) rfl)⟩⟩)
def p8(ha:a ρ=.ok (roP N W F))(hm:ms ρ=.ok xs)(h1:(nm==("places":Str))=false)(h2:(nm==("ways":Str))=false)(h3:(nm==("lengths":Str))=false)(h:f (roP N W F::xs)=.ok x):J9 [(13,f)] nm a ms ρ=.ok x:=by unfold J9;rw[ha,okb];show(if(List.lookup nm [("places",PV.l (N.map .s)),("ways",.l (W.map wP)),("lengths",.d (ZG N F))]).isSome=true then Out.wall else(ms ρ).bind λxs=>f (roP N W F::xs))=_;rw[ja h1,ja h2,ja h3,pq,if_neg (by intro z;cases z),hm,okb];exact h
def WS(N:SA)(W:List Wy):Prop:=∀w∈W,w.1∈N/\w.2.1∈N/\1<=w.2.2/\w.2.2<=40000000
def WS.ok(h:WS N W):WOk N W:=λw e=>by obtain⟨a,b,c,d⟩:=h w e;exact⟨a,b,c,by omega⟩
def WS.app(h:WS N W)(d:a∈N)(c:g∈N)(f:1<=m)(e:m<=40000000):WS N (W++[(a,g,m)]):=λw b=>by
 rcases a0j.mp b with b|b
 .exact h w b
 .rw[T2.mp b];exact⟨d,c,f,e⟩
inductive WkM(N:SA)(W:List Wy)(M:SA):Str->Str->Int->Prop
 |nil {a}:a∈N->WkM N W M a a 0
 |edge {w:Wy}:w∈W->WkM N W M w.1 w.2.1 w.2.2
 |via {a m b u v}:m∈M->WkM N W M a m u->WkM N W M m b v->WkM N W M a b (u+v)
section
variable {N:SA}{W:List Wy}{a b:Str}{v:Int}{p z:Te}
def AB(A:WS N W)(g:Qf o W F)(h:WkM N W N a b v):∀x,zm F (sk a)=some x->∃y,y<=x+v/\zm F (sk b)=some y:=by
 induction h with
 |nil _=>intro x e;exact⟨x,by omega,e⟩
 |edge f=>intro x e;obtain⟨y,d,l⟩:=g.2 _ f x e;exact⟨y,l,d⟩
 |via _ _ _ i j=>intro x e;obtain⟨y,l,d⟩:=i x e;obtain⟨n,w,c⟩:=j y d;exact⟨n,by omega,c⟩
def AD(i:WS N W)(g:Qf o W F)(h:o∈N):∀(n:Nat){z:Str}{y:Int},y.toNat<=n->zm F (sk z)=some y->WkM N W N o z y:=by
 intro n
 induction n with
 |zero=>
  intro z y l e;by_cases hz:z=o
  .subst hz;cases(g.1.own.symm.trans e);exact .nil h
  .obtain⟨w,f,_,x,d,c⟩:=g.Hs e hz;have:=(i w f).2.2.1;have:=g.1.pos _ _ d;omega
 |succ n j=>
  intro z y l e;by_cases hz:z=o
  .subst hz;cases(g.1.own.symm.trans e);exact .nil h
  .obtain⟨w,f,rfl,x,d,c⟩:=g.Hs e hz;have A:=i w f;have:=g.1.pos _ _ d;rw[<- c];exact .via A.1 (j (by omega) d) (.edge f)
def below(h:Ht)(y:Int):Nat:=(h.filter λp=>decide (p.2<y)).length
theorem p9{x y:Int}(l:x<=y):∀{h:Ht},below h x<=below h y
 |[]=>S5 _
 |p::h=>by
  have i:=p9 l (h:=h);unfold below at i ⊢;rw[a02,a02];by_cases c:p.2<x
  .rw[if_pos (a0d c),if_pos (a0d (show p.2<y by omega))];exact a1K i
  .rw[if_neg (by rw[T5 c];decide)];split
   .exact a1U i
   .exact i
theorem p_{x y:Int}(l:x<y):∀{h:Ht}{k:Tw},(k,x)∈h->below h x+1<=below h y
 |[],_,e=>by cases e
 |p::h,k,e=>by
  unfold below;rw[a02,a02];rcases T1.mp e with e|e
  .subst e;rw[if_neg (by rw[T5 (show ¬x<x by omega)];decide),if_pos (a0d l)];exact a1K (p9 (Int.le_of_lt l))
  .have i:=p_ l e;unfold below at i;by_cases c:p.2<x
   .rw[if_pos (a0d c),if_pos (a0d (show p.2<y by omega))];exact a1K i
   .rw[if_neg (by rw[T5 c];decide)];split
    .exact a1U i
    .exact i
theorem i_{y:Int}:∀{h:Ht}{k:Tw},(k,y)∈h->below h y+1<=h.length
 |[],_,e=>by cases e
 |p::h,k,e=>by
  unfold below;rw[a02];rcases T1.mp e with e|e
  .subst e;rw[if_neg (by rw[T5 (show ¬y<y by omega)];decide),v4];exact a1K (a3m _ _)
  .have i:=i_ e;unfold below at i;split
   .exact a1K i
   .exact a1U i
def lh(l:WS N W)(g:Qf o W F):∀(n:Nat){z:Str}{y:Int},y.toNat<=n->zm F (sk z)=some y->y<=40000000*(below F y:Int):=by
 intro n
 induction n with
 |zero=>intro z y A e;have:=g.1.pos _ _ e;omega
 |succ n h=>
  intro z y A e;by_cases hz:z=o
  .subst hz;cases(g.1.own.symm.trans e);omega
  .obtain⟨w,f,rfl,x,c,d⟩:=g.Hs e hz;have B:=l w f;have:=g.1.pos _ _ c;have i:=h (y:=x) (by omega) c;have j:=p_ (x:=x) (y:=y) (by omega) (qK c);omega
def tD{F:Ht}{o:Str}(f:WS N W)(g:Qf o W F)(h:o∈N){z:Str}{y:Int}(e:zm F (sk z)=some y):0<=y/\y+40000000<=40000000*(N.length:Int):=by
 have a:=lh f g _ (S5 _) e;have b:=i_ (qK e);have c:F.length<=N.length:=by
  have:=Z2 (a:=F.map (·.1)) (b:=N.map sk) g.1.nd (λk d=>by
   rcases T1.mp (g.1.sub k d)with rfl|d
   .exact a0R h
   .obtain⟨w,i,rfl⟩:=a0i.mp d;exact a0R (f w i).2.1)
  rw[f8,f8]at this;exact this
 have:=g.1.pos _ _ e;omega
end
abbrev Tp:=Str×Str×Str×Int×Int×Int
def tP(t:Tp):PV:=.t [.s t.1,.s t.2.1,.s t.2.2.1,.i t.2.2.2.1,.i t.2.2.2.2.1,.i t.2.2.2.2.2]
structure TOk(N:SA)(F:Str->Ht)(t:Tp):Prop where
 org:t.2.1∈N
 goal:t.2.2.1∈N
 len:∃y,zm (F t.2.1) (sk t.2.2.1)=some y/\y<=t.2.2.2.2.1-t.2.2.2.1
 st:0<=t.2.2.2.1
 fw:t.2.2.2.1<t.2.2.2.2.1
 fin:t.2.2.2.2.1<=1000000000
 Su:0<=t.2.2.2.2.2/\t.2.2.2.2.2<=1000000000
def XR(T:List Tp):List (Key×PV):=T.map λt=>(sk t.1,tP t)
def lj(h:z∉T.map (·.1)):zm (XR T) (sk z)=none:=by
 cases e:zm (XR T) (sk z)with
 |none=>rfl
 |some x=>obtain⟨t,b,a⟩:=a0i.mp (qK e);cases a;exact absurd (a0R b) h
def AE(a:(T.map (·.1)).Nodup)(h:t∈T):zm (XR T) (sk t.1)=some (tP t):=by
 induction T with
 |nil=>cases h
 |cons u T d=>
  rw[T6]at a;obtain⟨c,b⟩:=a0t.mp a;show zm ((sk u.1,tP u)::XR T) (sk t.1)=_;rw[zV];rcases T1.mp h with rfl|h
  .rw[if_pos rfl]
  .rw[if_neg λe=>c (by rw[a0W e];exact a0R h)];exact d b h
def tE(hz:Nm z)(hB:zm B (sk z)=none):zL [.s z,.d B]=.ok (.s z):=by refine zO (zd ⟨_,yV (zx (xs:=[.s z]) rfl (Aw hz)),zd ⟨_,(yn (x:=false) (yj (zw (x:=.s z) (y:=.d B) rfl rfl ?_))).trans (show _=Out.ok (Fw.nx [some (.s z),some (.d B)])from rfl),rfl⟩⟩);show Out.ok (PV.b (xor false (zm B (sk z)).isSome))=_;rw[hB];rfl
def XS(b:0<=m)(a:m<=1000000000):zE [.i m,.i 0]=.ok (.i m):=by refine zO (zd ⟨_,(yn (XQ (x:=false) (y:=false) (yj (zw (x:=.i m) (y:=.i 0) rfl rfl ?_)) ((Ul (x:=m) rfl).trans (by rw[T5 (by omega)])))).trans (show _=Out.ok (Fw.nx [some (.i m),some (.i 0)])from rfl),rfl⟩);show Out.ok (PV.b (decide (m<0)))=_;rw[T5 (by omega)]
section
variable {N:SA}{W:List Wy}{F:Str->Ht}{t:Tp}{T:List Tp}
def Dr(h:TOk N F t)(hn:Nm t.1)(hB:zm B (sk t.1)=none):qB [roP N W F,tP t,.d B]=.ok .n:=by
 obtain⟨ho,hg,⟨y,ey,ly⟩,s0,fw,f1,q0,q1⟩:=h;refine Av rfl (zd ⟨_,yV (zx (xs:=[.s t.1,.d B]) rfl (tE hn hB)),zd ⟨_,z8 (p8 (N:=N) (W:=W) (F:=F) rfl (xs:=[.s t.2.1,.s t.2.2.1]) rfl (by decide +kernel) (by decide +kernel) (by decide +kernel) ((dY ho hg).trans (by rw[ey];rfl))),zd ⟨_,yV (zx (xs:=[.i t.2.2.2.1,.i 0]) rfl (XS s0 (by omega))),zd ⟨_,yV (zx (xs:=[.i t.2.2.2.2.1,.i 0]) rfl (XS (by omega) f1)),zd ⟨_,yV (zx (xs:=[.i t.2.2.2.2.2,.i 0]) rfl (XS q0 q1)),zd ⟨[some (roP N W F),some (tP t),some (.d B),some (.i y)],(yn (x:=false) (yj (zw (x:=.i t.2.2.2.2.1) (y:=.i t.2.2.2.1) rfl rfl ?_))).trans rfl,zd ⟨[some (roP N W F),some (tP t),some (.d B),some (.i y)],(yn (x:=false) rfl).trans rfl,(yn (x:=false) (yj (zw (x:=.i (t.2.2.2.2.1-t.2.2.2.1)) (y:=.i y) rfl rfl ?_))).trans rfl⟩⟩⟩⟩⟩⟩⟩)
 .show Out.ok (PV.b (decide (t.2.2.2.2.1<=t.2.2.2.1)))=_;rw[T5 (by omega)]
 .show Out.ok (PV.b (decide (t.2.2.2.2.1-t.2.2.2.1<y)))=_;rw[T5 (by omega)]
def Fn(t:Tp):dI:=(t.2.2.2.1,t.2.2.2.2.1,t.1)
theorem rg:∀{T:List Tp},fv zt (T.map tP)=some (T.map Fn)
 |[]=>rfl
 |t::T=>by
  have e:zt [tP t]=.ok (.t [.i t.2.2.2.1,.i t.2.2.2.2.1,.s t.1]):=zO (Q7 (tw rfl (a0C rfl)));show(match zt [tP t]with
   |.ok (.t [.i a,.i b,.s c])=>(fv zt (T.map tP)).map ((a,b,c)::·)
   |_=>none)=_
  rw[e];show(fv zt (T.map tP)).map _=_;rw[rg];rfl
def Xg(T:List Tp):List Tp:=(G9 (T.map Fn)).map λi=>T.getD i ("","","",0,0,0)
def Ds(c:(T.map (·.1)).Nodup)(g:T.length<64):C3 zt (T.map tP)=.ok (.l ((Xg T).map tP)):=by
 unfold C3;rw[if_pos (by rw[f8];exact g),rg];have f:(T.map Fn).Nodup:=by
  have:((T.map Fn).map λk=>k.2.2)=T.map (·.1):=by rw[a0a];rfl
  rw[<- this]at c;exact List.Pairwise.of_map (S:=(·≠·)) (λk:dI=>k.2.2) (λa b h e=>h (by rw[e])) c
 show(if(T.map Fn).Nodup then _ else _)=_;rw[if_pos f];unfold Xg;rw[a0a];congr 2;refine a1c λi d=>?_;have:=a06.mp ((au (T.map Fn)).1.mem_iff.mp d);rw[f8]at this;show(T.map tP).getD i .n=tP (T.getD i _);rw[a1d,a1d,a0e,T7 this];rfl
end
def ga0{a:Type}{A:List a}{x y:a}:(A++[x,y])[A.length]?=some x:=by simp
def ga1{a:Type}{A:List a}{x y:a}:(A++[x,y])[A.length+1]?=some y:=by simp
def sa0{a:Type}{A:List a}{x y z:a}:(A++[x,y]).set A.length z=A++[z,y]:=by simp
def sa1{a:Type}{A:List a}{x y z:a}:(A++[x,y]).set (A.length+1) z=A++[x,z]:=by simp
theorem dZ{G:AH}{n:Nat}:∀{a:SY},il (je G (n+1)) (vK a)=some a
 |[]=>rfl
 | (k,x)::a=>by show((je G (n+1) (.v x)).bind λy=>(il (je G (n+1)) (vK a)).map ((k,y)::·))=_;rw[dZ];rfl
def So(a:Kb bs ρ=none)(c:Km G bs ρ=some r)(b:m r=.ok x)(hi:imm x=true):hP bs m ρ G=.ok (.v x) G:=by unfold hP;rw[a,c];dsimp only;rw[b];dsimp only;rw[if_pos hi]
def rh(h:m ρ G=.ok x G'):Xo m ρ G=.nx ρ G':=by unfold Xo;rw[h];rfl
def gg(g:mv ρ G=.ok y G1)(a:mo ρ G1=.ok (.g k) G2)(e:G2[k]?=some (.o c fs))(b:c∈cs)(d:fs.length<1000):fA cs f mo mv ρ G=.nx ρ (G2.set k (.o c (bg f y fs))):=by
 unfold fA;rw[g];show((mo ρ G1).fw _)=_;rw[a];show(match G2[k]? with
  |some (.o c fs)=>if c∈cs/\fs.length<1000 then HFw.nx ρ (G2.set k (.o c (bg f y fs)))else .wall
  |_=>.wall)=_
 rw[e];dsimp only;rw[if_pos ⟨b,d⟩]
def Hu(f:mv ρ G=.ok y G)(b:mo ρ G=.ok (.g k) G)(hz:mk ρ G=.ok (.v z) G)(d:G[k]?=some (.d a))(e:pk z=some q)(c:a.length<100000):mB mo mk mv ρ G=.nx ρ (G.set k (.d (dput a q y))):=by
 unfold mB;rw[f];show((mo ρ G).fw _)=_;rw[b];show((mk ρ G).fw _)=_;rw[hz];show(match G[k]?,pk z with
  |some (.d a),some q=>if a.length<sizeLine then HFw.nx ρ (G.set k (.d (dput a q y)))else .wall
  |_,_=>.wall)=_
 rw[d,e];dsimp only;rw[if_pos (a0c c (by decide))]
def Hv(h:m ρ G=.ok (.g k) G)(a:G[k]?=some (.o c fs))(b:c∈cs)(hf:fs.lookup f=some z):MH cs f m ρ G=.ok z G:=by
 unfold MH;rw[h];show(match G[k]? with
  |some (.o c fs)=>if c∈cs then match fs.lookup f with
   |some z=>HX.ok z G
   |none=>.wall else .wall
  |_=>.wall)=_
 rw[a];dsimp only;rw[if_pos b,hf]
def Hw{a:Type}{x:a}{fs:List (Str×a)}:((f,x)::fs).lookup f=some x:=by simp
def Dt{a:Type}{x:a}{fs:List (Str×a)}(h:(f==g)=false):((g,x)::fs).lookup f=fs.lookup f:=by simp[List.lookup,h]
section
variable {N:SA}{W:List Wy}{F:Str->Ht}{A:AH}{T P:List Tp}{ro:PV}
def tFs(ro:PV)(j:Nat):List (Str×HV):=[("roads",.v ro),("by_name",.g j)]
def tG(A:AH)(ro:PV)(T:List Tp):AH:=A++[.o 12 (tFs ro (A.length+1)),.d (vK (XR T))]
def ri(h:G[j]?=some (.d (vK (XR T)))):je G (n+2) (.g j)=some (.d (XR T)):=by unfold je;rw[h];show(il (je G (n+1)) (vK (XR T))).map PV.d=_;rw[dZ];rfl
def Nn:je (tG A ro T) 8 (.g A.length)=some (.o 12 [("roads",ro),("by_name",.d (XR T))]):=by unfold je tG;rw[ga0];show(il (je _ 7) (tFs ro (A.length+1))).map (PV.o 12)=_;show(Option.map (PV.o 12) ((je _ 7 (.v ro)).bind λy=>(((je _ 7 (.g (A.length+1))).bind λy=>((some []).map ((("by_name":Str),y)::·))).map ((("roads":Str),y)::·))))=_;rw[ri (T:=T) ga1];rfl
def Du(h:t.1∉P.map (·.1)):dput (vK (XR P)) (sk t.1) (.v (tP t))=vK (XR (P++[t])):=by unfold vK;rw[J8];congr 1;unfold dput;rw[jh,lj h];unfold XR;rw[a0n];rfl
def Dv:∀{R P:List Tp}{o:Option HV},(∀t∈R,TOk N F t/\Nm t.1)->((P++R).map (·.1)).Nodup->(P++R).length<=40->∃d,Xf jX yT ((R.map tP).map .v) [some (.g A.length),some (.v (roP N W F)),some (.v T0),o] (tG A (roP N W F) P)=.nx [some (.g A.length),some (.v (roP N W F)),some (.v T0),d] (tG A (roP N W F) (P++R)):=by
 intro R
 induction R with
 |nil=>intro P o _ _ _;rw[a0m];exact⟨o,rfl⟩
 |cons t R m=>
  intro P o g f i;have e:P++[t]++R=P++t::R:=by rw[W1];rfl
  obtain⟨d,j⟩:=m (P:=P++[t]) (o:=some (.v (tP t))) (λu p=>g u (S0 _ p)) (by rw[e];exact f) (by rw[e];exact i);rw[e]at j;refine⟨d,?_⟩;have hz:t.1∉P.map (·.1):=λh=>by rw[a0n,T6]at f;exact(a0r.mp f).2.2 _ h _ u8 rfl
  have hp:P.length<=40:=by rw[S4]at i;omega
  obtain⟨r,n⟩:=g t u8;have s:ae [12] "by_name" (zb 0) [some (.o 12 [("roads",roP N W F),("by_name",.d (XR P))]),some (roP N W F),none,some (tP t)]=.ok (.d (XR P)):=by show(if 12∈[12]then k7 (List.lookup ("by_name":Str) [("roads",roP N W F),("by_name",PV.d (XR P))])else .wall)=_;rw[if_pos u8,ja (by decide +kernel),a8];rfl
  have x:hP [true,true,false,true] (zj qB (zc (zb 1) (zc (zb 3) (zc (ae [12] "by_name" (zb 0)) zq)))) [some (.g A.length),some (.v (roP N W F)),some (.v T0),some (.v (tP t))] (tG A (roP N W F) P)=.ok (.v .n) (tG A (roP N W F) P):=
   So rfl (PM Nn (PM rfl (Sn (PM rfl Sm)))) (zx (zB rfl (zB rfl (zB s rfl))) (Dr (W:=W) r n (lj hz))) rfl
  have l:mB (MH [12] "by_name" (qJ 0)) (hP [false,false,false,true] (mOp pIx (zb 3) (mC (.i 0)))) (qJ 3) [some (.g A.length),some (.v (roP N W F)),some (.v T0),some (.v (tP t))] (tG A (roP N W F) P)=.nx [some (.g A.length),some (.v (roP N W F)),some (.v T0),some (.v (tP t))] (tG A (roP N W F) (P++[t])):=by refine(Hu (y:=.v (tP t)) (k:=A.length+1) (z:=.s t.1) (q:=sk t.1) rfl (Hv rfl ga0 u8 (by unfold tFs;rw[Dt (by decide +kernel),Hw])) (PL rfl rfl) ga1 rfl (by unfold vK XR;rw[f8,f8];omega)).trans ?_;unfold tG;rw[sa1,Du hz]
  have w:yT [some (.g A.length),some (.v (roP N W F)),some (.v T0),some (.v (tP t))] (tG A (roP N W F) P)=.nx [some (.g A.length),some (.v (roP N W F)),some (.v T0),some (.v (tP t))] (tG A (roP N W F) (P++[t])):=qF (rh x) l;show(match yT [some (.g A.length),some (.v (roP N W F)),some (.v T0),some (.v (tP t))] (tG A (roP N W F) P)with
   |.nx a b=>Xf jX yT ((R.map tP).map .v) a b
   |.ct a b=>Xf jX yT ((R.map tP).map .v) a b
   |.bk a b=>.nx a b
   |.rt v b=>.rt v b
   |.exc c fs b=>.exc c fs b
   |.wall=>.wall)=_
  rw[w];exact j
def d0(T:List Tp):PV:=.l ((Xg T).map λt=>.s t.1)
def Oi(A:AH)(ro:PV)(T:List Tp):AH:=A++[.o 12 [("roads",.v ro),("by_name",.g (A.length+1)),("order",.v (d0 T))],.d (vK (XR T))]
def VB(ro:PV)(T:List Tp):PV:=.o 12 [("roads",ro),("by_name",.d (XR T)),("order",d0 T)]
def nS:(Xg T).length=T.length:=by unfold Xg;rw[f8,(au (T.map Fn)).1.length_eq,a0x,f8]
def Dw(j:∀t∈T,TOk N F t/\Nm t.1)(g:(T.map (·.1)).Nodup)(q:T.length<=40):qU [.g A.length,.v (roP N W F),.v (.l (T.map tP))] (A++[.o 12 []])=.ok (.v .n) (Oi A (roP N W F) T):=by
 obtain⟨b,f⟩:=Dv (N:=N) (W:=W) (F:=F) (A:=A) (T0:=.l (T.map tP)) (R:=T) (P:=[]) (o:=none) j g q;rw[a1h]at f;have l:(A++[Cell.o 12 []])[A.length]?=some (.o 12 []):=by simp
 have s:Xo (hP [false,false,true] (zj zA (zc (zb 2) (zc (mC (.i 40)) zq)))) [some (.g A.length),some (.v (roP N W F)),some (.v (.l (T.map tP))),none] (A++[.o 12 []])=.nx [some (.g A.length),some (.v (roP N W F)),some (.v (.l (T.map tP))),none] (A++[.o 12 []]):=rh (PL rfl (zx (xs:=[.l (T.map tP),.i 40]) rfl (nR wm (by omega))));have h:fA [12] "roads" (qJ 0) (qJ 1) [some (.g A.length),some (.v (roP N W F)),some (.v (.l (T.map tP))),none] (A++[.o 12 []])=.nx [some (.g A.length),some (.v (roP N W F)),some (.v (.l (T.map tP))),none] (A++[.o 12 [("roads",.v (roP N W F))]]):=by refine(gg rfl rfl l u8 (by decide)).trans ?_;rw[show(A++[Cell.o 12 []]).set A.length (.o 12 (bg "roads" (.v (roP N W F)) []))=A++[.o 12 [("roads",.v (roP N W F))]] by simp[bg]]
 have p:(A++[Cell.o 12 [("roads",.v (roP N W F))]]++[.d []])[A.length]?=some (.o 12 [("roads",.v (roP N W F))]):=by simp
 have n:fA [12] "by_name" (qJ 0) (hF [] VY) [some (.g A.length),some (.v (roP N W F)),some (.v (.l (T.map tP))),none] (A++[.o 12 [("roads",.v (roP N W F))]])=.nx [some (.g A.length),some (.v (roP N W F)),some (.v (.l (T.map tP))),none] (tG A (roP N W F) []):=by
  refine(gg (y:=.g (A++[Cell.o 12 [("roads",.v (roP N W F))]]).length) (G1:=A++[Cell.o 12 [("roads",.v (roP N W F))]]++[.d []]) rfl rfl p u8 (by show 1<1000;decide)).trans ?_;have e:bg "by_name" (.g (A++[Cell.o 12 [("roads",.v (roP N W F))]]).length) [("roads",.v (roP N W F))]=tFs (roP N W F) (A.length+1):=by rw[S4];show(if(("roads":Str)="by_name")then _ else _)=_;rw[if_neg (by decide +kernel)];rfl
  rw[e,show A++[Cell.o 12 [("roads",.v (roP N W F))]]++[.d []]=A++[.o 12 [("roads",.v (roP N W F))],.d []] by rw[W1];rfl,sa0];rfl
 have r:lcP v9 v_ wb ((Xg T).map tP) [none] []=.ok (d0 T):=
  Xl tP (λt=>PV.s t.1) (λd=>∃o,d=[o]) _ _ ⟨none,rfl⟩ (λt _ d ⟨o,m⟩=>by subst m;exact⟨_,rfl,⟨_,rfl⟩,zw rfl rfl rfl⟩) (by rw[nS];omega)
 have i:fA [12] "order" (qJ 0) (hP [false,false,true] (mLC (yi (pK zt (zc (zb 2) zq))) [none] v9 v_ wb)) [some (.g A.length),some (.v (roP N W F)),some (.v (.l (T.map tP))),b] (tG A (roP N W F) T)=.nx [some (.g A.length),some (.v (roP N W F)),some (.v (.l (T.map tP))),b] (Oi A (roP N W F) T):=by
  refine(gg (y:=.v (d0 T)) (PL rfl (UR (yx (show pK zt (zc (zb 2) zq) [none,none,some (.l (T.map tP)),none]=_ from Ds g (by omega))) r)) rfl ga0 u8 (by show 2<1000;decide)).trans ?_;have e:bg "order" (.v (d0 T)) (tFs (roP N W F) (A.length+1))=([("roads",.v (roP N W F)),("by_name",.g (A.length+1)),("order",.v (d0 T))]:List (Str×HV)):=by show(if(("roads":Str)="order")then _ else _::(if(("by_name":Str)="order")then _ else _))=_;rw[if_neg (by decide +kernel),if_neg (by decide +kernel)];rfl
  unfold Oi;rw[e,sa0]
 have ev:vB [some (.g A.length),some (.v (roP N W F)),some (.v (.l (T.map tP))),none] (A++[.o 12 []])=.nx [some (.g A.length),some (.v (roP N W F)),some (.v (.l (T.map tP))),b] (Oi A (roP N W F) T):=
  qF s (qF h (qF n (qF f i)))
 show(match vB [some (.g A.length),some (.v (roP N W F)),some (.v (.l (T.map tP))),none] (A++[.o 12 []])with
  |.nx _ a=>HX.ok (HV.v .n) a
  |.rt x a=>.ok x a
  |.exc c fs a=>.exc c fs a
  |_=>.wall)=_
 rw[ev]
def Hx(h:G[k]?=some (.o 12 [("roads",.v ro),("by_name",.g j),("order",.v (d0 T))]))(a:G[j]?=some (.d (vK (XR T)))):je G (n+3) (.g k)=some (VB ro T):=by unfold je;rw[h];show(Option.map (PV.o 12) ((je _ (n+2) (.v ro)).bind λy=>(((je _ (n+2) (.g j)).bind λy=>((((je _ (n+2) (.v (d0 T))).bind λy=>((some []).map ((("order":Str),y)::·)))).map ((("by_name":Str),y)::·))).map ((("roads":Str),y)::·))))=_;rw[ri (T:=T) a];rfl
end
section
variable {N:SA}{W:List Wy}{F:Str->Ht}{T:List Tp}{t u:Tp}{ro:PV}{z:Str}
def AF(h:m ρ=.ok (VB ro T)):ae [12] "by_name" m ρ=.ok (.d (XR T)):=by unfold ae;rw[h,okb];show(if 12∈[12]then k7 (List.lookup ("by_name":Str) [("roads",ro),("by_name",PV.d (XR T)),("order",d0 T)])else .wall)=_;rw[if_pos u8,ja (by decide +kernel),a8];rfl
def Dx(h:m ρ=.ok (VB ro T)):ae [12] "roads" m ρ=.ok ro:=by unfold ae;rw[h,okb];show(if 12∈[12]then k7 (List.lookup ("roads":Str) [("roads",ro),("by_name",PV.d (XR T)),("order",d0 T)])else .wall)=_;rw[if_pos u8,a8];rfl
def ll(a:(T.map (·.1)).Nodup)(c:t∈T):z0 [VB ro T,.s t.1]=.ok (tP t):=by
 have b:=AF (m:=zb 0) (ρ:=[some (VB ro T),some (.s t.1)]) (ro:=ro) (T:=T) rfl;have e:=AE a c;refine zO (zd ⟨_,(yn (x:=false) (yj (zw (x:=.s t.1) rfl b ?_))).trans (show _=Out.ok (Fw.nx [some (VB ro T),some (.s t.1)])from rfl),Q7 (zw b (y:=.s t.1) rfl ?_)⟩)
 .show Out.ok (PV.b (xor true (zm (XR T) (sk t.1)).isSome))=_;rw[e];rfl
 .show k7 (zm (XR T) (sk t.1))=_;rw[e];rfl
def rj(ha:a ρ=.ok (VB ro T))(hm:ms ρ=.ok xs):J9 [(12,f)] "trip" a ms ρ=f (VB ro T::xs):=by unfold J9;rw[ha,okb];show(if(List.lookup ("trip":Str) [("roads",ro),("by_name",PV.d (XR T)),("order",d0 T)]).isSome=true then Out.wall else(ms ρ).bind λxs=>f (VB ro T::xs))=_;rw[ja (by decide +kernel),ja (by decide +kernel),ja (by decide +kernel),pq,if_neg (by intro z;cases z),hm,okb]
def PR(F:Str->Ht)(t u:Tp):PV:=Iv ((zm (F t.2.2.1) (sk u.2.1)).map λy=>u.2.2.2.1-t.2.2.2.2.1-y)
def Np(nd:(T.map (·.1)).Nodup)(hT:∀t∈T,TOk N F t)(ht:t∈T)(hu:u∈T):sX [VB (roP N W F) T,.s t.1,.s u.1]=.ok (PR F t u):=by
 have e3:yo 3 (J9 [(12,z0)] "trip" (zb 0) (zc (zb 1) zq)) [some (VB (roP N W F) T),some (.s t.1),some (.s u.1),none,none,none]=.ok (.nx [some (VB (roP N W F) T),some (.s t.1),some (.s u.1),some (tP t),none,none]):=z8 ((rj (xs:=[.s t.1]) rfl rfl).trans (ll nd ht));have e4:yo 4 (J9 [(12,z0)] "trip" (zb 0) (zc (zb 2) zq)) [some (VB (roP N W F) T),some (.s t.1),some (.s u.1),some (tP t),none,none]=.ok (.nx [some (VB (roP N W F) T),some (.s t.1),some (.s u.1),some (tP t),some (tP u),none]):=z8 ((rj (xs:=[.s u.1]) rfl rfl).trans (ll nd hu));have e5:yo 5 (J9 [(13,zS)] "length" (ae [12] "roads" (zb 0)) (zc (mOp pIx (zb 3) (mC (.i 2))) (zc (mOp pIx (zb 4) (mC (.i 1))) zq))) [some (VB (roP N W F) T),some (.s t.1),some (.s u.1),some (tP t),some (tP u),none]=.ok (.nx [some (VB (roP N W F) T),some (.s t.1),some (.s u.1),some (tP t),some (tP u),some (Iv (zm (F t.2.2.1) (sk u.2.1)))]):=
  z8 (p8 (N:=N) (W:=W) (F:=F) (Dx rfl) (xs:=[.s t.2.2.1,.s u.2.1]) rfl (by decide +kernel) (by decide +kernel) (by decide +kernel) (dY (hT t ht).goal (hT u hu).org))
 unfold PR;cases e:zm (F t.2.2.1) (sk u.2.1)with
 |none=>rw[e]at e5;exact zO (zd ⟨_,e3,zd ⟨_,e4,zd ⟨_,e5,m5 ((yn (x:=true) rfl).trans rfl)⟩⟩⟩)
 |some y=>rw[e]at e5;exact zO (zd ⟨_,e3,zd ⟨_,e4,zd ⟨_,e5,zd ⟨_,(yn (x:=false) rfl).trans rfl,Q7 (zw (zw (x:=.i u.2.2.2.1) (y:=.i t.2.2.2.2.1) rfl rfl rfl) (y:=.i y) rfl rfl)⟩⟩⟩⟩)
end
section
variable {N:SA}{W:List Wy}{F:Str->Ht}{T:List Tp}{t u:Tp}{ro:PV}
def aB:(Xg T).Perm T:=by have h:=(au (T.map Fn)).1.map λi=>T.getD i ("","","",0,0,0);refine h.trans (.of_eq ?_);rw[f8];refine List.ext_getElem (by rw[f8,a0x]) λi b a=>?_;rw[a11,a1l];simp[a]
def lnk(F:Str->Ht)(t u:Tp):Bool:=match zm (F t.2.2.1) (sk u.2.1)with
 |some y=>decide (t.2.2.2.2.1+y<=u.2.2.2.1)
 |none=>false
def AG(c:(T.map (·.1)).Nodup)(d:∀t∈T,TOk N F t)(b:t∈T)(a:u∈T):JX [VB (roP N W F) T,.s t.1,.s u.1]=.ok (.b (lnk F t u)):=by
 have g:=Np (W:=W) c d b a;unfold PR at g;unfold lnk;cases e:zm (F t.2.2.1) (sk u.2.1)with
 |none=>rw[e]at g;exact zO (zd ⟨_,z8 (zx (xs:=[VB (roP N W F) T,.s t.1,.s u.1]) rfl g),Q7 rfl⟩)
 |some y=>rw[e]at g;refine zO (zd ⟨_,z8 (zx (xs:=[VB (roP N W F) T,.s t.1,.s u.1]) rfl g),Q7 ((Aq (x:=true) (y:=decide (u.2.2.2.1-t.2.2.2.2.1-y ≥ 0)) rfl rfl).trans ?_)⟩);rw[a3A];congr 3;exact propext ⟨λh=>by omega,λh=>by omega⟩
def Iw(F:Str->Ht)(T:List Tp)(t:Tp):List Str:=((Xg T).filter (lnk F t)).map (·.1)
def AI(e:(T.map (·.1)).Nodup)(f:∀t∈T,TOk N F t)(g:T.length<=40)(d:t∈T):yU [VB (roP N W F) T,.s t.1,d0 T]=.ok (.l ((Iw F T t).map .s)):=by
 refine zO (Q7 (UR (yx (xs:=(Xg T).map λt=>.s t.1) rfl) ((Yf (λu:Tp=>PV.s u.1) (lnk F t) (λu=>.s u.1) (λa=>∃o,a=[o,some (VB (roP N W F) T),some (.s t.1)]) _ _ [] ⟨none,rfl⟩ (λu c a ⟨o,b⟩=>?_) (by rw[nS];show 0+_<=_;omega)).trans ?_)))
 .subst b;exact⟨_,rfl,⟨_,rfl⟩,yj (zx (xs:=[VB (roP N W F) T,.s t.1,.s u.1]) rfl (AG e f d (aB.mem_iff.mp c))),λ_=>rfl⟩
 .unfold Iw;rw[a0a];rfl
def Nq(a:(T.map (·.1)).Nodup):((Xg T).map (·.1)).Nodup:=((aB (T:=T)).map (·.1)).nodup_iff.mpr a
def Dy(h:m ρ=.ok (VB ro T)):ae [12] "order" m ρ=.ok (d0 T):=by unfold ae;rw[h,okb];show(if 12∈[12]then k7 (List.lookup ("order":Str) [("roads",ro),("by_name",PV.d (XR T)),("order",d0 T)])else .wall)=_;rw[if_pos u8,ja (by decide +kernel),ja (by decide +kernel),a8];rfl
def AJ:yb [VB ro T]=.ok (d0 T):=zO (Q7 (zx (zB (Dy rfl) rfl) rfl))
def rn{U:List Tp}(g:(U.map (·.1)).Nodup)(b:t∈U)(j:u∈U)(e:t.1=u.1):t=u:=by
 induction U with
 |nil=>cases b
 |cons x U l=>
  rw[T6]at g;obtain⟨c,i⟩:=a0t.mp g;rcases T1.mp b with f|h<;>rcases T1.mp j with a|d
  .rw[f,a]
  .exact absurd (by rw[<- f,e];exact a0R d) c
  .exact absurd (by rw[<- a,<- e];exact a0R h) c
  .exact l i h d
end
section
variable {F:Str->Ht}{U:List Tp}{t:Tp}
abbrev duA(F:Str->Ht)(U A:List Tp):List (Key×PV):=A.map λt=>(sk t.1,.l (((U.filter (lnk F t)).map (·.1)).map .s))
def Dz(h:z∉A.map (·.1)):zm (duA F U A) (sk z)=none:=by
 cases e:zm (duA F U A) (sk z)with
 |none=>rfl
 |some x=>obtain⟨t,b,a⟩:=a0i.mp (qK e);cases a;exact absurd (a0R b) h
end
theorem AK:∀{a:SY},ng (vK a)=some a
 |[]=>rfl
 | (k,x)::a=>by show(ng (vK a)).map ((k,x)::·)=_;rw[AK];rfl
def AL(c:m ρ=.ok x)(b:lo ρ=.ok l)(a:hi ρ=.ok h):mSl pSl m lo hi ρ=pSl x l h:=by unfold mSl;rw[c,okb,b];show((hi ρ).bind λh=>pSl x l h)=_;rw[a];rfl
def Hy(h:m ρ=.ok (.i i)):J_ m ρ=.ok (some i):=by unfold J_;rw[h];rfl
def Nr(d:∀t∈T,TOk P F t/\Nm t.1)(b:(T.map (·.1)).Nodup)(a:T.length<=40):mkV 12 qU [roP P W F,.l (T.map tP)]=.ok (VB (roP P W F) T):=by
 show(match qU [.g 0,.v (roP P W F),.v (.l (T.map tP))] [.o 12 []]with
  |.ok (.v .n) G=>(match je G 8 (.g 0)with
   |some z=>Out.ok z
   |none=>.wall)
  |.exc c fs _=>.exc c fs
  |_=>.wall)=_
 rw[show qU [.g 0,.v (roP P W F),.v (.l (T.map tP))] [.o 12 []]=_ from Dw (A:=[]) d b a];dsimp only;rw[Hx (ro:=roP P W F) (T:=T) (j:=1) rfl rfl]
section
variable {N:SA}{W:List Wy}{F:Str->Ht}{T:List Tp}{t:Tp}
def nT(F:Str->Ht)(T:List Tp):List (Key×PV):=(Xg T).map λt=>(sk t.1,.l ((Iw F T t).map .s))
def tF:(nT F T).map (·.1)=(Xg T).map λt=>sk t.1:=by unfold nT;rw[a0a];rfl
theorem lq{g:Tp->PV}:∀{U:List Tp},mz (U.map λt=>.t [.s t.1,g t])=some (U.map λt=>(sk t.1,g t))
 |[]=>rfl
 |t::U=>by show(mz (U.map λt=>.t [.s t.1,g t])).map ((sk t.1,g t)::·)=_;rw[lq (U:=U)];rfl
def Hz(c:(T.map (·.1)).Nodup):((nT F T).map (·.1)).Nodup:=by rw[tF];have:=a2E (S:=(·≠·)) sk (λa b h e=>h (a0W e)) (Nq c);rw[a0a]at this;exact this
def DA(nd:(T.map (·.1)).Nodup)(hT:∀t∈T,TOk N F t)(hl:T.length<=40):XJ [VB (roP N W F) T]=.ok (.d (nT F T)):=by
 have e1:J9 [(12,yb),(13,yG)] "names" (zb 0) zq [some (VB (roP N W F) T),none]=.ok (d0 T):=by show(if(List.lookup ("names":Str) [("roads",roP N W F),("by_name",PV.d (XR T)),("order",d0 T)]).isSome=true then Out.wall else yb [VB (roP N W F) T])=_;rw[ja (by decide +kernel),ja (by decide +kernel),ja (by decide +kernel),pq,if_neg (by intro z;cases z)];exact AJ
 have e2:=Xl (g:=dP) (e:=dQ) (λt:Tp=>PV.s t.1) (λt=>.t [.s t.1,.l ((Iw F T t).map .s)]) (λρ=>∃o,ρ=[o,some (VB (roP N W F) T),some (d0 T)]) (Xg T) [none,some (VB (roP N W F) T),some (d0 T)] ⟨none,rfl⟩ (λt ht ρ ⟨o,ho⟩=>by
  subst ho;exact⟨_,rfl,⟨_,rfl⟩,tw (zB rfl (zB (zx (xs:=[VB (roP N W F) T,.s t.1,d0 T]) rfl (AI nd hT hl (aB.mem_iff.mp ht))) rfl)) (a0C rfl)⟩) (by rw[nS];omega)
 have ed:jD [.l ((Xg T).map λt=>.t [.s t.1,.l ((Iw F T t).map .s)])]=.ok (.d (nT F T)):=by show k7 ((mz ((Xg T).map λt=>.t [.s t.1,.l ((Iw F T t).map .s)])).map λes=>PV.d (ZT es))=_;rw[lq];show Out.ok (PV.d (ZT (nT F T)))=_;unfold ZT;rw[p6 (acc:=[]) (by rw[a1h];exact Hz nd)];rfl
 exact zO (zd ⟨_,z8 e1,Q7 (zx (zB (UR (yx rfl) e2) rfl) ed)⟩)
end
local macro_rules | `(tactic| simp_all[$xs,*])=>`(tactic| simp(maxSteps:=1000000) (disch:=first|decide|omega) only[wI,N7,Ml,GD,GF,GG,GH,Pb,Pc,Pd,yo,kQ,yk,j_,CB,N6,gE,h8,wK,vm,yi,items,VU,sD,z9,mOp,mUn,mC,zb,zj,zc,zq,mr,my,o9,mOr,uS,g9,ae,J9,mSl,J_,Cz,VY,mLC,Ka,gNm,gTp,xj,Ql,asI,pSl,okb,L9,Sf,Sg,X6,EG,L_,O6,Ma,O7,VZ,Mb,Mc,Gz,Md,xw,O8,O9,xx,Ct,u7,EB,kd,Es,isN,noX,ag,V1,List.map_cons,List.map_nil,List.length_cons,List.length_nil,List.replicate,List.cons_append,List.nil_append,List.append_nil,List.getElem?_cons_zero,List.getElem?_cons_succ,List.getElem?_nil,List.set_cons_zero,List.set_cons_succ,a8,ja,pq,Mg,GB,Mh,GC,List.mem_singleton,List.mem_cons,List.not_mem_nil,or_false,true_or,or_true,eq_self,and_self,true_and,and_true,Option.map_some,Option.bind_some,Option.join_some,Nat.reduceAdd,Nat.reduceSub,Nat.reduceLeDiff,Nat.reduceLT,Nat.zero_add,Int.reduceEq,Int.reduceLT,Int.reduceLE,Int.reduceNeg,if_true,if_false,ite_true,ite_false,reduceIte,Bool.false_eq_true,Bool.not_true,Bool.not_false,Bool.true_and,Bool.and_true,Bool.false_and,Bool.and_false,Bool.true_or,Bool.or_true,Bool.false_or,Bool.or_false,Bool.false_xor,Bool.true_xor,decide_true,Mi,O_,Pa,decide_false,Option.isSome_some,Option.isSome_none,$xs,*])
local macro_rules | `(tactic| simp_all)=>`(tactic| simp_all[okb])
def cell(ns:Th)(k:Int):Int:=if k<ns.length then ns[k.toNat]?.getD 0 else k*k
def bY(h:0<=k)(a:k<1000):yr [.sc ns,.i k]=.ok (.i (cell ns k)):=by
 unfold yr XI cell;by_cases c:k<ns.length
 .have e:atI ns k=some (ns[k.toNat]?.getD 0):=by rw[ph h,T7 (by omega)];rfl
  simp_all[xu,c,e]
 .simp_all [xu,c]
def mix(c t:Int):Int:=(c % 2147483647*48271+t*69621)*(c % 2147483647*48271+t*69621) % 2147483629 / 8
def YU(b:-100000<t)(a:t<100000):zC [.i c,.i t]=.ok (.i (mix c t)):=by
 unfold zC bQ mix
 simp_all[xu]
def AN(h:a.length+b.length<=1000):qZ (.s a) (.s b)=.ok (.s (a++b)):=by have:a.length+b.length<=sizeLine:=T9 h (by decide);unfold qZ;simp only[this,if_true]
def PU(h:z.length<=1000):pSl (.s z) lo hi=.ok (.s (Txt.slice z lo hi)):=by have:z.length<=sizeLine:=T9 h (by decide);unfold pSl;simp only[this,if_true]
def AO(a:0<=k)(b:k<=1):(Txt.mul z k).length<=z.length:=by
 unfold Txt.mul;by_cases h:k<1
 .rw[if_pos h];exact a0y _
 .have:k=1:=by omega
  subst this;exact S5 _
abbrev Rw:=List (Key×List Key)
def rwP(R:Rw):PV:=.d (R.map λp=>(p.1,.l (p.2.map kP)))
def yI(R:Rw)(l:Tw):List Key:=(zm R l).getD []
def owP(ow:SS):List (Key×PV):=ow.map λp=>(p.1,kP p.2)
def trP(a:SQ):List (Key×PV):=a.map λk=>(k,.b true)
theorem Zh:∀{a:SQ}{k:Tw},k∈a->zm (trP a) k=some (PV.b true)
 |j::a,k,h=>by
  show zm ((j,PV.b true)::trP a) k=_;rw[zV];split
  .rfl
  .rename_i n;exact Zh ((T1.mp h).elim (λz=>absurd z.symm n) id)
theorem vD:∀{a:SQ}{k:Tw},k∉a->zm (trP a) k=none
 |[],k,_=>rfl
 |j::a,k,h=>by show zm ((j,PV.b true)::trP a) k=_;rw[zV,if_neg (λz=>h (by rw[z];exact u8))];exact vD λz=>h (S0 _ z)
def bZ(h:k∉tr):dput (trP tr) k (.b true)=trP (tr++[k]):=by unfold dput;rw[jh,vD h];show trP tr++[(k,.b true)]=trP (tr++[k]);unfold trP;rw[a0n];rfl
def tH(k:Tw):pk (kP k)=some k:=by cases k<;>rfl
def gh:pIn true (kP r) (.d kvs)=.ok (.b (!(zm kvs r).isSome)):=by cases r<;>exact a0D (λb=>Out.ok (PV.b b)) (a1Y _)
def AQ:pIx (.d kvs) (kP r)=k7 (zm kvs r):=by cases r<;>rfl
def WV(k:Tw):imm (kP k)=true:=by cases k<;>rfl
def stH(G:AH)(o t:Nat)(ow:SS)(a:SQ):AH:=(G.set o (.d (vK (owP ow)))).set t (.d (vK (trP a)))
def PX(a:t<G.length):(stH G o t ow tr)[t]?=some (.d (vK (trP tr))):=by unfold stH;rw[a0v (by rw[a0L];exact a)]
def Oj(a:o<G.length)(n:o≠t):(stH G o t ow tr)[o]?=some (.d (vK (owP ow))):=by unfold stH;rw[a0s (Ne.symm n),a0v a]
def PY:(stH G o t ow tr).set t (.d (vK (trP tr2)))=stH G o t ow tr2:=by unfold stH;rw[List.set_set]
def PZ(n:o≠t):(stH G o t ow tr).set o (.d (vK (owP ow2)))=stH G o t ow2 tr:=by unfold stH;rw[List.set_comm _ _ (Ne.symm n),List.set_set]
def AR(h:G[t]?=some (.d (vK kvs))):hPT [false,false,false,true,true] (z9 (mOp (pIn true) (zb 4) (zb 3))) [a,b,c,some (.g t),some (.v (kP r))] G=.ok (!(zm kvs r).isSome) G:=by
 have e:Kb [false,false,false,true,true] [a,b,c,some (.g t),some (.v (kP r))]=none:=rfl;have d:Km G [false,false,false,true,true] [a,b,c,some (.g t),some (.v (kP r))]=some [none,none,none,some (.d kvs),some (kP r)]:=by
  have:je G 8 (.g t)=some (.d kvs):=by unfold je;rw[h];show(il _ (vK kvs)).map PV.d=_;rw[dZ];rfl
  show((((je G 8 (.g t)).bind λy=>_).map _).map _).map _=_;rw[this];rfl
 unfold hPT;rw[e,d];show(match(pIn true (kP r) (.d kvs)).bind asB with | .ok x=>_ | .exc c fs=>_ | .wall=>_)=_;rw[gh];rfl
def AS(h:G[o]?=some (.d (vK kvs))):hPT [false,false,true,false,true] (z9 (mOp (pIn true) (zb 4) (zb 2))) [a,b,some (.g o),d,some (.v (kP r))] G=.ok (!(zm kvs r).isSome) G:=by
 have f:Kb [false,false,true,false,true] [a,b,some (.g o),d,some (.v (kP r))]=none:=rfl;have e:Km G [false,false,true,false,true] [a,b,some (.g o),d,some (.v (kP r))]=some [none,none,some (.d kvs),none,some (kP r)]:=by
  have:je G 8 (.g o)=some (.d kvs):=by unfold je;rw[h];show(il _ (vK kvs)).map PV.d=_;rw[dZ];rfl
  show(((je G 8 (.g o)).bind λy=>_).map _).map _=_;rw[this];rfl
 unfold hPT;rw[f,e];show(match(pIn true (kP r) (.d kvs)).bind asB with | .ok x=>_ | .exc c fs=>_ | .wall=>_)=_;rw[gh];rfl
def HB(h:G[o]?=some (.d (vK kvs)))(f:zm kvs r=some x)(hi:imm x=true):hP [false,false,true,false,true] (mOp pIx (zb 2) (zb 4)) [a,b,some (.g o),d,some (.v (kP r))] G=.ok (.v x) G:=by
 have g:Kb [false,false,true,false,true] [a,b,some (.g o),d,some (.v (kP r))]=none:=rfl;have e:Km G [false,false,true,false,true] [a,b,some (.g o),d,some (.v (kP r))]=some [none,none,some (.d kvs),none,some (kP r)]:=by
  have:je G 8 (.g o)=some (.d kvs):=by unfold je;rw[h];show(il _ (vK kvs)).map PV.d=_;rw[dZ];rfl
  show(((je G 8 (.g o)).bind λy=>_).map _).map _=_;rw[this];rfl
 unfold hP;rw[g,e];show(match pIx (.d kvs) (kP r)with | .ok x=>_ | .exc c fs=>_ | .wall=>_)=_;rw[AQ,f];show(if imm x=true then _ else _)=_;rw[if_pos hi]
theorem aC{j:Key->List (Key×Key)->List Key->FrO Key}{left:Tw}(f:∀{l d g b c a},j l d g=some (b,c,a)->g.length<=a.length/\d.length<=c.length):
  ∀{m:SQ}{d:SS}{g:SQ}{b:Bool}{c:SS}{a:SQ},frL j left m d g=some (b,c,a)->g.length<=a.length/\d.length<=c.length
 |[],d,g,b,c,a,e=>by cases e;exact⟨S5 _,S5 _⟩
 |r::m,d,g,b,c,a,e=>by
  have i:∀{d:SS},d.length<=(dput d r left).length:=λ{d}=>by
   unfold dput;split
   .rw[f8];exact S5 _
   .rw[S4];exact a0J _ _
  unfold frL at e;split at e
  .exact aC f e
  .split at e
   .cases e;exact⟨by rw[S4];exact a0J _ _,i⟩
   .split at e
    .cases e
    .rename_i h;cases e;obtain⟨p,q⟩:=f h;rw[S4]at p;exact⟨T9 (a0J _ _) p,T9 q i⟩
    .rename_i h;obtain⟨p,q⟩:=f h;obtain⟨o,n⟩:=aC f e;rw[S4]at p;exact⟨T9 (T9 (a0J _ _) p) o,T9 q n⟩
theorem gi{rows:Key->List Key}:∀{n:Nat}{l:Tw}{f:SS}{d:SQ}{b:Bool}{c:SS}{a:SQ},fr rows n l f d=some (b,c,a)->d.length<=a.length/\f.length<=c.length
 |0,_,_,_,_,_,_,e=>by cases e
 |n+1,_,_,_,_,_,_,e=>aC (gi (n:=n)) e
section
variable {self:List HV->AH->HX HV}{R:PV}{l r:Tw}{o t:Nat}{G:AH}{kv ko:SY}
abbrev rho(R:PV)(l:Tw)(o t:Nat)(x:Option HV):Qd:=[some (.v R),some (.v (kP l)),some (.g o),some (.g t),x]
def AU(h:G[t]?=some (.d (vK kv)))(a:zm kv r=some x):zR self (rho R l o t (some (.v (kP r)))) G=.nx (rho R l o t (some (.v (kP r)))) G:=by show(hPT _ _ _ _).fw _=_;rw[AR h,a];rfl
def AV(h:G[t]?=some (.d (vK kv)))(b:kv.length<sizeLine):mB (qJ 3) (qJ 4) (hP [] (mC (.b true))) (rho R l o t (some (.v (kP r)))) G=.nx (rho R l o t (some (.v (kP r)))) (G.set t (.d (vK (dput kv r (.b true))))):=by show(match G[t]?,pk (kP r)with|some (.d a),some q=>if a.length<sizeLine then HFw.nx _ (G.set t (.d (dput a q (.v (.b true)))))else .wall|_,_=>.wall)=_;rw[h,tH];show(if(vK kv).length<sizeLine then _ else _)=_;rw[if_pos (by unfold vK;rw[f8];exact b)];exact a0D (λz=>HFw.nx _ (G.set t (.d z))) (J8 (f:=HV.v))
def AW(h:G[o]?=some (.d (vK ko)))(b:ko.length<sizeLine):mB (qJ 2) (qJ 4) (qJ 1) (rho R l o t (some (.v (kP r)))) G=.nx (rho R l o t (some (.v (kP r)))) (G.set o (.d (vK (dput ko r (kP l))))):=by show(match G[o]?,pk (kP r)with|some (.d a),some q=>if a.length<sizeLine then HFw.nx _ (G.set o (.d (dput a q (.v (kP l)))))else .wall|_,_=>.wall)=_;rw[h,tH];show(if(vK ko).length<sizeLine then _ else _)=_;rw[if_pos (by unfold vK;rw[f8];exact b)];exact a0D (λz=>HFw.nx _ (G.set o (.d z))) (J8 (f:=HV.v))
end
section
variable {R:Rw}{o t:Nat}{G:AH}
def AX(h:zm R l=some a):pIx (rwP R) (kP l)=.ok (.l (a.map kP)):=by unfold rwP;rw[AQ,jf (f:=λa:List Key=>PV.l (a.map kP)),h];rfl
def OkR(R:Rw)(ow:SS):Prop:=∀x l,zm ow x=some l->∃a,zm R l=some a
theorem b4{self:List HV->AH->HX HV}{d:Nat}{left:Tw}(ho:o<G.length)(ht:t<G.length)(n:o≠t)
  (hself:∀{l ow tr b ow' tr'},fr (yI R) d l ow tr=some (b,ow',tr')->OkR R ow->(∃x,zm ow x=some l)->ow'.length<sizeLine->tr'.length<sizeLine->self [.v (rwP R),.v (kP l),.g o,.g t] (stH G o t ow tr)=.ok (.v (.b b)) (stH G o t ow' tr')):
  ∀{rs:SQ}{x:Option HV}{ow:SS}{tr:SQ}{b:Bool}{ow':SS}{tr':SQ},frL (fr (yI R) d) left rs ow tr=some (b,ow',tr')->OkR R ow->ow'.length<sizeLine->tr'.length<sizeLine->
   ∃x',Xf (hgN 4) (zR self) ((rs.map kP).map .v) (rho (rwP R) left o t x) (stH G o t ow tr)=if b=true then .rt (.v (.b true)) (stH G o t ow' tr')else .nx (rho (rwP R) left o t x') (stH G o t ow' tr')
 |[],x,ow,tr,b,ow',tr',e,_,_,_=>by cases e;exact⟨x,rfl⟩
 |r::rs,x,ow,tr,b,ow',tr',e,ok,l1,l2=>by
  have step:∀{o':HFw},zR self (rho (rwP R) left o t (some (.v (kP r)))) (stH G o t ow tr)=o'->Xf (hgN 4) (zR self) (((r::rs).map kP).map .v) (rho (rwP R) left o t x) (stH G o t ow tr)=(match o' with
   |.nx ρ2 G2=>Xf (hgN 4) (zR self) ((rs.map kP).map .v) ρ2 G2
   |.ct ρ2 G2=>Xf (hgN 4) (zR self) ((rs.map kP).map .v) ρ2 G2
   |.bk ρ2 G2=>.nx ρ2 G2
   |.rt v G2=>.rt v G2
   |.exc c fs G2=>.exc c fs G2
   |.wall=>.wall):=λ{o'} h=>by subst h;rfl
  have len:∀{ow:SS},(owP ow).length=ow.length:=λ{ow}=>by unfold owP;rw[f8]
  have lenT:∀{tr:SQ},(trP tr).length=tr.length:=λ{tr}=>by unfold trP;rw[f8]
  unfold frL at e;split at e
  .rename_i hr;obtain⟨x',h⟩:=b4 ho ht n hself (x:=some (.v (kP r))) e ok l1 l2;exact⟨x',(step (AU (PX ht) (Zh hr))).trans h⟩
  .rename_i hr;have nt:hPT [false,false,false,true,true] (z9 (mOp (pIn true) (zb 4) (zb 3))) (rho (rwP R) left o t (some (.v (kP r)))) (stH G o t ow tr)=.ok true (stH G o t ow tr):=by rw[AR (PX ht),vD hr];rfl
   have put:tr.length<sizeLine->mB (qJ 3) (qJ 4) (hP [] (mC (.b true))) (rho (rwP R) left o t (some (.v (kP r)))) (stH G o t ow tr)=.nx (rho (rwP R) left o t (some (.v (kP r)))) (stH G o t ow (tr++[r])):=λhl=>by rw[AV (PX ht) (by rw[lenT];exact hl),bZ hr,PY]
   have body:tr.length<sizeLine->zR self (rho (rwP R) left o t (some (.v (kP r)))) (stH G o t ow tr)=((hOr (hPT [false,false,true,false,true] (z9 (mOp (pIn true) (zb 4) (zb 2)))) (N_ (Qe self (yQ (qJ 0) (yQ (hP [false,false,true,false,true] (mOp pIx (zb 2) (zb 4))) (yQ (qJ 2) (yQ (qJ 3) cK))))))) (rho (rwP R) left o t (some (.v (kP r)))) (stH G o t ow (tr++[r]))).fw λc G1=>if c=true then wJ (mB (qJ 2) (qJ 4) (qJ 1)) (ip (hP [] (mC (.b true)))) (rho (rwP R) left o t (some (.v (kP r)))) G1 else .nx (rho (rwP R) left o t (some (.v (kP r)))) G1:=λhl=>by show(hPT _ _ _ _).fw _=_;rw[nt];show wJ (mB _ _ _) _ _ _=_;unfold wJ;rw[put hl];rfl
   have fin:∀{ow1:SS}{tr1:SQ},ow1.length<sizeLine->wJ (mB (qJ 2) (qJ 4) (qJ 1)) (ip (hP [] (mC (.b true)))) (rho (rwP R) left o t (some (.v (kP r)))) (stH G o t ow1 tr1)=.rt (.v (.b true)) (stH G o t (dput ow1 r left) tr1):=λ{ow1 tr1} hl=>by unfold wJ;rw[AW (Oj ho n) (by rw[len];exact hl)];unfold owP;rw[J8 (f:=kP)];show HFw.rt _ ((stH G o t ow1 tr1).set o (.d (vK (owP (dput ow1 r left)))))=_;rw[PZ n]
   have pl:∀{ow:SS},ow.length<=(dput ow r left).length:=λ{ow}=>by
    unfold dput;split
    .rw[f8];exact S5 _
    .rw[S4];exact a0J _ _
   split at e
   .rename_i hn;cases e;rw[S4]at l2;refine⟨x,(step (o':=.rt (.v (.b true)) (stH G o t (dput ow r left) (tr++[r]))) ((body (by omega)).trans ?_))⟩;unfold hOr;rw[AS (Oj ho n)];unfold owP;rw[jf (f:=kP),hn];exact fin (a0q pl l1)
   .rename_i l hl;have call:∀{b1:Bool}{ow1:SS}{tr1:SQ},fr (yI R) d l ow (tr++[r])=some (b1,ow1,tr1)->ow1.length<sizeLine->tr1.length<sizeLine->
      (hOr (hPT [false,false,true,false,true] (z9 (mOp (pIn true) (zb 4) (zb 2)))) (N_ (Qe self (yQ (qJ 0) (yQ (hP [false,false,true,false,true] (mOp pIx (zb 2) (zb 4))) (yQ (qJ 2) (yQ (qJ 3) cK))))))) (rho (rwP R) left o t (some (.v (kP r)))) (stH G o t ow (tr++[r]))=.ok b1 (stH G o t ow1 tr1):=λ{b1 ow1 tr1} h1 a b=>by
     unfold hOr;rw[AS (Oj ho n)];have g:zm (owP ow) r=some (kP l):=by unfold owP;rw[jf (f:=kP),hl];rfl
     rw[g];show HX.bind (Qe self _ _ _) _=_;have ar:(yQ (qJ 0) (yQ (hP [false,false,true,false,true] (mOp pIx (zb 2) (zb 4))) (yQ (qJ 2) (yQ (qJ 3) cK)))) (rho (rwP R) left o t (some (.v (kP r)))) (stH G o t ow (tr++[r]))=.ok [.v (rwP R),.v (kP l),.g o,.g t] (stH G o t ow (tr++[r])):=by show HX.bind (HX.bind (hP _ _ _ _) _) _=_;rw[HB (Oj ho n) g (WV l)];rfl
     unfold Qe;rw[ar];show HX.bind (self _ _) _=_;rw[hself h1 ok ⟨r,hl⟩ a b];rfl
    split at e
    .cases e
    .rename_i ow1 tr1 h1;cases e;have m:=gi h1;rw[S4]at m;have lo:ow1.length<sizeLine:=a0q pl l1;refine⟨x,(step (o':=.rt (.v (.b true)) (stH G o t (dput ow1 r left) tr')) ((body (by omega)).trans ?_))⟩;rw[call h1 lo l2];exact fin lo
    .rename_i ow1 tr1 h1;have m:=gi h1;have m2:=aC (gi (rows:=yI R) (n:=d)) e;rw[S4]at m;have lo:ow1.length<sizeLine:=a0q m2.2 l1;have lt:tr1.length<sizeLine:=a0q m2.1 l2;obtain⟨x',h⟩:=b4 ho ht n hself (x:=some (.v (kP r))) e (by rw[(Wc h1).1];exact ok) l1 l2;refine⟨x',(step (o':=.nx (rho (rwP R) left o t (some (.v (kP r)))) (stH G o t ow1 tr1)) ((body (by omega)).trans ?_)).trans h⟩;rw[call h1 lo lt];rfl
theorem AY(r:o<G.length)(s:t<G.length)(n:o≠t):∀{d:Nat}{l:Tw}{i:SS}{j:SQ}{b:Bool}{g:SS}{f:SQ},fr (yI R) d l i j=some (b,g,f)->OkR R i->(∃m,zm R l=some m)->g.length<sizeLine->f.length<sizeLine->
  zY d [.v (rwP R),.v (kP l),.g o,.g t] (stH G o t i j)=.ok (.v (.b b)) (stH G o t g f)
 |0,_,_,_,_,_,_,e,_,_,_,_=>by cases e
 |d+1,l,i,j,b,g,f,e,ok,⟨m,q⟩,v,w=>by
  have e:frL (fr (yI R) d) l (yI R l) i j=some (b,g,f):=e;have u:yI R l=m:=by unfold yI;rw[q];rfl
  rw[u]at e;obtain⟨z,h⟩:=b4 (self:=zY d) r s n (λ{l i j b g f} h ok ⟨x,q⟩ a b=>AY r s n h ok (ok x l q) a b) (x:=none) e ok v w;have y:ir [true,true] (yi (mOp pIx (zb 0) (zb 1))) (QL (zY d)) (zR (zY d)) (rho (rwP R) l o t none) (stH G o t i j)=Xf (hgN 4) (zR (zY d)) ((m.map kP).map .v) (rho (rwP R) l o t none) (stH G o t i j):=by show(match(pIx (rwP R) (kP l)).bind items with | .ok m=>Xf _ _ (m.map HV.v) _ _|_=>HFw.wall)=_;rw[AX q];rfl
  show(match vx (zY d) (rho (rwP R) l o t none) (stH G o t i j)with | .nx _ p=>HX.ok (HV.v PV.n) p | .rt x p=>.ok x p | .exc c fs p=>.exc c fs p|_=>.wall)=_;unfold vx wJ;rw[y,h];cases b<;>rfl
end
theorem AZ{t:Key->List (Key×Key)->List Key->FrO Key}{left:Tw}{A:SQ}(f:∀{l i c b d a},t l i c=some (b,d,a)->c.Nodup->(∀x∈c,x∈A)->a.Nodup/\∀x∈a,x∈A):
  ∀{m:SQ}{i:SS}{c:SQ}{b:Bool}{d:SS}{a:SQ},frL t left m i c=some (b,d,a)->(∀x∈m,x∈A)->c.Nodup->(∀x∈c,x∈A)->a.Nodup/\∀x∈a,x∈A
 |[],i,c,b,d,a,e,_,n,h=>by cases e;exact⟨n,h⟩
 |r::m,i,c,b,d,a,e,s,n,h=>by
  have j:∀x∈m,x∈A:=λx g=>s x (S0 _ g);unfold frL at e;split at e
  .exact AZ f e j n h
  .rename_i w;have o:(c++[r]).Nodup:=a0r.mpr ⟨n,by simp,λx g y u z=>w (by rw[<- List.mem_singleton.mp u,<- z];exact g)⟩;have p:∀x∈c++[r],x∈A:=λx g=>(a0j.mp g).elim (h x) λz=>by rw[T2.mp z];exact s r u8
   split at e
   .cases e;exact⟨o,p⟩
   .split at e
    .cases e
    .rename_i q;cases e;exact f q o p
    .rename_i q;obtain⟨B,v⟩:=f q o p;exact AZ f e j B v
theorem Nt{rows:Key->List Key}{A:SQ}(g:∀l,∀x∈rows l,x∈A):∀{n:Nat}{l:Tw}{h:SS}{d:SQ}{b:Bool}{f:SS}{c:SQ},fr rows n l h d=some (b,f,c)->d.Nodup->(∀x∈d,x∈A)->c.Nodup/\∀x∈c,x∈A
 |0,_,_,_,_,_,_,e,_,_=>by cases e
 |n+1,l,_,_,_,_,_,e,a,b=>AZ (Nt g (n:=n)) e (g l) a b
def allR(R:Rw):List Key:=R.flatMap (·.2)
theorem A4:∀{R:Rw}{k:Nat},(∀p∈R,p.2.length<=k)->(allR R).length<=R.length*k
 |[],k,_=>by simp[allR]
 |p::R,k,h=>by have:=A4 (R:=R) (k:=k) λq a=>h q (S0 _ a);have b:=h p u8;unfold allR at this ⊢;rw[List.flatMap_cons,S4,v4,Nat.succ_mul];omega
def DB(l:Tw):∀x∈yI R l,x∈allR R:=λx a=>by
 unfold yI at a;cases e:zm R l with
 |none=>rw[e]at a;cases a
 |some b=>rw[e]at a;exact List.mem_flatMap.mpr ⟨_,qK e,a⟩
structure Fo(R:Rw):Prop where
 nd:(R.map (·.1)).Nodup
 few:R.length<=40
 short:∀p∈R,p.2.length<=40
def A5:stH (G++c::(X++[c'])) G.length (G.length+1+X.length) ow tr=G++.d (vK (owP ow))::(X++[.d (vK (trP tr))]):=by unfold stH;rw[a1p _ _ (S5 _),a0M,a3O,a1p _ _ (by omega),show G.length+1+X.length-G.length=X.length+1 from by omega,List.set_cons_succ,a1p _ _ (S5 _),a0M,a3O]
theorem b5{R:Rw}{G:AH}(hR:Fo R):∀{ls done:SQ}{ow:SS}{X:AH}{x:Option HV},done++ls=R.map (·.1)->Good (yI R) done ow->
  ∃x' ow' X',Xf zK zy ((ls.map kP).map .v) [some (.v (rwP R)),some (.g G.length),x] (G++.d (vK (owP ow))::X)=.nx [some (.v (rwP R)),some (.g G.length),x'] (G++.d (vK (owP ow'))::X')/\Good (yI R) (R.map (·.1)) ow'/\gr (yI R) 45 ls ow=some ow'
 |[],done,ow,X,x,e,g=>⟨x,ow,X,rfl,by rw[<- e,a0m];exact g,rfl⟩
 |l::ls,done,ow,X,x,e,g=>by
  have nd:=hR.nd;rw[<- e]at nd;have hl:l∉done:=λz=>(a0r.mp nd).2.2 l z l u8 rfl;have hlen:done.length+(ls.length+1)=R.length:=by have:=a0D List.length e;rw[S4,f8,v4]at this;exact this
  have few:=hR.few;obtain⟨b,ow1,tr1,h1,g1⟩:=g.one (n:=45) hl (by omega);have has:∀k∈R.map (·.1),∃xs,zm R k=some xs:=λk hk=>a0G.mp (kC.mpr hk);have l1:ow1.length<sizeLine:=by have:=g1.len;rw[S4]at this;exact a0q (m:=41) (by simp at this;omega) (by decide)
  have l2:tr1.length<sizeLine:=by obtain⟨n2,h2⟩:=Nt (rows:=yI R) (A:=allR R) DB h1 a0X (λx hx=>(a0U hx).elim);have:=Wd n2 h2;have a:=A4 hR.short;have:(allR R).length<=40*40:=T9 a (Nat.mul_le_mul_right _ few);exact a0q (m:=1600) (by omega) (by decide)
  have ca:=AY (R:=R) (G:=G++.d (vK (owP ow))::(X++[.d (vK [])])) (o:=G.length) (t:=G.length+1+X.length) (by simp) (by simp;omega) (by omega) h1 (λy l' hy=>has l' (by rw[<- e];exact T8 _ (g.sub y l' hy))) (has l (by rw[<- e];exact T4 _ u8)) l1 l2;rw[A5,A5]at ca;have hb:zy [some (.v (rwP R)),some (.g G.length),some (.v (kP l))] (G++.d (vK (owP ow))::X)=.nx [some (.v (rwP R)),some (.g G.length),some (.v (kP l))] (G++.d (vK (owP ow1))::(X++[.d (vK (trP tr1))])):=by
   have ln:(G++Cell.d (vK (owP ow))::X).length=G.length+1+X.length:=by rw[S4,v4];omega
   show HX.fw (zY 45 [.v (rwP R),.v (kP l),.g G.length,.g (G++Cell.d (vK (owP ow))::X).length] ((G++Cell.d (vK (owP ow))::X)++[.d (vK [])])) _=_;rw[ln,W1,a2S];rw[show([Cell.d (vK [])]:AH)=[Cell.d (vK (trP []))]from rfl,ca];rfl
  obtain⟨x',ow2,X2,h,g2,hgr⟩:=b5 hR (ls:=ls) (done:=done++[l]) (ow:=ow1) (X:=X++[.d (vK (trP tr1))]) (x:=some (.v (kP l))) (by rw[<- e];simp) g1;refine⟨x',ow2,X2,?_,g2,by unfold gr;rw[h1];exact hgr⟩;show(match zy [some (.v (rwP R)),some (.g G.length),some (.v (kP l))] (G++.d (vK (owP ow))::X)with
   |.nx ρ2 G2=>Xf zK zy ((ls.map kP).map .v) ρ2 G2
   |.ct ρ2 G2=>Xf zK zy ((ls.map kP).map .v) ρ2 G2
   |.bk ρ2 G2=>.nx ρ2 G2
   |.rt v G2=>.rt v G2
   |.exc c fs G2=>.exc c fs G2
   |.wall=>.wall)=_
  rw[hb];exact h
def lu(hR:Fo R)(hck:zW [rwP R]=.ok .n):∃ow X,zM [.v (rwP R)] G=.ok (.g G.length) (G++.d (vK (owP ow))::X)/\Good (yI R) (R.map (·.1)) ow/\gr (yI R) 45 (R.map (·.1)) []=some ow:=by
 obtain⟨x',ow,X,h,g,hgr⟩:=b5 (G:=G) hR (ls:=R.map (·.1)) (done:=[]) (ow:=[]) (X:=[]) (x:=none) rfl Dc;refine⟨ow,X,?_,g,hgr⟩;have c1:Xo (hP [true] (zj zW (zc (zb 0) zq))) [some (.v (rwP R)),none,none] G=.nx [some (.v (rwP R)),none,none] G:=by show HX.fw (match zW [rwP R]with | .ok x=>HX.ok (HV.v x) G | .exc c fs=>.exc c fs G | .wall=>.wall) _=_;rw[hck];rfl
 have ek:((R.map λp=>(p.1,PV.l (p.2.map kP))).map λkx=>kP kx.1).map HV.v=((R.map (·.1)).map kP).map .v:=by rw[a0a,a0a,a0a,a0a];rfl
 have c2:sR 0 zK zy [some (.v (rwP R)),some (.g G.length),none] (G++[.d (vK [])])=.nx [some (.v (rwP R)),some (.g G.length),x'] (G++.d (vK (owP ow))::X):=by show Xf _ _ (((R.map λp=>(p.1,PV.l (p.2.map kP))).map λkx=>kP kx.1).map .v) _ _=_;rw[ek];exact h
 show(match qu [some (.v (rwP R)),none,none] G with | .nx _ G'=>HX.ok (HV.v PV.n) G' | .rt x G'=>.ok x G' | .exc c fs G'=>.exc c fs G'|_=>.wall)=_;unfold qu;rw[show wJ (Xo (hP [true] (zj zW (zc (zb 0) zq)))) (wJ (Xn 1 (hF [] VY)) (wJ (sR 0 zK zy) (ip (qJ 1)))) [some (.v (rwP R)),none,none] G=(match sR 0 zK zy [some (.v (rwP R)),some (.g G.length),none] (G++[.d (vK [])])with
   |.nx ρ' G'=>ip (qJ 1) ρ' G' | .rt x G'=>.rt x G' | .bk ρ' G'=>.bk ρ' G' | .ct ρ' G'=>.ct ρ' G' | .exc c fs G'=>.exc c fs G' | .wall=>.wall)from by
  unfold wJ;rw[c1];rfl,c2]
 rfl
def DC{b:Type}{a:List (Key×b)}{v:b}(h:k∉a.map (·.1)):dput a k v=a++[(k,v)]:=by unfold dput;rw[jh,if_neg (λz=>h (kC.mp z))]
theorem lx:∀{es acc:SY},((acc++es).map (·.1)).Nodup->es.foldl (λacc kv=>dput acc kv.1 kv.2) acc=acc++es
 |[],acc,_=>by rw[a0m];rfl
 | (k,v)::es,acc,h=>by
  have ha:(acc++(k,v)::es)=(acc++[(k,v)])++es:=by simp
  rw[ha]at h ⊢;have hk:k∉acc.map (·.1):=λz=>by rw[a0n,a0n]at h;have:=(a0r.mp (a0r.mp h).1).2.2 k z k;exact this (by simp) rfl
  rw[a08];show es.foldl _ (dput acc k v)=_;rw[DC hk];exact lx h
theorem rq{f:Key×Key->PV}:∀{a:SS},mz (a.map λp=>PV.t [kP p.2,f p])=some (a.map λp=>(p.2,f p))
 |[]=>rfl
 |p::a=>by show((pk (kP p.2)).bind λq=>(mz (a.map λp=>PV.t [kP p.2,f p])).map ((q,f p)::·))=_;rw[tH,rq];rfl
def gj{mx:ME}{f:Key×Key->PV}{ow:SS}(nd:(ow.map (·.1)).Nodup)(nv:(ow.map (·.2)).Nodup)(hl:ow.length<=1000)(hx:∀p∈ow,∀z:Option PV,mx [some (kP p.1),z]=.ok (f p)){r0:Te}{rest:Sto}:
  zj jD (zc (mLC (zP 1) [none,some 1] (gNm 0) sE (my (zc (mOp pIx (zb 1) (zb 0)) (zc mx zq)))) zq) (r0::some (.d (owP ow))::rest)=.ok (.d (ow.map λp=>(p.2,f p))):=by
 have e1:mLC (zP 1) [none,some 1] (gNm 0) sE (my (zc (mOp pIx (zb 1) (zb 0)) (zc mx zq))) (r0::some (.d (owP ow))::rest)=.ok (.l (ow.map λp=>PV.t [kP p.2,f p])):=by refine UR (xs:=ow.map λp=>kP p.1) (by show Out.ok ((owP ow).map _)=_;unfold owP;rw[a0a];rfl) ?_;refine Xl (λp:Key×Key=>kP p.1) (λp=>PV.t [kP p.2,f p]) (λρ=>∃z,ρ=[z,some (.d (owP ow))]) ow _ ⟨none,rfl⟩ (λp hp ρ ⟨z,e⟩=>?_) (by omega);subst e;refine⟨_,rfl,⟨_,rfl⟩,?_⟩;show((pIx (.d (owP ow)) (kP p.1)).bind λx=>((mx [some (kP p.1),some (.d (owP ow))]).bind λy=>Out.ok [y]).bind λxs=>.ok (x::xs)).bind _=_;rw[AQ,show zm (owP ow) p.1=some (kP p.2)from by unfold owP;rw[jf (f:=kP),yf nd (show(p.1,p.2)∈ow from hp)];rfl,hx p hp];show(if([kP p.2,f p]:List PV).length<=sizeLine then Out.ok (PV.t [kP p.2,f p])else .wall)=_;exact if_pos (show 2<=sizeLine from by decide)
 show((mLC _ _ _ _ _ _).bind λx=>Out.ok [x]).bind jD=_;rw[e1];show k7 ((mz _).map λes=>PV.d (ZT es))=_;rw[rq];show Out.ok (PV.d (ZT _))=_;unfold ZT;rw[lx (acc:=[]) (by rw[a1h,a0a];exact nv)];rfl
theorem vE{b:Type}{f:b->PV}(h:∀x,imm (f x)=true):∀{a:List b},fi (a.map f)=true
 |[]=>rfl
 |x::a=>by show(imm (f x)&&fi (a.map f))=true;rw[h,vE h];rfl
def nW(h:G[k]?=some (.d (vK kvs))):je G 8 (.g k)=some (.d kvs):=by unfold je;rw[h];show(il _ (vK kvs)).map PV.d=_;rw[dZ];rfl
def b6(a:Kb bs ρ=none)(e:Km G bs ρ=some r)(d:m r=.ok x)(hi:Pn x=true)(b:CN x=some c):hF bs m ρ G=.ok (.g G.length) (G++[c]):=by unfold hF;rw[a,e];dsimp only;rw[d];dsimp only;rw[if_pos hi,b]
def nX(a:Fo R)(g:Good (yI R) (R.map (·.1)) ow):ow.length<=40:=by have:=g.len;rw[f8]at this;exact T9 this a.few
def nY(j:Fo R)(i:zW [rwP R]=.ok .n):∃a X k D,wc [.v (rwP R)] G=.ok (.g k) (G++X)/\(G++X)[k]?=some (.d (vK D))/\D=a.map (λp=>(p.2,kP p.1))/\Good (yI R) (R.map (·.1)) a/\gr (yI R) 45 (R.map (·.1)) []=some a:=by
 obtain⟨a,X,h,g,d⟩:=lu (G:=G) j i;have l:(G++.d (vK (owP a))::X)[G.length]?=some (.d (vK (owP a))):=by rw[a0h (S5 _),a0M];rfl
 have e:=gj (mx:=zb 0) (f:=λp=>kP p.1) g.nd g.vals (T9 (nX j g) (by decide)) (λp _ z=>rfl) (r0:=none) (rest:=[]);have hf:=b6 (ρ:=[some (.v (rwP R)),some (.g G.length)]) (G:=G++.d (vK (owP a))::X) (bs:=[false,true]) (m:=zj jD (zc (mLC (zP 1) [none,some 1] WJ WK WL) zq)) (r:=[none,some (.d (owP a))]) (c:=.d (vK (a.map λp=>(p.2,kP p.1)))) rfl
  (by show((je _ 8 (.g G.length)).bind λy=>_).map _=_;rw[nW l];rfl) e (by show fi _=true;rw[a0a];exact vE λp=>WV _) rfl
 refine⟨a,.d (vK (owP a))::X++[.d (vK (a.map λp=>(p.2,kP p.1)))],(G++.d (vK (owP a))::X).length,a.map (λp=>(p.2,kP p.1)),?_,?_,rfl,g,d⟩
 .show(match Yy [some (.v (rwP R)),none] G with | .nx _ b=>HX.ok (HV.v PV.n) b | .rt x b=>.ok x b | .exc c fs b=>.exc c fs b|_=>.wall)=_;unfold Yy wJ;rw[show Xn 1 (Qe zM (yQ (qJ 0) cK)) [some (.v (rwP R)),none] G=.nx [some (.v (rwP R)),some (.g G.length)] (G++.d (vK (owP a))::X)from by
   show HX.fw (zM [.v (rwP R)] G) _=_;rw[h];rfl]
  show(match HX.fw (hF _ _ _ _) _ with | .nx _ b=>HX.ok (HV.v PV.n) b | .rt x b=>.ok x b | .exc c fs b=>.exc c fs b|_=>.wall)=_;rw[hf];show HX.ok _ _=_;rw[W1]
 .rw[<- W1,a0h (S5 _),a0M];rfl
section
variable {c:HMT}{b:HMS}
theorem gm:∀{n:Nat}{e:Qd}{G:AH},yA c b n e G≠.wall->yA c b (n+1) e G=yA c b n e G
 |0,e,G,h=>absurd rfl h
 |n+1,e,G,h=>by
  rw[yA.eq_2]at h;rw[yA.eq_2,yA.eq_2 _ _ _ _ n];cases g:c e G with
  |ok t f=>
   rw[g]at h;cases t with
   |false=>rfl
   |true=>
    revert h;show(match b e f with | .nx a d=>yA c b n a d | .ct a d=>yA c b n a d | .bk a d=>.nx a d | .rt v d=>.rt v d | .exc c fs d=>.exc c fs d | .wall=>.wall)≠HFw.wall->(match b e f with | .nx a d=>yA c b (n+1) a d | .ct a d=>yA c b (n+1) a d | .bk a d=>.nx a d | .rt v d=>.rt v d | .exc c fs d=>.exc c fs d | .wall=>.wall)=(match b e f with | .nx a d=>yA c b n a d | .ct a d=>yA c b n a d | .bk a d=>.nx a d | .rt v d=>.rt v d | .exc c fs d=>.exc c fs d | .wall=>.wall);cases b e f with
    |nx a d=>exact λh=>gm h
    |ct a d=>exact λh=>gm h
    |_=>exact λ_=>rfl
  |exc=>rfl
  |wall=>rfl
def rA(h:yA c b n ρ G≠.wall)(d:n<=m):yA c b m ρ G=yA c b n ρ G:=by
 induction d with
 |refl=>rfl
 |step _ a=>exact(gm (by rw[a];exact h)).trans a
def A6(h:yA c b n ρ G=o)(d:o≠.wall):iq c b ρ G=o:=by have e:∃n,yA c b n ρ G≠.wall:=⟨n,by rw[h];exact d⟩;unfold iq;rw[dif_pos e];have a:=a0A e;rw[<- h]at d ⊢;rw[<- rA a (Nat.le_max_left _ n),<- rA d (Nat.le_max_right (Classical.choose e) n)]
end
def rsH(P:AH)(ls a:SQ):AH:=P++[.l ((ls.map kP).map .v),.d (vK (trP a))]
abbrev Kf(R:PV)(o:Nat)(a:Option HV)(P:AH)(w:Nat)(x y:Option HV):Qd:=[some (.v R),some (.g o),a,some (.g P.length),some (.g (P.length+1)),some (.v (.i (w:Int))),x,y]
section
variable {R:PV}{o w:Nat}{a x y:Option HV}{P:AH}{ls rs:SQ}{ow:SS}{r:Tw}
def Ol:(rsH P ls rs)[P.length]?=some (.l ((ls.map kP).map .v)):=by unfold rsH;rw[a0h (S5 _),a0M];rfl
def P0:(rsH P ls rs)[P.length+1]?=some (.d (vK (trP rs))):=by unfold rsH;rw[a0h (a0J _ _),a1B];rfl
def Sq(b:P[o]?=some (.d (vK (owP ow)))):(rsH P ls rs)[o]?=some (.d (vK (owP ow))):=by unfold rsH;rw[a0o (S7.mp b).1];exact b
def HD:(rsH P ls rs).set P.length (.l ((ls2.map kP).map .v))=rsH P ls2 rs:=by unfold rsH;rw[a1p _ _ (S5 _),a0M];rfl
def HF:(rsH P ls rs).set (P.length+1) (.d (vK (trP rs2)))=rsH P ls rs2:=by unfold rsH;rw[a1p _ _ (a0J _ _),a1B];rfl
theorem A7{G:AH}{n:Nat}:∀{b:SX},cH (je G (n+1)) (b.map .v)=some b
 |[]=>rfl
 |x::b=>by show((je G (n+1) (.v x)).bind λy=>(cH (je G (n+1)) (b.map .v)).map (y::·))=_;rw[A7];rfl
def Nu(h:G[k]?=some (.l (xs.map .v))):je G 8 (.g k)=some (.l xs):=by unfold je;rw[h];show(cH _ (xs.map HV.v)).map PV.l=_;rw[A7];rfl
def Nv:hPT [false,false,false,false,true,false,false,true] (z9 (mOp (pIn true) (zb 7) (zb 4))) (Kf R o a P w x (some (.v (kP r)))) (rsH P ls rs)=.ok (!(zm (trP rs) r).isSome) (rsH P ls rs):=by
 have d:Kb [false,false,false,false,true,false,false,true] (Kf R o a P w x (some (.v (kP r))))=none:=rfl;have b:Km (rsH P ls rs) [false,false,false,false,true,false,false,true] (Kf R o a P w x (some (.v (kP r))))=some [none,none,none,none,some (.d (trP rs)),none,none,some (kP r)]:=by show(((((je _ 8 (.g (P.length+1))).bind λy=>_).map _).map _).map _).map _=_;rw[nW P0];rfl
 unfold hPT;rw[d,b];show(match(pIn true (kP r) (.d (trP rs))).bind asB with | .ok x=>_ | .exc c fs=>_ | .wall=>_)=_;rw[gh];rfl
def Nw(b:P[o]?=some (.d (vK (owP ow))))(e:zm ow r=some l):hP [false,true,false,false,false,false,false,true] (mOp pIx (zb 1) (zb 7)) (Kf R o a P w x (some (.v (kP r)))) (rsH P ls rs)=.ok (.v (kP l)) (rsH P ls rs):=by
 have g:Kb [false,true,false,false,false,false,false,true] (Kf R o a P w x (some (.v (kP r))))=none:=rfl;have d:Km (rsH P ls rs) [false,true,false,false,false,false,false,true] (Kf R o a P w x (some (.v (kP r))))=some [none,some (.d (owP ow)),none,none,none,none,none,some (kP r)]:=by show((je _ 8 (.g o)).bind λy=>_).map _=_;rw[nW (Sq b)];rfl
 unfold hP;rw[g,d];show(match pIx (.d (owP ow)) (kP r)with | .ok x=>_ | .exc c fs=>_ | .wall=>_)=_;rw[AQ,show zm (owP ow) r=some (kP l)from by unfold owP;rw[jf (f:=kP),e];rfl];show(if imm (kP l)=true then _ else _)=_;rw[if_pos (WV l)]
theorem nZ(ho:P[o]?=some (.d (vK (owP ow)))):∀{t ls rs ls' rs':SQ}{y:Option HV},rcI ow t (ls,rs)=some (ls',rs')->ls'.length<sizeLine->rs'.length<sizeLine->
  ∃y',Xf qD yY ((t.map kP).map .v) (Kf R o a P w x y) (rsH P ls rs)=.nx (Kf R o a P w x y') (rsH P ls' rs')/\ls.length<=ls'.length/\rs.length<=rs'.length
 |[],ls,rs,ls',rs',y,e,_,_=>by cases e;exact⟨y,rfl,S5 _,S5 _⟩
 |r::t,ls,rs,ls',rs',y,e,l1,l2=>by
  have step:∀{o':HFw},yY (Kf R o a P w x (some (.v (kP r)))) (rsH P ls rs)=o'->Xf qD yY (((r::t).map kP).map .v) (Kf R o a P w x y) (rsH P ls rs)=(match o' with
   |.nx ρ2 G2=>Xf qD yY ((t.map kP).map .v) ρ2 G2
   |.ct ρ2 G2=>Xf qD yY ((t.map kP).map .v) ρ2 G2
   |.bk ρ2 G2=>.nx ρ2 G2
   |.rt v G2=>.rt v G2
   |.exc c fs G2=>.exc c fs G2
   |.wall=>.wall):=λ{o'} h=>by subst h;rfl
  unfold rcI at e;split at e
  .rename_i hr;obtain⟨y',h,a1,a2⟩:=nZ ho (y:=some (.v (kP r))) e l1 l2;refine⟨y',(step (o':=.nx (Kf R o a P w x (some (.v (kP r)))) (rsH P ls rs)) ?_).trans h,a1,a2⟩;show HX.fw (hPT _ _ _ _) _=_;rw[Nv,Zh hr];rfl
  .rename_i hr;split at e
   .cases e
   .rename_i l hl;obtain⟨y',h,a1,a2⟩:=nZ ho (y:=some (.v (kP r))) e l1 l2;rw[S4]at a1 a2;have b1:ls.length<sizeLine:=a0q (T9 (a0J _ _) a1) l1;have b2:rs.length<sizeLine:=a0q (T9 (a0J _ _) a2) l2;refine⟨y',(step (o':=.nx (Kf R o a P w x (some (.v (kP r)))) (rsH P (ls++[l]) (rs++[r]))) ?_).trans h,T9 (a0J _ _) a1,T9 (a0J _ _) a2⟩;show HX.fw (hPT _ _ _ _) _=_;rw[Nv,vD hr];show wJ (mB _ _ _) _ _ _=_;unfold wJ;rw[show mB (qJ 4) (qJ 7) (hP [] (mC (.b true))) (Kf R o a P w x (some (.v (kP r)))) (rsH P ls rs)=.nx (Kf R o a P w x (some (.v (kP r)))) (rsH P ls (rs++[r]))from by
     show(match(rsH P ls rs)[P.length+1]?,pk (kP r)with|some (.d kvs),some q=>if kvs.length<sizeLine then HFw.nx _ ((rsH P ls rs).set (P.length+1) (.d (dput kvs q (.v (.b true)))))else .wall|_,_=>.wall)=_;rw[P0,tH];show(if(vK (trP rs)).length<sizeLine then _ else _)=_;rw[if_pos (by unfold vK trP;rw[f8,f8];exact b2),show dput (vK (trP rs)) r (.v (.b true))=vK (trP (rs++[r]))from(J8 (f:=HV.v)).trans (by rw[bZ hr];rfl),HF]]
    show(match(rsH P ls (rs++[r]))[P.length]? with|some (.l _)=>HX.fw (hP _ _ _ _) _|_=>.wall)=_;rw[Ol];show HX.fw (hP _ _ _ _) _=_;rw[Nw ho hl];show(match(rsH P ls (rs++[r]))[P.length]? with|some (.l xs)=>if xs.length<sizeLine then HFw.nx _ ((rsH P ls (rs++[r])).set P.length (.l (xs++[HV.v (kP l)])))else .wall|_=>.wall)=_;rw[Ol];show(if((ls.map kP).map HV.v).length<sizeLine then _ else _)=_;rw[if_pos (by rw[f8,f8];exact b1),show(ls.map kP).map HV.v++[HV.v (kP l)]=((ls++[l]).map kP).map HV.v from by simp,HD]
end
def Nx{a:Type}{xs:List a}{w:Nat}{x:a}(h:xs[w]?=some x):atI xs (w:Int)=some x:=by have b:=(S7.mp h).1;unfold atI ixN;rw[if_pos (by omega),if_pos (by omega)];exact h
theorem n4{ow:SS}:∀{t c d a b:SQ},rcI ow t (c,d)=some (a,b)->∀l∈a,l∈c\/∃x,zm ow x=some l
 |[],c,d,a,b,e,l,h=>by cases e;exact .inl h
 |r::t,c,d,a,b,e,l,h=>by
  unfold rcI at e;split at e
  .exact n4 e l h
  .split at e
   .cases e
   .rename_i g f;rcases n4 e l h with z|z
    .rcases a0j.mp z with z|z
     .exact .inl z
     .rw[T2.mp z];exact .inr ⟨r,f⟩
    .exact .inr z
section
variable {R:Rw}{o:Nat}{a:Option HV}{P:AH}{ow:SS}
def Ny:jI (Kf (rwP R) o a P w x y) (rsH P ls rs)=.ok (decide (w<ls.length)) (rsH P ls rs):=by
 have c:Kb [false,false,false,true,false,true] (Kf (rwP R) o a P w x y)=none:=rfl;have b:Km (rsH P ls rs) [false,false,false,true,false,true] (Kf (rwP R) o a P w x y)=some [none,none,none,some (.l (ls.map kP)),none,some (.i (w:Int)),none,none]:=by show((((je _ 8 (.g P.length)).bind λy=>_).map _).map _).map _=_;rw[Nu (xs:=ls.map kP) Ol];rfl
 unfold jI hPT;rw[c,b];show HX.ok (decide ((w:Int)<((ls.map kP).length:Int))) _=_;rw[f8];congr 1;exact decide_eq_decide.mpr Int.ofNat_lt
def Nz(h:ls[w]?=some l):hP [false,false,false,true,false,true] (mOp pIx (zb 3) (zb 5)) (Kf (rwP R) o a P w x y) (rsH P ls rs)=.ok (.v (kP l)) (rsH P ls rs):=by
 have d:Kb [false,false,false,true,false,true] (Kf (rwP R) o a P w x y)=none:=rfl;have b:Km (rsH P ls rs) [false,false,false,true,false,true] (Kf (rwP R) o a P w x y)=some [none,none,none,some (.l (ls.map kP)),none,some (.i (w:Int)),none,none]:=by show((((je _ 8 (.g P.length)).bind λy=>_).map _).map _).map _=_;rw[Nu (xs:=ls.map kP) Ol];rfl
 unfold hP;rw[d,b];show(match k7 (atI (ls.map kP) (w:Int))with | .ok x=>_ | .exc c fs=>_ | .wall=>_)=_;rw[Nx (x:=kP l) (by rw[a0e,h];rfl)];show(if imm (kP l)=true then _ else _)=_;rw[if_pos (WV l)]
theorem gp(G:P[o]?=some (.d (vK (owP ow))))(ok:OkR R ow):∀{n w:Nat}{d j g f:SQ}{x y:Option HV},rcW (yI R) ow n w (d,j)=some (g,f)->(∀l∈d,∃t,zm R l=some t)->g.length<sizeLine->f.length<sizeLine->
  ∃J F K,yA jI qE n (Kf (rwP R) o a P w x y) (rsH P d j)=.nx (Kf (rwP R) o a P J F K) (rsH P g f)/\d.length<=g.length/\j.length<=f.length
 |0,w,d,j,g,f,x,y,e,_,_,_=>by cases e
 |n+1,w,d,j,g,f,x,y,e,B,H,I=>by
  unfold rcW at e;rw[yA.eq_2,Ny];cases z:d[w]? with
  |none=>rw[z]at e;cases e;have:¬w<d.length:=Nat.not_lt.mpr (a1r.mp z);rw[T5 this];exact⟨w,x,y,rfl,S5 _,S5 _⟩
  |some l=>
   rw[z]at e;dsimp only at e;have lt:w<d.length:=(S7.mp z).1;obtain⟨t,L⟩:=B l (a0Q z);have S:yI R l=t:=by unfold yI;rw[L];rfl
   rw[S]at e;split at e
   .cases e
   .rename_i X N;obtain⟨u,C⟩:=X;have s:∀A∈u,∃t,zm R A=some t:=λA E=>(n4 N A E).elim (B A) λ⟨q,U⟩=>ok q A U;obtain⟨_,_,_,_,O,M⟩:=gp G ok (x:=none) (y:=none) e s H I;obtain⟨D,T,W,Q⟩:=nZ (R:=rwP R) (a:=a) (w:=w) (x:=some (.v (kP l))) G (y:=y) N (a0q O H) (a0q M I);obtain⟨J,F,K,h,_,_⟩:=gp G ok (x:=some (.v (kP l))) (y:=D) e s H I;have hf:ir [true,false,false,false,false,false,true] (yi (mOp pIx (zb 0) (zb 6))) qD yY (Kf (rwP R) o a P w (some (.v (kP l))) y) (rsH P d j)=.nx (Kf (rwP R) o a P w (some (.v (kP l))) D) (rsH P u C):=by show(match(pIx (rwP R) (kP l)).bind items with | .ok t=>Xf qD yY (t.map HV.v) (Kf (rwP R) o a P w (some (.v (kP l))) y) (rsH P d j)|_=>HFw.wall)=_;rw[AX L];exact T
    have Z:Xn 6 (hP [false,false,false,true,false,true] (mOp pIx (zb 3) (zb 5))) (Kf (rwP R) o a P w x y) (rsH P d j)=.nx (Kf (rwP R) o a P w (some (.v (kP l))) y) (rsH P d j):=by show HX.fw (hP _ _ _ _) _=_;rw[Nz z];rfl
    have Y:qE (Kf (rwP R) o a P w x y) (rsH P d j)=.nx (Kf (rwP R) o a P (w+1) (some (.v (kP l))) D) (rsH P u C):=by unfold qE wJ;rw[Z];show(match ir _ _ _ _ _ _ with | .nx i r=>Oa 5 (λa b=>a+b) (hP [] (mC (.i 1))) i r | .rt x r=>.rt x r | .bk i r=>.bk i r | .ct i r=>.ct i r | .exc c fs r=>.exc c fs r | .wall=>.wall)=_;rw[hf];rfl
    refine⟨J,F,K,?_,T9 W O,T9 Q M⟩;rw[a0d lt];show(match qE (Kf (rwP R) o a P w x y) (rsH P d j)with | .nx m p=>yA jI qE n m p | .ct m p=>yA jI qE n m p | .bk m p=>.nx m p | .rt v p=>.rt v p | .exc c fs p=>.exc c fs p | .wall=>.wall)=_;rw[Y];exact h
end
def tI(v:Fo R)(D:zW [rwP R]=.ok .n):∃(j:SS)(U:SQ)(P X:AH)(i d:SQ)(k:Nat),Z0 [.v (rwP R)] G=.ok (.t [.g P.length,.g k]) (P++X)/\(∃Y,P=G++Y)/\(P++X)[P.length]?=some (.l ((i.map kP).map .v))/\(P++X)[k]?=some (.l ((d.map kP).map .v))/\P.length<k/\Good (yI R) (R.map (·.1)) j/\gr (yI R) 45 (R.map (·.1)) []=some j/\U.length+j.length=R.length/\
  i.length=U.length+d.length/\i.Nodup/\(∀l∈i,l∈R.map (·.1))/\d.Nodup/\(∀x,x∈d↔∃l∈i,x∈yI R l)/\(∀l∈R.map (·.1),(∀x,zm j x≠some l)->l∈i)/\(∀x∈d,∀l,zm j x=some l->l∈i):=by
 obtain⟨j,X,h,g,F⟩:=lu (G:=G) v D;have le:=nX v g;have few:=v.few;have C:(G++.d (vK (owP j))::X)[G.length]?=some (.d (vK (owP j))):=by rw[a0h (S5 _),a0M];rfl
 generalize hG1:G++.d (vK (owP j))::X=G1 at h C
 -- served
 have e:=gj (mx:=mC (.b true)) (f:=λp=>.b true) g.nd g.vals (T9 le (by decide)) (λp _ z=>rfl) (r0:=none) (rest:=[none,none,none,none,none,none]);have K:hF [false,true] (zj jD (zc (mLC (zP 1) [none,some 1] Q2 Q3 Q4) zq)) [some (.v (rwP R)),some (.g G.length),none,none,none,none,none,none] G1=.ok (.g G1.length) (G1++[.d (vK (trP (j.map (·.2))))]):=
  b6 (r:=[none,some (.d (owP j)),none,none,none,none,none,none]) rfl (by show((je _ 8 (.g G.length)).bind λy=>_).map _=_;rw[nW C];rfl) e (by show fi _=true;rw[a0a];exact vE λp=>rfl) (by show some (Cell.d (vK _))=_;unfold trP;rw[a0a];rfl)
 generalize hV:j.map (·.2)=V at K;have Z:V.Nodup:=by rw[<- hV];exact g.vals
 have B:∀l,l∈V↔∃x,zm j x=some l:=λl=>by
  rw[<- hV,a0i];constructor
  .rintro ⟨⟨x,l'⟩,hm,rfl⟩;exact⟨x,yf g.nd hm⟩
  .rintro ⟨x,m⟩;exact⟨(x,l),qK m,rfl⟩
 have lV:V.length=j.length:=by rw[<- hV,f8]
 generalize hP:G1++[.d (vK (trP V))]=P at K;have oP:P[G.length]?=some (.d (vK (owP j))):=by rw[<- hP,a0o (S7.mp C).1];exact C
 have sP:P[G1.length]?=some (.d (vK (trP V))):=by rw[<- hP,a0h (S5 _),a0M];rfl
 have H:hF [true,false,true] (mLC (zP 0) [none,some 2] Zb Zc Zd) [some (.v (rwP R)),some (.g G.length),some (.g G1.length),none,none,none,none,none] P=.ok (.g P.length) (P++[.l (((bare (R.map (·.1)) V).map kP).map .v)]):=by
  refine b6 (r:=[some (rwP R),none,some (.d (trP V)),none,none,none,none,none]) (x:=.l ((bare (R.map (·.1)) V).map kP)) rfl (by show(((je _ 8 (.g G1.length)).bind λy=>_).map _).map _=_;rw[nW sP];rfl) ?_ (vE λk=>WV k) rfl;refine UR (xs:=(R.map (·.1)).map kP) (by show Out.ok ((R.map λp=>(p.1,PV.l (p.2.map kP))).map λI=>kP I.1)=_;rw[a0a,a0a];rfl) ?_;have:=Yf (g:=Zb) (c:=Zc) (e:=Zd) (λk:Key=>kP k) (outside V) kP (λO=>∃z,O=[z,some (.d (trP V))]) (R.map (·.1)) [none,some (.d (trP V))] [] ⟨none,rfl⟩ (λk s O ⟨z,ez⟩=>by
   subst ez;refine⟨_,rfl,⟨_,rfl⟩,?_,λ_=>rfl⟩;show(pIn true (kP k) (.d (trP V))).bind asB=_;rw[gh];show Out.ok _=_;congr 1;by_cases s:k∈V
   .rw[Zh s];cases q:outside V k with
    |false=>rfl
    |true=>exact absurd s (zJ.mp q)
   .rw[vD s,zJ.mpr s];rfl) (by simp;omega)
  exact this
 obtain⟨i,d,ew,q1,M,L,q4,q5,_,S⟩:=sU (rows:=yI R) (n:=100) (U:=bare (R.map (·.1)) V) g (fE v.nd) (λl=>by
  rw[y4,B];exact⟨λ⟨a,b⟩=>⟨a,λx m=>b ⟨x,m⟩⟩,λ⟨a,b⟩=>⟨a,λ⟨x,m⟩=>b x m⟩⟩) (by
  have:=JS v.nd Z (λl t=>let⟨x,m⟩:=(B l).mp t;g.sub x l m);rw[f8]at this;omega)
 have A:=JS v.nd Z (λl t=>let⟨x,m⟩:=(B l).mp t;g.sub x l m);rw[f8]at A;have w:∀k∈R.map (·.1),∃Q,zm R k=some Q:=λk s=>a0G.mp (kC.mpr s);have bl:i.length<=40:=by have:=Wd M L;rw[f8]at this;omega
 have br:d.length<=40:=by omega
 have big:40<sizeLine:=by decide
 obtain⟨W,T,N,hw,_,_⟩:=gp (R:=R) (a:=some (.g G1.length)) (o:=G.length) oP (λx l m=>w l (g.sub x l m)) (x:=none) (y:=none) ew (λl t=>w l (y4.mp t).1) (by omega) (by omega);have J:=A6 hw (by intro z;cases z);have E:hF [false,false,false,false,true] (zj vT (zc (zb 4) zq)) (Kf (rwP R) G.length (some (.g G1.length)) P W T N) (rsH P i d)=.ok (.g (rsH P i d).length) (rsH P i d++[.l ((d.map kP).map .v)]):=
  b6 (r:=[none,none,none,none,some (.d (trP d)),none,none,none]) (x:=.l (d.map kP)) rfl (by show(((((je _ 8 (.g (P.length+1))).bind λy=>_).map _).map _).map _).map _=_;rw[nW P0];rfl) (by show Out.ok (PV.l ((trP d).map λI=>kP I.1))=_;unfold trP;rw[a0a];rfl) (vE λk=>WV k) rfl
 refine⟨j,bare (R.map (·.1)) V,P,[.l ((i.map kP).map .v),.d (vK (trP d)),.l ((d.map kP).map .v)],i,d,(rsH P i d).length,?_,⟨.d (vK (owP j))::X++[.d (vK (trP V))],by rw[<- hP,<- hG1,W1]⟩,by rw[a0h (S5 _),a0M];rfl,by(unfold rsH;rw[S4,a0h (a0J _ _),a1B];rfl),by(unfold rsH;rw[S4];exact Nat.lt_add_of_pos_right (a2U _)),g,F,by omega,q1,M,L,q4,q5,λl t m=>by rw[S];exact T8 _ (y4.mpr ⟨t,λz=>let⟨x,e⟩:=(B l).mp z;m x e⟩),λx m l e=>by rw[S];exact T4 _ (a1e.mpr ⟨x,m,e⟩)⟩;have s1:Xn 1 (Qe zM (yQ (qJ 0) cK)) [some (.v (rwP R)),none,none,none,none,none,none,none] G=.nx [some (.v (rwP R)),some (.g G.length),none,none,none,none,none,none] G1:=by show HX.fw (zM [.v (rwP R)] G) _=_;rw[h];rfl
 have s2:Xn 2 (hF [false,true] (zj jD (zc (mLC (zP 1) [none,some 1] Q2 Q3 Q4) zq))) [some (.v (rwP R)),some (.g G.length),none,none,none,none,none,none] G1=.nx [some (.v (rwP R)),some (.g G.length),some (.g G1.length),none,none,none,none,none] P:=by show HX.fw (hF _ _ _ _) _=_;rw[K];rfl
 have s3:Xn 3 (hF [true,false,true] (mLC (zP 0) [none,some 2] Zb Zc Zd)) [some (.v (rwP R)),some (.g G.length),some (.g G1.length),none,none,none,none,none] P=.nx [some (.v (rwP R)),some (.g G.length),some (.g G1.length),some (.g P.length),none,none,none,none] (P++[.l (((bare (R.map (·.1)) V).map kP).map .v)]):=by show HX.fw (hF _ _ _ _) _=_;rw[H];rfl
 have s4:Xn 4 (hF [] VY) [some (.v (rwP R)),some (.g G.length),some (.g G1.length),some (.g P.length),none,none,none,none] (P++[.l (((bare (R.map (·.1)) V).map kP).map .v)])=.nx [some (.v (rwP R)),some (.g G.length),some (.g G1.length),some (.g P.length),some (.g (P.length+1)),none,none,none] (rsH P (bare (R.map (·.1)) V) []):=by show HFw.nx [some (HV.v (rwP R)),some (.g G.length),some (.g G1.length),some (.g P.length),some (.g (P++[Cell.l (((bare (R.map (·.1)) V).map kP).map .v)]).length),none,none,none] ((P++[Cell.l (((bare (R.map (·.1)) V).map kP).map .v)])++[.d (vK [])])=_;rw[S4,W1];rfl
 have s5:ip (MC (yQ (qJ 3) (yQ (hF [false,false,false,false,true] (zj vT (zc (zb 4) zq))) cK))) (Kf (rwP R) G.length (some (.g G1.length)) P W T N) (rsH P i d)=.rt (.t [.g P.length,.g (rsH P i d).length]) (P++[.l ((i.map kP).map .v),.d (vK (trP d)),.l ((d.map kP).map .v)]):=by show HX.fw (HX.bind (HX.bind (HX.bind (hF _ _ _ _) _) _) _) _=_;rw[E];show HX.fw (if([HV.g P.length,HV.g (rsH P i d).length]:List HV).length<=sizeLine then HX.ok (mkT [.g P.length,.g (rsH P i d).length]) (rsH P i d++[.l ((d.map kP).map .v)])else .wall) _=_;rw[show(if([HV.g P.length,HV.g (rsH P i d).length]:List HV).length<=sizeLine then HX.ok (mkT [.g P.length,.g (rsH P i d).length]) (rsH P i d++[.l ((d.map kP).map .v)])else .wall)=HX.ok (mkT [.g P.length,.g (rsH P i d).length]) (rsH P i d++[.l ((d.map kP).map .v)])from if_pos (show 2<=sizeLine from by decide)];show HFw.rt _ (rsH P i d++[.l ((d.map kP).map .v)])=_;unfold rsH;rw[W1];rfl
 show(match ZZ [some (.v (rwP R)),none,none,none,none,none,none,none] G with | .nx _ u=>HX.ok (HV.v PV.n) u | .rt x u=>.ok x u | .exc c fs u=>.exc c fs u|_=>.wall)=_;have all:ZZ [some (.v (rwP R)),none,none,none,none,none,none,none] G=.rt (.t [.g P.length,.g (rsH P i d).length]) (P++[.l ((i.map kP).map .v),.d (vK (trP d)),.l ((d.map kP).map .v)]):=by unfold ZZ;refine qF s1 (qF s2 (qF s3 (qF s4 (qF (ρ':=Kf (rwP R) G.length (some (.g G1.length)) P 0 none none) (G':=rsH P (bare (R.map (·.1)) V) []) rfl (qF J s5)))))
 rw[all]
def VC{R:Rw}{rest:Sto}:zP 0 (some (rwP R)::rest)=.ok (R.map λp=>kP p.1):=by show Out.ok ((R.map λp=>(p.1,PV.l (p.2.map kP))).map λa=>kP a.1)=_;rw[a0a];rfl
def Yz(a:(R.map (·.1)).Nodup)(hp:p∈R):pIx (rwP R) (kP p.1)=.ok (.l (p.2.map kP)):=AX (yf a (show(p.1,p.2)∈R from hp))
def rB{x:PV}{n:Nat}(h:Qh [x]=.ok (.i (n:Int)))(f:n<=40):zA [x,.i 40]=.ok .n:=by
 have e:decide ((n:Int)>40)=false:=T5 (by omega);have d:z9 (mOp pGt (zj Qh (zc (zb 0) zq)) (zb 1)) [some x,some (.i 40)]=.ok false:=by show((Qh [x]).bind λa=>pGt a (.i 40)).bind asB=_;rw[h];show Out.ok (decide ((n:Int)>40))=_;rw[e]
 have b:kU [some x,some (.i 40)]=.ok (.nx [some x,some (.i 40)]):=by unfold kU sIf;rw[d];rfl
 show(match kU [some x,some (.i 40)]with | .ok (.nx _)=>_ | .ok (.rt x)=>_ | .ok (.bk _)=>_ | .ok (.ct _)=>_ | .exc c fs=>_ | .wall=>_)=_;rw[b];rfl
def Fp:Qh [rwP R]=.ok (.i (R.length:Int)):=by show Out.ok (PV.i ((R.map λp=>(p.1,PV.l (p.2.map kP))).length:Int))=_;rw[f8]
def gq(d:Fo R):zW [rwP R]=.ok .n:=by
 obtain⟨_,a,_,h⟩:=Qp (g:=ZE) (b:=ZF) (λp:Key×List Key=>kP p.1) (λ(_:Unit) f=>∃z,f=[some (rwP R),z]) (λ_ _ _=>True) R () [some (rwP R),none] ⟨none,rfl⟩ (λp hp u f ⟨z,e⟩=>by
  subst e;refine⟨[some (rwP R),some (kP p.1)],rfl,(),[some (rwP R),some (kP p.1)],trivial,⟨_,rfl⟩,.inl ?_⟩;show(((pIx (rwP R) (kP p.1)).bind λx=>Out.ok [x,.i 40]).bind zA).bind _=_;rw[Yz d.nd hp];show(zA [.l (p.2.map kP),.i 40]).bind _=_;rw[rB (x:=.l (p.2.map kP)) (n:=p.2.length) (by show Out.ok (PV.i ((p.2.map kP).length:Int))=_;rw[f8]) (d.short p hp)];rfl)
 have j:wK (zP 0) ZE ZF [some (rwP R),none]=.ok (.nx a):=qX VC h;have i:j_ (zj zA (zc (zb 0) (zc (mC (.i 40)) zq))) [some (rwP R),none]=.ok (.nx [some (rwP R),none]):=by show(zA [rwP R,.i 40]).bind _=_;rw[rB Fp d.few];rfl
 show(match kW [some (rwP R),none]with | .ok (.nx _)=>_ | .ok (.rt x)=>_ | .ok (.bk _)=>_ | .ok (.ct _)=>_ | .exc c fs=>_ | .wall=>_)=_;rw[show kW [some (rwP R),none]=.ok (.nx a)from by
  unfold kW zD;rw[i];exact j]
 rfl
def A8:pIn false (kP r) (.d kvs)=.ok (.b (zm kvs r).isSome):=by cases r<;>exact a0D (λb=>Out.ok (PV.b b)) (a1u _)
theorem rC:∀{a:SQ}{k:Tw},(trP a).map (λb=>if b.1=k then(b.1,PV.b true)else b)=trP a
 |[],_=>rfl
 |j::a,k=>by show(if j=k then(j,PV.b true)else(j,PV.b true))::(trP a).map _=(j,PV.b true)::trP a;rw[rC,ite_self]
def DD(h:k∈tr):dput (trP tr) k (.b true)=trP tr:=by unfold dput;rw[jh,Zh h,if_pos (show(some (PV.b true)).isSome=true from rfl),rC]
def n5:(trP tr).length=tr.length:=by unfold trP;rw[f8]
def kV:Key->V
 |.inl i=>.int i
 |.inr x=>.str x
def A9(k:Tw):toV (kP k)=some (kV k):=by cases k<;>rfl
def P2:eqV (kV a) (kV b)=true↔a=b:=by
 cases a<;>cases b
 .show(_==_)=true↔_;rw[a0u];exact⟨λh=>by rw[h],λh=>Sum.inl.inj h⟩
 .exact⟨λh=>(by cases h),λh=>(by cases h)⟩
 .exact⟨λh=>(by cases h),λh=>(by cases h)⟩
 .show(_==_)=true↔_;rw[a0u];exact⟨λh=>by rw[h],λh=>a0W h⟩
theorem HI{k:Tw}:∀{ls:SQ},∃b,inP (kV k) (ls.map kP)=some b/\(b=true↔k∈ls)
 |[]=>⟨false,rfl,by simp⟩
 |l::ls=>by
  obtain⟨b,e,h⟩:=HI (k:=k) (ls:=ls);refine⟨eqV (kV l) (kV k)||b,?_,?_⟩
  .show(match toV (kP l),inP (kV k) (ls.map kP)with|some u,some b=>some (eqV u (kV k)||b)|_,_=>none)=_;rw[A9,e]
  .rw[Bool.or_eq_true,P2,h,T1];exact⟨λz=>z.imp Eq.symm id,λz=>z.imp Eq.symm id⟩
def DE:pIn true (kP k) (.l (ls.map kP))=.ok (.b (outside ls k)):=by
 obtain⟨b,e,h⟩:=HI (k:=k) (ls:=ls);have:xor true b=outside ls k:=by
  cases b with
  |true=>cases q:outside ls k with
   |false=>rfl
   |true=>exact absurd (h.mp rfl) (zJ.mp q)
  |false=>rw[zJ.mpr (λz=>by cases h.mpr z)];rfl
 have h2:pIn true (kP k) (.l (ls.map kP))=k7 (((toV (kP k)).bind λv=>inP v (ls.map kP)).map λb=>.b (xor true b)):=by cases k<;>rfl
 rw[h2,A9];show k7 ((inP (kV k) (ls.map kP)).map λb=>PV.b (xor true b))=_;rw[e,<- this];rfl
def NB(h:G[k]?=some (.l (xs.map .v))):je G (n+2) (.g k)=some (.l xs):=by unfold je;rw[h];show(cH _ (xs.map HV.v)).map PV.l=_;rw[A7];rfl
def Fq(d:G[a]?=some (.l (xs.map .v)))(c:G[b]?=some (.l (ys.map .v))):je G 8 (.t [.g a,.g b])=some (.t [.l xs,.l ys]):=by show(cH (je G 7) [.g a,.g b]).map PV.t=_;unfold cH cH cH;rw[NB (n:=5) d,NB (n:=5) c];rfl
def n6(a:0<=r)(d:r<36):pIx (.s "abcdefghijklmnopqrstuvwxyz0123456789") (.i r)=.ok (.s (sgn r)):=by
 show pIx (.s signs) (.i r)=_;unfold pIx;have b:signs.length<=sizeLine:=by rw[bW];decide
 simp only[b,if_true];have c:r.toNat<signs.cps.toList.length:=by have:=bW;unfold Str.length at this;simp;omega
 rw[ph a];unfold sgn;rw[T7 c];rfl
def Q8(c:Int):Nat->Str
 |0=>""
 |j+1=>Q8 c j++sgn (mix c (3+j) % 36)
theorem gu{c:Int}:∀{j:Nat},(Q8 c j).length=j
 |0=>rfl
 |j+1=>by unfold Q8;rw[a0F,gu];rfl
def tJ:∃(o:Te),Qm QN wY (mY 0 10) ([some (.i c),k,some (.s "abcdefghijklmnopqrstuvwxyz0123456789"),some (.s ""),w]++z)=.ok (.nx ([some (.i c),k,some (.s "abcdefghijklmnopqrstuvwxyz0123456789"),some (.s (Q8 c 10)),o]++z)):=by
 obtain⟨a,⟨_,o,rfl⟩,e⟩:=V4 (g:=QN) (b:=wY) (λj a=>j<=10/\∃(o:Te),a=[some (.i c),k,some (.s "abcdefghijklmnopqrstuvwxyz0123456789"),some (.s (Q8 c j)),o]++z) 10 _ ⟨a0y _,w,rfl⟩ (λj i a ⟨_,o,f⟩=>by
  subst f;have h:=n6 (r:=mix c (3+j) % 36) (a1i _ (by decide)) (a1f _ (by decide));have d:qZ (.s (Q8 c j)) (.s (sgn (mix c (3+j) % 36)))=.ok (.s (Q8 c (j+1))):=AN (by rw[gu];show j+1<=1000;omega);refine⟨_,rfl,_,⟨i,some (.i j),rfl⟩,Or.inl ?_⟩;have l:=YU (c:=c) (t:=3+j) (by omega) (by omega);unfold wY
  simp_all[l,h,d])
 exact⟨o,e⟩
theorem rD{c:Int}:∀{j:Nat},Sgs (Q8 c j)
 |0=>λ_ h=>by cases h
 |j+1=>Sgs.app rD (Sgs.sgn (a1i _ (by decide)) (a1f _ (by decide)))
def rE(h:b.length=10):(Txt.slice b (some 9) none).length=1:=by
 unfold Txt.slice;rw[h];have e:Builtin.Str.strSliceIndices (some 9) none 1 10=[9]:=by decide +kernel
 rw[e];have a:9<b.cps.size:=by have:b.cps.size=10:=h;omega
 rw[a0I,a2G a];rfl
def wordAt(p m t:Str)(r k:Int):Str:=p++(sgn ((r+k) / 36)++sgn ((r+k) % 36))++m++Txt.mul t (k % 2)
def HJ:∃(p m t:Str)(r:Int),t.length=1/\(p.length+m.length<=9/\Sgs p/\Sgs m/\Sgs t)/\0<=r/\r<36/\∀k:Int,0<=k->k<100->jG [.i c,.i k]=.ok (.s (wordAt p m t r k)):=by
 have m2:0<=mix c 2 % 10:=a1i _ (by decide);have m17:mix c 16 % 36<36:=a1f _ (by decide);have m16:0<=mix c 16 % 36:=a1i _ (by decide);have hd:0<mix c 2 % 10+1:=by omega
 have hb:(Q8 c 10).length=10:=gu;have hg:Sgs (Q8 c 10):=rD;have ind:=λ{k w:Te}{z:TK}=>tJ (c:=c) (k:=k) (w:=w) (z:=z);generalize Q8 c 10=b at hb hg ind;have sl:∀{lo hi:Tz},(Txt.slice b lo hi).length<=10:=λ{lo hi}=>hb▸Txt.slice_le ..;refine⟨Txt.slice b none (some (mix c 15 % (mix c 2 % 10+1))),Txt.slice b (some (mix c 15 % (mix c 2 % 10+1))) (some (mix c 2 % 10)),Txt.slice b (some 9) none,mix c 16 % 36,rE hb,⟨?_,hg.slice,hg.slice,hg.slice⟩,m16,m17,λk h0 h1=>zO ?_⟩
 .have q0:=a1i (mix c 15) (show mix c 2 % 10+1≠0 by omega);have q1:=a1f (mix c 15) hd;have q2:=Nj (x:=b) q0 (by omega);have q3:=Ho (x:=b) (j:=mix c 2 % 10) q0 (by omega) (by omega);omega
 obtain⟨o,e⟩:=ind (k:=some (.i k)) (w:=none) (z:=[none,none,none,none]);have e1:=n6 (r:=(mix c 16 % 36+k) / 36) (by omega) (by omega);have e2:=n6 (r:=(mix c 16 % 36+k) % 36) (by omega) (by omega);have e3:=AN (a:=sgn ((mix c 16 % 36+k) / 36)) (b:=sgn ((mix c 16 % 36+k) % 36)) (by show 1+1<=1000;decide);have l3:(sgn ((mix c 16 % 36+k) / 36)++sgn ((mix c 16 % 36+k) % 36)).length=2:=by rw[a0F];rfl
 have p1:=sl (lo:=none) (hi:=some (mix c 15 % (mix c 2 % 10+1)));have p2:=sl (lo:=some (mix c 15 % (mix c 2 % 10+1))) (hi:=some (mix c 2 % 10));have e5:=AN (a:=Txt.slice b none (some (mix c 15 % (mix c 2 % 10+1)))) (b:=sgn ((mix c 16 % 36+k) / 36)++sgn ((mix c 16 % 36+k) % 36)) (by omega);have e7:=AN (a:=Txt.slice b none (some (mix c 15 % (mix c 2 % 10+1)))++(sgn ((mix c 16 % 36+k) / 36)++sgn ((mix c 16 % 36+k) % 36))) (b:=Txt.slice b (some (mix c 15 % (mix c 2 % 10+1))) (some (mix c 2 % 10))) (by rw[a0F];omega);have t1:=rE hb;have e9:cJ (.s (Txt.slice b (some 9) none)) (.i (k % 2))=.ok (.s (Txt.mul (Txt.slice b (some 9) none) (k % 2))):=by unfold cJ;exact if_pos ⟨by omega,by omega,by omega⟩
 have l9:(Txt.mul (Txt.slice b (some 9) none) (k % 2)).length<=1:=t1▸AO (by omega) (by omega);have ey:=AN (a:=Txt.slice b none (some (mix c 15 % (mix c 2 % 10+1)))++(sgn ((mix c 16 % 36+k) / 36)++sgn ((mix c 16 % 36+k) % 36))++Txt.slice b (some (mix c 15 % (mix c 2 % 10+1))) (some (mix c 2 % 10))) (b:=Txt.mul (Txt.slice b (some 9) none) (k % 2)) (by rw[a0F,a0F];omega);have z1:b.length<=sizeLine:=by rw[hb];decide
 have v1:pSl (.s b) none (some (mix c 15 % (mix c 2 % 10+1)))=.ok (.s (Txt.slice b none (some (mix c 15 % (mix c 2 % 10+1))))):=PU (by omega);have v2:pSl (.s b) (some (mix c 15 % (mix c 2 % 10+1))) (some (mix c 2 % 10))=.ok (.s (Txt.slice b (some (mix c 15 % (mix c 2 % 10+1))) (some (mix c 2 % 10)))):=PU (by omega);have v3:pSl (.s b) (some 9) none=.ok (.s (Txt.slice b (some 9) none)):=PU (by omega);show JW [some (.i c),some (.i k),none,none,none,none,none,none,none]=_;unfold JW wordAt;refine zd ⟨_,rfl,?_⟩;refine zd ⟨_,rfl,?_⟩;refine zd ⟨_,qX (ER (n:=10) rfl (by decide)) e,?_⟩
 simp_all[YU,X6 hd,e1,e2,e3,e5,e7,e9,ey,z1]
def tK{p m t:Str}{r j k:Int}(g:t.length=1)(r0:0<=r)(r1:r<36)(n:0<=j)(o:j<100)(q:0<=k)(l:k<100)(h:wordAt p m t r j=wordAt p m t r k):j=k:=by
 have e:∀i:Int,(sgn ((r+i) / 36)++sgn ((r+i) % 36)).length=2:=λi=>by rw[a0F];rfl
 unfold wordAt at h;have d:∀i:Int,(p++(sgn ((r+i) / 36)++sgn ((r+i) % 36))).length=p.length+2:=λi=>by rw[a0F,e]
 obtain⟨c,_⟩:=str_inj (by rw[a0F _ m,a0F _ m,d,d]) h;obtain⟨c,_⟩:=str_inj (by rw[d,d]) c;obtain⟨_,c⟩:=str_inj rfl c;obtain⟨c,f⟩:=str_inj (a:=sgn ((r+j) / 36)) (a':=sgn ((r+k) / 36)) rfl c;have a:=Au (by omega) (by omega) (by omega) (by omega) c;have b:=Au (by omega) (by omega) (by omega) (by omega) f;omega
structure Ord(R:Rw):Prop where
 ok:Fo R
 known:∀l,∀x∈yI R l,x∈R.map (·.1)
 irr:∀l,l∉yI R l
 tr:∀l x y,x∈yI R l->y∈yI R x->y∈yI R l
 str:∀k∈R.map (·.1),∃z,k=.inr z
def WX(a:(R.map (·.1)).Nodup)(hp:p∈R):yI R p.1=p.2:=by unfold yI;rw[yf a (show(p.1,p.2)∈R from hp)];rfl
def b7{R:Rw}{k:Tw}(h:k∈R.map (·.1)):∃a,(k,a)∈R:=by obtain⟨p,hp,e⟩:=a0i.mp h;exact⟨p.2,by rw[<- e];exact hp⟩
def Fs:pIn false (kP k) (.l (ls.map kP))=.ok (.b (!outside ls k)):=by
 obtain⟨b,e,h⟩:=HI (k:=k) (ls:=ls);have:xor false b = !outside ls k:=by
  cases b with
  |true=>cases q:outside ls k with
   |false=>rfl
   |true=>exact absurd (h.mp rfl) (zJ.mp q)
  |false=>rw[zJ.mpr (λz=>by cases h.mpr z)];rfl
 have h2:pIn false (kP k) (.l (ls.map kP))=k7 (((toV (kP k)).bind λv=>inP v (ls.map kP)).map λb=>.b (xor false b)):=by cases k<;>rfl
 rw[h2,A9];show k7 ((inP (kV k) (ls.map kP)).map λb=>PV.b (xor false b))=_;rw[e,<- this];rfl
def lE{V:SQ}{k:Tw}(h:k∈V):outside V k=false:=by
 cases q:outside V k with
 |false=>rfl
 |true=>exact absurd h (zJ.mp q)
def A_(h:k∈R.map (·.1)):pIn true (kP k) (rwP R)=.ok (.b false):=by unfold rwP;rw[gh,jf (f:=λa:List Key=>PV.l (a.map kP))];obtain⟨a,b⟩:=a0G.mp (kC.mpr h);rw[b];rfl
def HK(h:c ρ=.ok false):sIf c p q ρ=q ρ:=by unfold sIf;rw[h];rfl
def DF(o:Ord R):qS [rwP R]=.ok .n:=by
 have inner:∀{z1 z2:Te}{xs:SQ},(∀x∈xs,x∈R.map (·.1))->∃z2',Qm v7 v8 (xs.map kP) [some (rwP R),z1,z2]=.ok (.nx [some (rwP R),z1,z2']):=λ{z1 z2 xs} hx=>by
  obtain⟨_,ρ',⟨z,rfl⟩,e⟩:=Qp (g:=v7) (b:=v8) (λk:Key=>kP k) (λ(_:Unit) ρ=>∃z,ρ=[some (rwP R),z1,z]) (λ_ _ _=>True) xs () [some (rwP R),z1,z2] ⟨_,rfl⟩ (λx hx' u ρ ⟨z,e⟩=>by
   subst e;refine⟨_,rfl,(),_,trivial,⟨some (kP x),rfl⟩,.inl ?_⟩;exact HK (ρ:=[some (rwP R),z1,some (kP x)]) (by show(pIn true (kP x) (rwP R)).bind asB=_;rw[A_ (hx x hx')];rfl))
  exact⟨z,e⟩
 obtain⟨_,ρ',_,e⟩:=Qp (g:=QR) (b:=QS) (λp:Key×List Key=>kP p.1) (λ(_:Unit) ρ=>∃z1 z2,ρ=[some (rwP R),z1,z2]) (λ_ _ _=>True) R () [some (rwP R),none,none] ⟨_,_,rfl⟩ (λp hp u ρ ⟨z1,z2,e⟩=>by
  subst e;obtain⟨z2',e⟩:=inner (z1:=some (kP p.1)) (z2:=z2) (xs:=p.2) (λx hx=>o.known p.1 x (by rw[WX o.ok.nd hp];exact hx));refine⟨_,rfl,(),_,trivial,⟨some (kP p.1),z2',rfl⟩,.inl ?_⟩;exact qX (yx (by show pIx (rwP R) (kP p.1)=_;exact Yz o.ok.nd hp)) e)
 show(match vy [some (rwP R),none,none]with | .ok (.nx _)=>_ | .ok (.rt x)=>_ | .ok (.bk _)=>_ | .ok (.ct _)=>_ | .exc c fs=>_ | .wall=>_)=_;rw[show vy [some (rwP R),none,none]=.ok (.nx ρ')from qX VC e];rfl
def DG(o:Ord R):qT [rwP R]=.ok .n:=by
 obtain⟨_,d,_,e⟩:=Qp (g:=QT) (b:=QU) (λp:Key×List Key=>kP p.1) (λ(_:Unit) a=>∃f,a=[some (rwP R),f]) (λ_ _ _=>True) R () [some (rwP R),none] ⟨_,rfl⟩ (λp hp u a ⟨f,e⟩=>by
  subst e;refine⟨_,rfl,(),_,trivial,⟨some (kP p.1),rfl⟩,.inl ?_⟩;refine HK (ρ:=[some (rwP R),some (kP p.1)]) ?_;show((pIx (rwP R) (kP p.1)).bind λy=>pIn false (kP p.1) y).bind asB=_;rw[Yz o.ok.nd hp];show(pIn false (kP p.1) (.l (p.2.map kP))).bind asB=_;have:=o.irr p.1;rw[WX o.ok.nd hp]at this;rw[Fs,zJ.mpr this];rfl)
 show(match vz [some (rwP R),none]with | .ok (.nx _)=>_ | .ok (.rt x)=>_ | .ok (.bk _)=>_ | .ok (.ct _)=>_ | .exc c fs=>_ | .wall=>_)=_;rw[show vz [some (rwP R),none]=.ok (.nx d)from qX VC e];rfl
theorem gw:∀{ys b:SQ},∃b':List Key,(ys.map λy=>(y,PV.b true)).foldl (λacc kv=>dput acc kv.1 kv.2) (trP b)=trP b'/\∀x,x∈b'↔x∈b\/x∈ys
 |[],b=>⟨b,rfl,λx=>by simp⟩
 |y::ys,b=>by
  rw[T6,a08];by_cases h:y∈b
  .obtain⟨b',e,m⟩:=gw (ys:=ys) (b:=b);refine⟨b',by show List.foldl _ (dput (trP b) y (.b true)) _=_;rw[DD h];exact e,λx=>(m x).trans ⟨λz=>z.imp id (S0 _),λz=>z.elim .inl λz=>(T1.mp z).elim (λq=>.inl (q▸h)) .inr⟩⟩
  .obtain⟨b',e,m⟩:=gw (ys:=ys) (b:=b++[y]);refine⟨b',by show List.foldl _ (dput (trP b) y (.b true)) _=_;rw[bZ h];exact e,λx=>(m x).trans ?_⟩;rw[a0j,T2,T1,or_assoc]
theorem Ba:∀{a:SQ},mz (a.map λy=>PV.t [kP y,.b true])=some (a.map λy=>(y,PV.b true))
 |[]=>rfl
 |y::a=>by show((pk (kP y)).bind λq=>(mz (a.map λy=>PV.t [kP y,.b true])).map ((q,PV.b true)::·))=_;rw[tH,Ba];rfl
def tL(o:Ord R)(hp:p∈R):∃b:List Key,(∀x,x∈b↔x∈p.2)/\zj jD (zc (mLC (yi (mOp pIx (zb 0) (zb 1))) [none] qc jw qd) zq) (some (rwP R)::some (kP p.1)::z)=.ok (.d (trP b)):=by
 obtain⟨b,e,m⟩:=gw (ys:=p.2) (b:=[]);refine⟨b,λx=>(m x).trans ⟨λz=>z.elim (λz=>(a0U z).elim) id,.inr⟩,?_⟩;have sh:=o.ok.short p hp;have e1:mLC (yi (mOp pIx (zb 0) (zb 1))) [none] qc jw qd (some (rwP R)::some (kP p.1)::z)=.ok (.l (p.2.map λy=>PV.t [kP y,.b true])):=by refine UR (yx (by show pIx (rwP R) (kP p.1)=_;exact Yz o.ok.nd hp)) ?_;refine Xl (g:=qc) (e:=qd) (λy:Key=>kP y) (λy=>PV.t [kP y,.b true]) (λρ=>∃z,ρ=[z]) p.2 _ ⟨none,rfl⟩ (λy hy ρ ⟨z,e⟩=>?_) (by omega);subst e;refine⟨_,rfl,⟨_,rfl⟩,?_⟩;show(if([kP y,.b true]:List PV).length<=sizeLine then Out.ok (PV.t [kP y,.b true])else .wall)=_;exact if_pos (show 2<=sizeLine from by decide)
 show((mLC _ _ _ _ _ _).bind λx=>Out.ok [x]).bind jD=_;rw[e1];show k7 ((mz _).map λes=>PV.d (ZT es))=_;rw[Ba];show Out.ok (PV.d (ZT _))=_;unfold ZT;rw[show(List.nil:List (Key×PV))=trP []from rfl,e]
def DH(o:Ord R)(hp:p∈R):yD [rwP R,kP p.1]=.ok .n:=by
 obtain⟨b,hb,eb⟩:=tL o hp (z:=[none,none,none]);have rp:=WX o.ok.nd hp;have inner:∀{z3 z4:Te}{xs:SQ},(∀x∈xs,x∈b)->∃z4',Qm jV jW (xs.map kP) [some (rwP R),some (kP p.1),some (.d (trP b)),z3,z4]=.ok (.nx [some (rwP R),some (kP p.1),some (.d (trP b)),z3,z4']):=λ{z3 z4 xs} hx=>by
  obtain⟨_,ρ',⟨z,rfl⟩,e⟩:=Qp (g:=jV) (b:=jW) (λk:Key=>kP k) (λ(_:Unit) ρ=>∃z,ρ=[some (rwP R),some (kP p.1),some (.d (trP b)),z3,z]) (λ_ _ _=>True) xs () [some (rwP R),some (kP p.1),some (.d (trP b)),z3,z4] ⟨_,rfl⟩ (λx hx' u ρ ⟨z,e⟩=>by
   subst e;refine⟨_,rfl,(),_,trivial,⟨some (kP x),rfl⟩,.inl ?_⟩;exact HK (ρ:=[some (rwP R),some (kP p.1),some (.d (trP b)),z3,some (kP x)]) (by show(pIn true (kP x) (.d (trP b))).bind asB=_;rw[gh,Zh (hx x hx')];rfl))
  exact⟨z,e⟩
 obtain⟨_,ρ',_,e⟩:=Qp (g:=w6) (b:=w8) (λk:Key=>kP k) (λ(_:Unit) ρ=>∃z3 z4,ρ=[some (rwP R),some (kP p.1),some (.d (trP b)),z3,z4]) (λ_ _ _=>True) p.2 () [some (rwP R),some (kP p.1),some (.d (trP b)),none,none] ⟨_,_,rfl⟩ (λx hx u ρ ⟨z3,z4,e⟩=>by
  subst e;have hx':x∈yI R p.1:=by rw[rp];exact hx
  obtain⟨xs,hxs⟩:=b7 (o.known p.1 x hx');obtain⟨z4',e⟩:=inner (z3:=some (kP x)) (z4:=z4) (xs:=xs) (λy hy=>(hb y).mpr (by
   rw[<- rp];exact o.tr p.1 x y hx' (by rw[WX o.ok.nd hxs];exact hy)))
  refine⟨_,rfl,(),_,trivial,⟨some (kP x),z4',rfl⟩,.inl ?_⟩;exact qX (yx (by show pIx (rwP R) (kP x)=_;exact Yz o.ok.nd hxs)) e)
 show(match jq [some (rwP R),some (kP p.1),none,none,none]with | .ok (.nx _)=>_ | .ok (.rt x)=>_ | .ok (.bk _)=>_ | .ok (.ct _)=>_ | .exc c fs=>_ | .wall=>_)=_;rw[show jq [some (rwP R),some (kP p.1),none,none,none]=.ok (.nx ρ')from zd ⟨_,z8 eb,qX (yx (by show pIx (rwP R) (kP p.1)=_;exact Yz o.ok.nd hp)) e⟩];rfl
def Bb(o:Ord R):yc [rwP R]=.ok .n:=by
 obtain⟨_,d,_,e⟩:=Qp (g:=QV) (b:=QW) (λp:Key×List Key=>kP p.1) (λ(_:Unit) a=>∃f,a=[some (rwP R),f]) (λ_ _ _=>True) R () [some (rwP R),none] ⟨_,rfl⟩ (λp hp u a ⟨f,e⟩=>by
  subst e;exact⟨_,rfl,(),_,trivial,⟨some (kP p.1),rfl⟩,.inl (yV (ρ:=[some (rwP R),some (kP p.1)]) (x:=.n) (DH o hp))⟩)
 show(match vA [some (rwP R),none]with | .ok (.nx _)=>_ | .ok (.rt x)=>_ | .ok (.bk _)=>_ | .ok (.ct _)=>_ | .exc c fs=>_ | .wall=>_)=_;rw[show vA [some (rwP R),none]=.ok (.nx d)from zd ⟨_,yV (ρ:=[some (rwP R),none]) (x:=.n) (gq o.ok),zd ⟨_,yV (ρ:=[some (rwP R),none]) (x:=.n) (DF o),zd ⟨_,yV (ρ:=[some (rwP R),none]) (x:=.n) (DG o),qX VC e⟩⟩⟩];rfl
def mu(R:Rw)(c:Tw):Nat:=(R.map (·.1)).countP λy=>!outside (yI R c) y
def lF(o:Ord R)(h:d∈yI R c):mu R d<mu R c:=
 xZ (p:=λy=>!outside (yI R c) y) (q:=λy=>!outside (yI R d) y) (r:=d) (o.known c d h) (by rw[lE h];rfl) (by rw[zJ.mpr (o.irr d)];rfl) (λy a=>by
  have:y∈yI R d:=a1P λz=>by rw[zJ.mpr z]at a;cases a
  rw[lE (o.tr c d y h this)];rfl)
def Bc:pIx (.l ((cs++[c]).map kP)) (.i (-1))=.ok (kP c):=by show k7 (atI ((cs++[c]).map kP) (-1))=_;unfold atI ixN;rw[if_neg (by decide),if_pos (by grind),f8,S4];show k7 (((cs++[c]).map kP)[((-1:Int)+((cs.length+1:Nat):Int)).toNat]?)=_;rw[show((-1:Int)+((cs.length+1:Nat):Int)).toNat=cs.length by omega,a0n,a0h (by simp),f8,a0M];rfl
def P4{a:Type}{ys:List a}(h:k<=ys.length):tZ ys none (some (k:Int))=ys.take k:=by show(ys.drop 0).take ((if(k:Int)<0 then((k:Int)+ys.length).toNat else min (k:Int).toNat ys.length)-0)=_;rw[if_neg (by omega),List.drop_zero,Nat.sub_zero,a07,Nat.min_eq_left h]
def Bd{A:SQ}{k:Nat}(h:k<A.length):pIx (.l (A.map kP)) (.i (k:Int))=.ok (kP A[k]):=by show k7 (atI (A.map kP) k)=_;rw[ph (by omega),a07,a0e,T7 h];rfl
def n8(h:x∈yI R l):l∈R.map (·.1):=by
 unfold yI at h;cases e:zm R l with
 |none=>rw[e]at h;exact(a0U h).elim
 |some a=>exact kC.mp (by rw[e];rfl)
def DI(j:Fo R):∃(d:SS)(t u:Nat)(X:AH)(a b:SQ),WN [.v (rwP R)] G=.ok (.t [.g t,.g u]) (G++X)/\(G++X)[t]?=some (.l (((bare (R.map (·.1)) a).map kP).map .v))/\(G++X)[u]?=some (.l ((b.map kP).map .v))/\Good (yI R) (R.map (·.1)) d/\gr (yI R) 45 (R.map (·.1)) []=some d/\a.length+d.length=R.length+b.length/\a.Nodup/\(∀l∈a,l∈R.map (·.1))/\b.Nodup/\(∀x,x∈b↔∃l∈a,x∈yI R l)/\(∀l∈R.map (·.1),(∀x,zm d x≠some l)->l∈a)/\(∀x∈b,∀l,zm d x=some l->l∈a):=by
 obtain⟨d,U,P,X,a,b,k,h,⟨Y,o⟩,C,f,lt,g,m,K,L,q,p,w,v,A,D⟩:=tI (G:=G) j (gq j);have H:=JS j.nd q p;rw[f8]at H;have few:=j.few;have B:=(S7.mp f).1;have n:hF [true,true] (mLC (zP 0) [none,some 1] JY JZ J3) [some (.v (rwP R)),some (.t [.g P.length,.g k])] (P++X)=.ok (.g (P++X).length) (P++X++[.l (((bare (R.map (·.1)) a).map kP).map .v)]):=by
  refine b6 (r:=[some (rwP R),some (.t [.l (a.map kP),.l (b.map kP)])]) (x:=.l ((bare (R.map (·.1)) a).map kP)) rfl (by
   show((some (rwP R)).bind λy=>((je (P++X) 8 (.t [.g P.length,.g k])).bind λz=>_).map _)=_;rw[Fq (xs:=a.map kP) (ys:=b.map kP) C f];rfl) (UR VC ?_) (vE λk=>WV k) rfl
  have:=Yf (g:=JY) (c:=JZ) (e:=J3) (λk:Key=>kP k) (outside a) kP (λs=>∃z,s=[z,some (.t [.l (a.map kP),.l (b.map kP)])]) (R.map (·.1)) [none,some (.t [.l (a.map kP),.l (b.map kP)])] [] ⟨none,rfl⟩ (λk J s ⟨z,E⟩=>by
   subst E;refine⟨_,rfl,⟨_,rfl⟩,?_,λ_=>rfl⟩;show(pIn true (kP k) (.l (a.map kP))).bind asB=_;rw[DE];rfl) (by simp;omega)
  rw[a0a]at this;exact this
 refine⟨d,(P++X).length,k,Y++X++[.l (((bare (R.map (·.1)) a).map kP).map .v)],a,b,?_,?_,?_,g,m,by omega,q,p,w,v,A,D⟩
 .have F:Xn 1 (Qe Z0 (yQ (qJ 0) cK)) [some (.v (rwP R)),none] G=.nx [some (.v (rwP R)),some (.t [.g P.length,.g k])] (P++X):=by show HX.fw (Z0 [.v (rwP R)] G) _=_;rw[h];rfl
  have I:ip (MC (yQ (hF [true,true] (mLC (zP 0) [none,some 1] JY JZ J3)) (yQ (hIx (qJ 1) (hP [] (mC (.i 1)))) cK))) [some (.v (rwP R)),some (.t [.g P.length,.g k])] (P++X)=.rt (.t [.g (P++X).length,.g k]) (P++X++[.l (((bare (R.map (·.1)) a).map kP).map .v)]):=by show HX.fw (HX.bind (HX.bind (hF _ _ _ _) _) _) _=_;rw[n];show HX.fw (if([HV.g (P++X).length,HV.g k]:List HV).length<=sizeLine then HX.ok (mkT [.g (P++X).length,.g k]) (P++X++[.l (((bare (R.map (·.1)) a).map kP).map .v)])else .wall) _=_;rw[show(if([HV.g (P++X).length,HV.g k]:List HV).length<=sizeLine then HX.ok (mkT [.g (P++X).length,.g k]) (P++X++[.l (((bare (R.map (·.1)) a).map kP).map .v)])else .wall)=HX.ok (mkT [.g (P++X).length,.g k]) (P++X++[.l (((bare (R.map (·.1)) a).map kP).map .v)])from if_pos (show 2<=sizeLine from by decide)];rfl
  show(match ay [some (.v (rwP R)),none] G with | .nx _ i=>HX.ok (HV.v PV.n) i | .rt x i=>.ok x i | .exc c fs i=>.exc c fs i|_=>.wall)=_;rw[show ay [some (.v (rwP R)),none] G=_ from qF F I,<- W1,<- W1,<- o]
 .rw[<- W1,<- W1,<- o,a0h (S5 _),a0M];rfl
 .rw[<- W1,<- W1,<- o,a0o B];exact f
def HL{a b:SQ}{k:Tw}:outside (a++b) k=(outside a k&&outside b k):=by
 by_cases c:k∈a
 .rw[lE c,lE (T8 _ c)];rfl
 .rw[zJ.mpr c];by_cases d:k∈b
  .rw[lE d,lE (T4 _ d)];rfl
  .rw[zJ.mpr d,zJ.mpr λz=>(a0j.mp z).elim c d];rfl
def Be{R:Rw}{rest:Qd}{G:AH}(o:Ord R):Xo (hP [true] (zj yc (zc (zb 0) zq))) (some (.v (rwP R))::rest) G=.nx (some (.v (rwP R))::rest) G:=by
 have v:Kb [true] (some (.v (rwP R))::rest)=some (some (rwP R)::List.replicate rest.length none):=by
  have:∀r:Qd,Kb [] r=some (List.replicate r.length none):=λr=>by
   induction r with
   |nil=>rfl
   |cons a r b=>show(Kb [] r).map _=_;rw[b];rfl
  show(Kb [] rest).map _=_;rw[this];rfl
 have e:hP [true] (zj yc (zc (zb 0) zq)) (some (.v (rwP R))::rest) G=.ok (.v .n) G:=by unfold hP;rw[v];dsimp only;rw[show zj yc (zc (zb 0) zq) (some (rwP R)::List.replicate rest.length none)=.ok .n from Bb o]
 show HX.fw (hP _ _ _ _) _=_;rw[e];rfl
def DJ(o:Ord R):∃(m:SS)(k:Nat)(X:AH)(A i CR:SQ),WO [.v (rwP R)] G=.ok (.g k) (G++X)/\(G++X)[k]?=some (.l ((A.map kP).map .v))/\Good (yI R) (R.map (·.1)) m/\gr (yI R) 45 (R.map (·.1)) []=some m/\A.length+m.length=R.length/\A.Nodup/\(∀x∈A,x∈R.map (·.1))/\(∀a∈A,∀b∈A,b∉yI R a)/\i.length+CR.length=m.length/\(∀l x,x∈yI R l->l∈i\/x∈CR):=by
 obtain⟨m,s,t,X,j,d,h,L,c2,g,u,q1,S,N,P,n,U,Y⟩:=DI (G:=G) o.ok;have few:=o.ok.few;have Q:=JS o.ok.nd S N;rw[f8]at Q;have O:∀x∈d,x∈R.map (·.1):=λx f=>let⟨l,_,h⟩:=(n x).mp f;o.known l x h
 have F:∀x∈bare (R.map (·.1)) j,∀y∈d,x≠y:=λv hv y W e=>by subst e;obtain⟨J,M⟩:=y4.mp hv;have:∃x,zm m x=some v:=a1P λz=>M (U v J λx f=>z ⟨x,f⟩);obtain⟨x,f⟩:=this;obtain⟨l,D,w⟩:=(n v).mp W;exact M (Y x ((n x).mpr ⟨l,D,o.tr l v x w (g.val x v f)⟩) v f)
 have B:(bare (R.map (·.1)) j++d).Nodup:=a0r.mpr ⟨fE o.ok.nd,P,F⟩;have lA:=JS o.ok.nd B (λx f=>(a0j.mp f).elim (λz=>(y4.mp z).1) (O x));rw[f8,S4]at lA;have T:=(S7.mp L).1;have H:hF [true,true] (mLC (zP 0) [none,some 1] J5 J6 J7) [some (.v (rwP R)),some (.t [.g s,.g t])] (G++X)=.ok (.g (G++X).length) (G++X++[.l (((bare (R.map (·.1)) (bare (R.map (·.1)) j++d)).map kP).map .v)]):=by
  refine b6 (r:=[some (rwP R),some (.t [.l ((bare (R.map (·.1)) j).map kP),.l (d.map kP)])]) (x:=.l ((bare (R.map (·.1)) (bare (R.map (·.1)) j++d)).map kP)) rfl (by
   show((some (rwP R)).bind λy=>((je (G++X) 8 (.t [.g s,.g t])).bind λz=>_).map _)=_;rw[Fq (xs:=(bare (R.map (·.1)) j).map kP) (ys:=d.map kP) L c2];rfl) (UR VC ?_) (vE λk=>WV k) rfl
  generalize bare (R.map (·.1)) j=i;have:=Yf (g:=J5) (c:=J6) (e:=J7) (λk:Key=>kP k) (outside (i++d)) kP (λK=>∃z,K=[z,some (.t [.l (i.map kP),.l (d.map kP)])]) (R.map (·.1)) [none,some (.t [.l (i.map kP),.l (d.map kP)])] [] ⟨none,rfl⟩ (λk J K ⟨z,ez⟩=>by
   subst ez;refine⟨_,rfl,⟨_,rfl⟩,?_,λ_=>rfl⟩;have Z:z9 (mOp (pIn true) (zb 0) (mOp pIx (zb 1) (mC (.i 0)))) [some (kP k),some (.t [.l (i.map kP),.l (d.map kP)])]=.ok (outside i k):=by show(pIn true (kP k) (.l (i.map kP))).bind asB=_;rw[DE];rfl
   have t2:z9 (mOp (pIn true) (zb 0) (mOp pIx (zb 1) (mC (.i 1)))) [some (kP k),some (.t [.l (i.map kP),.l (d.map kP)])]=.ok (outside d k):=by show(pIn true (kP k) (.l (d.map kP))).bind asB=_;rw[DE];rfl
   show o9 (z9 (mOp (pIn true) (zb 0) (mOp pIx (zb 1) (mC (.i 0))))) (z9 (mOp (pIn true) (zb 0) (mOp pIx (zb 1) (mC (.i 1))))) [some (kP k),some (.t [.l (i.map kP),.l (d.map kP)])]=_;rw[HL];unfold o9;rw[Z];cases outside i k with
   |false=>rfl
   |true=>show z9 (mOp (pIn true) (zb 0) (mOp pIx (zb 1) (mC (.i 1)))) [some (kP k),some (.t [.l (i.map kP),.l (d.map kP)])]=_;rw[t2];rfl) (by simp;omega)
  rw[a0a]at this;exact this
 refine⟨m,(G++X).length,X++[.l (((bare (R.map (·.1)) (bare (R.map (·.1)) j++d)).map kP).map .v)],bare (R.map (·.1)) (bare (R.map (·.1)) j++d),bare (R.map (·.1)) j,d,?_,?_,g,u,by omega,fE o.ok.nd,λx f=>(y4.mp f).1,λa ha b hb z=>?_,by omega,λl x f=>?_⟩
 .have s1:Xn 1 (Qe WN (yQ (qJ 0) cK)) [some (.v (rwP R)),none] G=.nx [some (.v (rwP R)),some (.t [.g s,.g t])] (G++X):=by show HX.fw (WN [.v (rwP R)] G) _=_;rw[h];rfl
  have s2:ip (hF [true,true] (mLC (zP 0) [none,some 1] J5 J6 J7)) [some (.v (rwP R)),some (.t [.g s,.g t])] (G++X)=.rt (.g (G++X).length) (G++X++[.l (((bare (R.map (·.1)) (bare (R.map (·.1)) j++d)).map kP).map .v)]):=by show HX.fw (hF _ _ _ _) _=_;rw[H];rfl
  show(match az [some (.v (rwP R)),none] G with | .nx _ p=>HX.ok (HV.v PV.n) p | .rt x p=>.ok x p | .exc c fs p=>.exc c fs p|_=>.wall)=_;rw[show az [some (.v (rwP R)),none] G=_ from qF (Be o) (qF s1 s2),<- W1]
 .rw[<- W1,a0h (S5 _),a0M];rfl
 .obtain⟨E,C⟩:=y4.mp ha;obtain⟨_,I⟩:=y4.mp hb;have:a∈j:=a1P λq=>C (T8 _ (y4.mpr ⟨E,q⟩));exact I (T4 _ ((n b).mpr ⟨a,this,z⟩))
 .by_cases q:l∈j
  .exact .inr ((n x).mpr ⟨l,q,f⟩)
  .exact .inl (y4.mpr ⟨n8 f,q⟩)
def chn(D:SS):Nat->Key->List Key
 |0,c=>[c]
 |m+1,c=>match zm D c with
  |none=>[c]
  |some x=>c::chn D m x
section
variable {R:Rw}{D ow:SS}{m:Nat}{c x y z:Tw}
def Zi(h:zm D c=none):chn D m c=[c]:=by
 cases m with
 |zero=>rfl
 |succ m=>show(match zm D c with|none=>[c]|some x=>c::chn D m x)=_;rw[h]
def Zj(h:zm D c=some x):chn D (m+1) c=c::chn D m x:=by show(match zm D c with|none=>[c]|some x=>c::chn D m x)=_;rw[h]
def aE:c∈chn D m c:=by
 cases m with
 |zero=>exact u8
 |succ m=>cases e:zm D c with
  |none=>rw[Zi e];exact u8
  |some x=>rw[Zj e];exact u8
theorem XT:∀{m:Nat}{c:Tw},y∈chn D m c->y=c\/∃z∈chn D m c,zm D z=some y
 |0,c,h=>.inl (T2.mp h)
 |m+1,c,h=>by
  cases e:zm D c with
  |none=>rw[Zi e]at h;exact .inl (T2.mp h)
  |some x=>
   rw[Zj e]at h ⊢;rcases T1.mp h with h|h
   .exact .inl h
   .rcases XT h with h|⟨z,hz,a⟩
    .exact .inr ⟨c,u8,by rw[h];exact e⟩
    .exact .inr ⟨z,S0 _ hz,a⟩
theorem rF(o:Ord R)(hD:∀l x,zm D l=some x->x∈yI R l):∀{m:Nat}{c:Tw},mu R c<=m->z∈chn D m c->zm D z=some y->y∈chn D m c
 |0,c,a,h,e=>by rw[T2.mp h]at e;have:=lF o (hD c y e);omega
 |m+1,c,a,h,e=>by
  cases ec:zm D c with
  |none=>rw[Zi ec]at h;rw[T2.mp h,ec]at e;cases e
  |some x=>
   rw[Zj ec]at h ⊢;have:=lF o (hD c x ec);rcases T1.mp h with h|h
   .rw[h,ec]at e;cases e;exact S0 _ aE
   .exact S0 _ (rF o hD (by omega) h e)
theorem n_(o:Ord R)(hD:∀l x,zm D l=some x->x∈yI R l):∀{m:Nat}{c:Tw},z∈chn D m c->z=c\/z∈yI R c
 |0,c,h=>.inl (T2.mp h)
 |m+1,c,h=>by
  cases e:zm D c with
  |none=>rw[Zi e]at h;exact .inl (T2.mp h)
  |some x=>
   rw[Zj e]at h;rcases T1.mp h with h|h
   .exact .inl h
   .rcases n_ o hD h with h|h
    .rw[h];exact .inr (hD c x e)
    .exact .inr (o.tr _ _ _ (hD c x e) h)
def Adj(R:Rw):List Key->Prop
 |a::b::r=>b∈yI R a/\Adj R (b::r)
 |_=>True
theorem Bf(hD:∀l x,zm D l=some x->x∈yI R l):∀{m:Nat}{c:Tw},Adj R (chn D m c)
 |0,c=>trivial
 |m+1,c=>by
  cases e:zm D c with
  |none=>rw[Zi e];trivial
  |some x=>
   rw[Zj e];have a:=Bf hD (m:=m) (c:=x);cases m with
   |zero=>exact⟨hD c x e,a⟩
   |succ m=>
    cases b:zm D x with
    |none=>rw[Zi b]at a ⊢;exact⟨hD c x e,a⟩
    |some w=>rw[Zj b]at a ⊢;exact⟨hD c x e,a⟩
theorem Ft(o:Ord R)(hD:∀l x,zm D l=some x->x∈yI R l):∀{m:Nat}{c:Tw},(chn D m c).Nodup
 |0,c=>a0t.mpr ⟨by simp,a0X⟩
 |m+1,c=>by
  cases e:zm D c with
  |none=>rw[Zi e];exact a0t.mpr ⟨by simp,a0X⟩
  |some x=>
   rw[Zj e];refine a0t.mpr ⟨λh=>?_,Ft o hD⟩;rcases n_ o hD h with h|h
   .exact o.irr c (by have:=hD c x e;rw[<- h]at this;exact this)
   .exact o.irr c (o.tr _ _ _ (hD c x e) h)
theorem d3{n:Type}:∀{f:List (List n)},(∀c∈f,c.Nodup)->f.Pairwise (λa b=>∀x∈a,x∉b)->f.flatten.Nodup
 |[],_,_=>a0X
 |c::f,h,p=>by obtain⟨j,o⟩:=List.pairwise_cons.mp p;rw[a0S];refine a0r.mpr ⟨h c u8,d3 (λd i=>h d (S0 _ i)) o,λa l b g e=>?_⟩;obtain⟨d,i,g⟩:=a1L.mp g;exact j d i a l (e▸g)
structure Chs(R:Rw)(cs:Tv):Prop where
 ne:∀c∈cs,c≠[]
 adj:∀c∈cs,Adj R c
 nd:cs.flatten.Nodup
 all:∀x,x∈cs.flatten↔x∈R.map (·.1)
def Chs.len(o:Ord R)(h:Chs R cs):cs.flatten.length=R.length:=by have d:=Wd h.nd λx a=>(h.all x).mp a;have b:=Wd o.ok.nd λx a=>(h.all x).mpr a;rw[f8]at d b;omega
def NC(o:Ord R)(g:Good (yI R) (R.map (·.1)) ow)(j:D=ow.map λp=>(p.2,p.1)):Chs R ((bare (R.map (·.1)) (ow.map (·.1))).map λc=>chn D R.length c):=by
 have d:∀c,mu R c<=R.length:=λc=>by unfold mu;have:=a15 (p:=λy=>!outside (yI R c) y) (l:=R.map (·.1));rw[f8]at this;exact this
 have M:(D.map (·.1)).Nodup:=by rw[j,a0a];exact g.vals
 have back:∀l x,zm D l=some x↔zm ow x=some l:=λl x=>by
  constructor
  .intro e;have:=qK e;rw[j]at this;obtain⟨p,hp,P⟩:=a0i.mp this;cases P;exact yf g.nd hp
  .intro e;refine yf M ?_;rw[j];exact a0i.mpr ⟨(x,l),qK e,rfl⟩
 have hD:∀l x,zm D l=some x->x∈yI R l:=λl x e=>g.val x l ((back l x).mp e);have inV:∀x l,zm ow x=some l->x∈ow.map (·.1):=λx l e=>a0R (f:=(·.1)) (qK e);have one:∀(k:Nat)(y r t:Tw),R.length-mu R y<=k->r∉ow.map (·.1)->t∉ow.map (·.1)->y∈chn D R.length r->y∈chn D R.length t->r=t:=by
  intro k
  induction k with
  |zero=>
   intro y r t F C L v q;rcases XT v with B|⟨z,hz,i⟩
   .rcases XT q with u|⟨z,hz,i⟩
    .rw[<- B,u]
    .exact absurd (B▸inV y z ((back z y).mp i)) C
   .have:=lF o (hD z y i);have:=d z;have:=d y;omega
  |succ k I=>
   intro y r t F C L v q;rcases XT v with B|⟨z,hz,i⟩
   .rcases XT q with u|⟨z,hz,i⟩
    .rw[<- B,u]
    .exact absurd (B▸inV y z ((back z y).mp i)) C
   .rcases XT q with u|⟨w,N,O⟩
    .exact absurd (u▸inV y z ((back z y).mp i)) L
    .have G:z=w:=by have a:=(back z y).mp i;rw[(back w y).mp O]at a;cases a;rfl
     subst G;have:=lF o (hD z y i);have:=d z;exact I z r t (by omega) C L hz N
 have K:∀(k:Nat)(y:Tw),R.length-mu R y<=k->y∈R.map (·.1)->∃s∈bare (R.map (·.1)) (ow.map (·.1)),y∈chn D R.length s:=by
  intro k
  induction k with
  |zero=>
   intro y F J;cases e:zm ow y with
   |none=>exact⟨y,y4.mpr ⟨J,λh=>by have:=kC.mpr h;rw[e]at this;cases this⟩,aE⟩
   |some z=>have:=lF o (g.val y z e);have:=d z;omega
  |succ k I=>
   intro y F J;cases e:zm ow y with
   |none=>exact⟨y,y4.mpr ⟨J,λh=>by have:=kC.mpr h;rw[e]at this;cases this⟩,aE⟩
   |some z=>have:=lF o (g.val y z e);have:=d z;obtain⟨s,A,hz⟩:=I z (by omega) (g.sub y z e);exact⟨s,A,rF o hD (d s) hz ((back z y).mpr e)⟩
 refine⟨λc n=>?_,λc n=>?_,d3 (λc n=>?_) ?_,λx=>⟨λh=>?_,λh=>?_⟩⟩
 .obtain⟨s,_,rfl⟩:=a0i.mp n;exact List.ne_nil_of_mem aE
 .obtain⟨s,_,rfl⟩:=a0i.mp n;exact Bf hD
 .obtain⟨s,_,rfl⟩:=a0i.mp n;exact Ft o hD
 .rw[List.pairwise_map];refine(fE o.ok.nd).imp_of_mem λ{a b} S Q H x v q=>H (one _ x a b (S5 _) (y4.mp S).2 (y4.mp Q).2 v q)
 .obtain⟨c,n,E⟩:=a1L.mp h;obtain⟨s,A,rfl⟩:=a0i.mp n;rcases n_ o hD E with h|h
  .rw[h];exact(y4.mp A).1
  .exact o.known _ _ h
 .obtain⟨s,A,E⟩:=K _ x (S5 _) h;exact a1L.mpr ⟨_,a0R A,E⟩
end
def Bg(o:Ord R)(hD:∀l x,zm D l=some x->x∈yI R l):∀(m:Nat)(c:Tw)(b:SQ),mu R c<=m->b.length+m<=1000->∃n:Nat,qg ZD kI n [a,some (.d (owP D)),some (.l ((b++[c]).map kP))]=.ok (.nx [a,some (.d (owP D)),some (.l ((b++chn D m c).map kP))]):=by
 have g:∀c b,ZD [a,some (.d (owP D)),some (.l ((b++[c]).map kP))]=.ok (zm D c).isSome:=λc b=>by show((pIx (.l ((b++[c]).map kP)) (.i (-1))).bind λx=>pIn false x (.d (owP D))).bind asB=_;rw[Bc];show(pIn false (kP c) (.d (owP D))).bind asB=_;unfold owP;rw[A8,jf (f:=kP)];cases zm D c<;>rfl
 intro m
 induction m with
 |zero=>
  intro c b h j;refine⟨1,?_⟩;unfold qg;rw[g];cases e:zm D c with
  |none=>rfl
  |some d=>have:=lF o (hD c d e);omega
 |succ m i=>
  intro c b h j;cases e:zm D c with
  |none=>refine⟨1,?_⟩;unfold qg;rw[g,e,Zi e];rfl
  |some d=>
   obtain⟨n,q⟩:=i d (b++[c]) (by have:=lF o (hD c d e);omega) (by rw[S4];show b.length+1+m<=_;omega);refine⟨n+1,?_⟩;unfold qg;rw[g,e,Zj e,show b++c::chn D m d=b++[c]++chn D m d by rw[W1];rfl];have p:kI [a,some (.d (owP D)),some (.l ((b++[c]).map kP))]=.ok (.nx [a,some (.d (owP D)),some (.l ((b++[c]++[d]).map kP))]):=by show(Out.bind (Out.bind (pIx (.l ((b++[c]).map kP)) (.i (-1))) λy=>pIx (.d (owP D)) y) λy=>if((b++[c]).map kP).length<sizeLine then Out.ok (Fw.nx [a,some (.d (owP D)),some (.l ((b++[c]).map kP++[y]))])else .wall)=_;rw[Bc];show(Out.bind (pIx (.d (owP D)) (kP c)) _)=_;rw[AQ,show zm (owP D) c=some (kP d)from by unfold owP;rw[jf (f:=kP),e];rfl];show(if((b++[c]).map kP).length<sizeLine then Out.ok (Fw.nx [a,some (.d (owP D)),some (.l ((b++[c]).map kP++[kP d]))])else .wall)=_;rw[if_pos (by rw[f8,S4];exact a0q (show b.length+1<=1000 by omega) (by decide)),a0n (l₁:=b++[c])];rfl
   show(kI [a,some (.d (owP D)),some (.l ((b++[c]).map kP))]).bind _=_;rw[p];exact q
def DK(o:Ord R)(hD:∀l x,zm D l=some x->x∈yI R l)(c:Tw):qz [kP c,.d (owP D)]=.ok (.l ((chn D R.length c).map kP)):=by
 have b:mu R c<=R.length:=by have:mu R c<=(R.map (·.1)).length:=a15;rw[f8]at this;exact this
 have few:=o.ok.few;obtain⟨n,e⟩:=Bg o hD (a:=some (kP c)) R.length c [] b (by simp;omega);refine zO ?_;show wX [some (kP c),some (.d (owP D)),none]=_;unfold wX;refine zd ⟨[some (kP c),some (.d (owP D)),some (.l (([]++[c]).map kP))],?_,?_⟩
 .show((if([kP c]:List PV).length<=sizeLine then Out.ok (PV.l [kP c])else .wall).bind _:Out Fw)=_;rw[show(if([kP c]:List PV).length<=sizeLine then Out.ok (PV.l [kP c])else .wall)=.ok (PV.l [kP c])from if_pos (show 1<=sizeLine from by decide)];rfl
 .exact zd ⟨_,V0 e (λz=>by cases z),rfl⟩
abbrev ksC(c:SQ):Cell:=.l ((c.map kP).map .v)
def chG(P:AH)(cs:Tv):AH:=(P++cs.map ksC)++[.l ((List.range cs.length).map λj=>.g (P.length+j))]
abbrev csP(cs:Tv):PV:=.l (cs.map λc=>.l (c.map kP))
def tM(o:Ord R):∃(i:SS)(P:AH)(b:Tv),(∃Y,P=G++Y)/\Q5 [.v (rwP R)] G=.ok (.g (P.length+b.length)) (chG P b)/\Good (yI R) (R.map (·.1)) i/\gr (yI R) 45 (R.map (·.1)) []=some i/\Chs R b/\b.length+i.length=R.length:=by
 obtain⟨i,X,k,D,h,c,u,g,t⟩:=nY (G:=G) o.ok (gq o.ok);have le:=nX o.ok g;have few:=o.ok.few;obtain⟨a,d⟩:∃a,a=i.map λp=>(p.2,p.1):=⟨_,rfl⟩;have u:D=owP a:=by rw[u,d];unfold owP;rw[a0a];rfl
 have F:a.map (·.1)=i.map (·.2):=by rw[d,a0a];rfl
 have q:a.map (·.2)=i.map (·.1):=by rw[d,a0a];rfl
 have Z:a.length=i.length:=by rw[d,f8]
 subst u;have hD:∀l x,zm a l=some x->x∈yI R l:=λl x e=>by have:=qK e;rw[d]at this;obtain⟨p,hp,J⟩:=a0i.mp this;cases J;exact g.val p.1 p.2 (yf g.nd hp)
 have e:=gj (mx:=mC (.b true)) (f:=λp=>.b true) (ow:=a) (F▸g.vals) (q▸g.nd) (by omega) (λp _ z=>rfl) (r0:=none) (rest:=[none]);have v:hF [false,true] (zj jD (zc (mLC (zP 1) [none,some 1] Vy Vz VA) zq)) [some (.v (rwP R)),some (.g k),none] (G++X)=.ok (.g (G++X).length) (G++X++[.d (vK (trP (i.map (·.1))))]):=
  b6 (r:=[none,some (.d (owP a)),none]) rfl (by show((je _ 8 (.g k)).bind λy=>_).map _=_;rw[nW c];rfl) e (by show fi _=true;rw[a0a];exact vE λp=>rfl) (by show some (Cell.d (vK _))=_;rw[<- q];unfold trP;rw[a0a];rfl)
 generalize hV:i.map (·.1)=V at v;have U:V.Nodup:=by rw[<- hV];exact g.nd
 have Q:∀x∈V,x∈R.map (·.1):=λx A=>by rw[<- hV]at A;obtain⟨p,hp,rfl⟩:=a0i.mp A;exact o.known p.2 p.1 (g.val p.1 p.2 (yf g.nd hp))
 have L:=JS o.ok.nd U Q;rw[f8,<- hV,f8,hV]at L;generalize hG2:G++X++[.d (vK (trP V))]=G2 at v;have S:G2[k]?=some (.d (vK (owP a))):=by rw[<- hG2,a0o (S7.mp c).1];exact c
 have I:G2[(G++X).length]?=some (.d (vK (trP V))):=by rw[<- hG2,a0h (S5 _),a0M];rfl
 obtain⟨b,j⟩:∃b,b=(bare (R.map (·.1)) V).map λc=>chn a R.length c:=⟨_,rfl⟩;have C:Chs R b:=by rw[j,<- hV];exact NC o g d
 have O:b.length=(bare (R.map (·.1)) V).length:=by rw[j,f8]
 have H:Hb [true,true,true] (mLC (zP 0) [none,some 2,some 1] we wg (mLI wj)) [some (.v (rwP R)),some (.g k),some (.g (G++X).length)] G2=.ok (.g (G2.length+b.length)) (chG G2 b):=by
  have K:mD G2 [true,true,true] [some (.v (rwP R)),some (.g k),some (.g (G++X).length)]=some [some (rwP R),some (.d (owP a)),some (.d (trP V))]:=by show((some (rwP R)).bind λy=>(((G2[k]?).bind CU).bind λz=>(((G2[(G++X).length]?).bind CU).bind λw=>_).map _).map _)=_;rw[S,I];show((some (rwP R)).bind λy=>(((ng (vK (owP a))).map PV.d).bind λz=>(((ng (vK (trP V))).map PV.d).bind λw=>_).map _).map _)=_;rw[AK,AK];rfl
  have T:mLC (zP 0) [none,some 2,some 1] we wg (mLI wj) [some (rwP R),some (.d (owP a)),some (.d (trP V))]=.ok (csP b):=by
   refine UR VC ?_;have:=Yf (g:=we) (c:=wg) (e:=mLI wj) (λk:Key=>kP k) (outside V) (λn=>.l ((chn a R.length n).map kP)) (λB=>∃z,B=[z,some (.d (trP V)),some (.d (owP a))]) (R.map (·.1)) [none,some (.d (trP V)),some (.d (owP a))] [] ⟨none,rfl⟩ (λk m B ⟨z,M⟩=>by
    subst M;refine⟨_,rfl,⟨_,rfl⟩,?_,λ_=>?_⟩
    .show(pIn true (kP k) (.d (trP V))).bind asB=_;rw[gh];show Out.ok _=_;congr 1;by_cases m:k∈V
     .rw[Zh m,lE m];rfl
     .rw[vD m,zJ.mpr m];rfl
    .show(qz [kP k,.d (owP a)]).bind lI=_;rw[DK o hD];show(if fi ((chn a R.length k).map kP)=true then _ else _)=_;rw[if_pos (vE WV)]) (by simp;omega)
   rw[a0a]at this;rw[j];show _=Out.ok (PV.l (List.map _ (List.map _ _)));rw[a0a];exact this
  unfold Hb;rw[K];dsimp only;rw[T];show HX.ok _ _=_;unfold chG;rw[f8,a0a];rfl
 refine⟨i,G2,b,⟨X++[.d (vK (trP V))],by rw[<- hG2,W1]⟩,?_,g,t,C,by omega⟩;have N:Xn 1 (Qe wc (yQ (qJ 0) cK)) [some (.v (rwP R)),none,none] G=.nx [some (.v (rwP R)),some (.g k),none] (G++X):=by show HX.fw (wc [.v (rwP R)] G) _=_;rw[h];rfl
 have W:Xn 2 (hF [false,true] (zj jD (zc (mLC (zP 1) [none,some 1] Vy Vz VA) zq))) [some (.v (rwP R)),some (.g k),none] (G++X)=.nx [some (.v (rwP R)),some (.g k),some (.g (G++X).length)] G2:=by show HX.fw (hF _ _ _ _) _=_;rw[v];rfl
 have E:ip (Hb [true,true,true] (mLC (zP 0) [none,some 2,some 1] we wg (mLI wj))) [some (.v (rwP R)),some (.g k),some (.g (G++X).length)] G2=.rt (.g (G2.length+b.length)) (chG G2 b):=by show HX.fw (Hb _ _ _ _) _=_;rw[H];rfl
 show(match WM [some (.v (rwP R)),none,none] G with | .nx _ s=>HX.ok (HV.v PV.n) s | .rt x s=>.ok x s | .exc c fs s=>.exc c fs s|_=>.wall)=_;rw[show WM [some (.v (rwP R)),none,none] G=_ from qF (Be o) (qF N (qF W E))]
def HN:(chG P cs)[P.length+cs.length]?=some (.l ((List.range cs.length).map λj=>.g (P.length+j))):=by unfold chG;rw[a0h (by rw[S4,f8];exact S5 _),S4,f8,a0M];rfl
def ND(h:j<cs.length):(chG P cs)[P.length+j]?=some (ksC cs[j]):=by unfold chG;rw[a0o (by rw[S4,f8];omega),a0h (a0J _ _),a1B,a0e,T7 h];rfl
section
variable {R:Rw}{A:SQ}{cs:Tv}
def Comp(R:Rw)(c:SQ):Prop:=∀a∈c,∀b∈c,a=b\/b∈yI R a\/a∈yI R b
theorem Bh(o:Ord R):∀{c:SQ}{a:Tw},Adj R (a::c)->∀b∈c,b∈yI R a
 |[],_,_,b,h=>by cases h
 |d::c,a,⟨f,g⟩,b,h=>by
  rcases T1.mp h with e|h
  .rw[e];exact f
  .exact o.tr _ _ _ f (Bh o g b h)
theorem rG(o:Ord R):∀{c:SQ},Adj R c->Comp R c
 |[],_=>λa h=>by cases h
 |[x],_=>λa ha b e=>.inl (by rw[T2.mp ha,T2.mp e])
 |x::d::c,h=>λa ha b e=>by
  have i:=Bh o h;have j:=rG o h.2;rcases T1.mp ha with f|ha<;>rcases T1.mp e with g|e
  .exact .inl (by rw[f,g])
  .exact .inr (.inl (by rw[f];exact i b e))
  .exact .inr (.inr (by rw[g];exact i a ha))
  .exact j a ha b e
theorem rH:∀{cs:Tv}{A:SQ},(∀c∈cs,Comp R c)->A.Nodup->(∀a∈A,∃c∈cs,a∈c)->(∀a∈A,∀b∈A,b∉yI R a)->A.length<=cs.length
 |[],A,_,_,f,_=>by
  cases A with
  |nil=>exact S5 _
  |cons a A=>obtain⟨c,i,_⟩:=f a u8;cases i
 |c::cs,A,i,s,f,j=>by
  classical
  have G:(A.filter λa=>decide (a∉c)).length<=cs.length:=rH (λd hd=>i d (S0 _ hd)) (s.sublist a1N) (λa m=>by
   obtain⟨C,z⟩:=a0B.mp m;obtain⟨d,hd,g⟩:=f a C;rcases T1.mp hd with e|hd
   .exact absurd (e▸g) (a0E z)
   .exact⟨d,hd,g⟩) λa m b B=>j a (a0B.mp m).1 b (a0B.mp B).1
  have F:(A.filter λa=>decide (a∈c)).length<=1:=by
   have n:(A.filter λa=>decide (a∈c)).Nodup:=s.sublist a1N
   match hA:A.filter λa=>decide (a∈c),n with
   |[],_=>exact a0y _
   |[_],_=>exact S5 _
   |x::y::r,n=>
    exfalso;have t:x∈A.filter λa=>decide (a∈c):=by rw[hA];exact u8
    have v:y∈A.filter λa=>decide (a∈c):=by rw[hA];exact S0 _ u8
    obtain⟨o,w⟩:=a0B.mp t;obtain⟨q,u⟩:=a0B.mp v;rcases i c u8 x (a0E w) y (a0E u)with e|e|e
    .exact(a0t.mp n).1 (e▸u8)
    .exact j x o y q e
    .exact j y q x o e
  have D:∀l:List Key,(l.filter λa=>decide (a∈c)).length+(l.filter λa=>decide (a∉c)).length=l.length:=λl=>by
   induction l with
   |nil=>rfl
   |cons p l E=>
    rw[a02,a02,v4];by_cases h:p∈c
    .rw[if_pos (by simp[h]),if_neg (by simp[h]),v4];omega
    .rw[if_neg (by simp[h]),if_pos (by simp[h]),v4];omega
  have:=D A;rw[v4];omega
def Chs.le(o:Ord R)(h:Chs R cs)(g:A.Nodup)(sub:∀a∈A,a∈R.map (·.1))(d:∀a∈A,∀b∈A,b∉yI R a):A.length<=cs.length:=
 rH (λc e=>rG o (h.adj c e)) g (λa f=>a1L.mp ((h.all a).mpr (sub a f))) d
end
section
variable {R:Rw}{V c:SQ}{cs:Tv}{x0:PV}
def rJ(hi:ρ[i]?=some (some (.d kvs)))(a:mk ρ=.ok (kP k))(d:mv ρ=.ok v)(b:kvs.length<=1000):gE i mk mv ρ=.ok (.nx (ρ.set i (some (.d (dput kvs k v))))):=by unfold gE;rw[d,okb,hi];dsimp only;rw[a,okb,tH];dsimp only;rw[if_pos (a0q b (by decide))]
def Q9(hg:g x ρ=some ρ1)(hb:b ρ1=.ok (.nx ρ2)):Qm g b (x::xs) ρ=Qm g b xs ρ2:=by show((k7 (g x ρ)).bind λρ1=>(b ρ1).bind _)=_;rw[hg];show(b ρ1).bind _=_;rw[hb];rfl
theorem Fu:∀{c:SQ}{k:Nat}(h:k+1<c.length),Adj R c->c[k+1]∈yI R (c[k]'(by omega))
 |a::b::c,0,_,h=>h.1
 |a::b::c,k+1,d,h=>Fu (c:=b::c) (k:=k) (by simpa using d) h.2
 |[],_,d,_=>by simp at d
 |[a],_,d,_=>by simp at d
def Bi(o:Ord R)(h:x∈R.map (·.1)):EB [(.str,true)] (kP x)=.ok (.b true):=by obtain⟨z,rfl⟩:=o.str x h;rfl
def NF(o:Ord R)(h:x∈yI R l):∃a,pIx (rwP R) (kP l)=.ok (.l (a.map kP))/\outside a x=false:=by obtain⟨a,b⟩:=b7 (n8 h);exact⟨a,Yz o.ok.nd b,lE ((show yI R l=a from WX o.ok.nd b)▸h)⟩
def DL(o:Ord R)(A:Adj R c)(q:∀x∈c,x∈R.map (·.1))(m:(V++c).Nodup)(C:V.length+c.length<=1000):∃t,Qm vY vZ (mY 0 c.length) [some x0,some (rwP R),some (.d (trP V)),some (.l (c.map kP)),w]=.ok (.nx [some x0,some (rwP R),some (.d (trP (V++c))),some (.l (c.map kP)),t]):=by
 obtain⟨u,⟨p,f⟩,e⟩:=V4 (g:=vY) (b:=vZ) (λk j=>∃w,j=[some x0,some (rwP R),some (.d (trP (V++c.take k))),some (.l (c.map kP)),w]) c.length [some x0,some (rwP R),some (.d (trP V)),some (.l (c.map kP)),w] ⟨w,by rw[List.take_zero,a0m]⟩ (λk d j ⟨w,f⟩=>by
  subst f;have ix:∀{a b:ME}{j:Sto},a j=.ok (.l (c.map kP))->b j=.ok (.i (k:Int))->mOp pIx a b j=.ok (kP c[k]):=λz s=>zw z s (Bd d);have mk:=q c[k] (a1x d);have n:c[k]∉V++c.take k:=λh=>by
   have l:V++c=(V++c.take k)++c.drop k:=by rw[W1,a3n]
   rw[l]at m;exact(a0r.mp m).2.2 _ h c[k] (by rw[a0Y d];exact u8) rfl
  refine⟨_,rfl,_,⟨some (.i (k:Int)),rfl⟩,.inl (zd ⟨_,(yn (x:=false) (XQ (x:=false) (y:=false) (pX (x:=true) (yj ?_)) (XQ (x:=false) (y:=false) (yj (zw (ix rfl rfl) rfl (A_ mk))) (yj (zw (ix rfl rfl) rfl ?_))))).trans rfl,zd ⟨_,(yn (x:=false) ?_).trans rfl,?_⟩⟩)⟩
  .show(mOp pIx (zb 3) (zb 4) _).bind _=_;rw[ix rfl rfl];exact Bi o mk
  .rw[A8,vD n];rfl
  .cases k with
   |zero=>exact nQ ((Ul (x:=0) rfl).trans rfl)
   |succ k=>obtain⟨B,l,r⟩:=NF o (Fu d A);refine Um (x:=true) (y:=false) ((Ul (x:=((k+1:Nat):Int)) rfl).trans (by rw[a0d (by omega)])) (yj (zw (ix rfl rfl) (zw rfl (zw (y:=.i (k:Int)) rfl (zw rfl rfl (show Out.ok (PV.i (((k+1:Nat):Int)-1))=_ from by rw[show((k+1:Nat):Int)-1=(k:Int) by omega])) (Bd (by omega))) l) ?_));rw[DE,r]
  .have:=rJ (i:=2) (k:=c[k]) (kvs:=trP (V++c.take k)) (mk:=mOp pIx (zb 3) (zb 4)) (mv:=mC (.b true)) (v:=.b true) (ρ:=[some x0,some (rwP R),some (.d (trP (V++c.take k))),some (.l (c.map kP)),some (.i (k:Int))]) rfl (ix rfl rfl) rfl (by rw[n5,S4,a1Z];omega);refine this.trans ?_;rw[bZ n,W1,show c.take k++[c[k]]=c.take (k+1) by rw[List.take_succ,T7 d];rfl];rfl)
 subst f;rw[List.take_length]at e;exact⟨p,e⟩
def tN(o:Ord R)(h:Chs R cs):qQ [csP cs,rwP R]=.ok (.b true):=by
 have j:=h.len o;have few:=o.ok.few;have loop:∀(a A:Tv)(w v:Te),A++a=cs->∃d b,Qm QM v5 (a.map λc=>PV.l (c.map kP)) [some (csP cs),some (rwP R),some (.d (trP A.flatten)),w,v]=.ok (.nx [some (csP cs),some (rwP R),some (.d (trP cs.flatten)),d,b]):=by
  intro a
  induction a with
  |nil=>intro A w v e;rw[a0m]at e;subst e;exact⟨w,v,rfl⟩
  |cons c a p=>
   intro A w v e;have f:c∈cs:=by rw[<- e];exact T4 _ u8
   have l:=h.nd;rw[<- e,a2m,a0S,<- W1]at l;have s:A.flatten.length+c.length<=40:=by rw[<- e,a2m,a0S,S4,S4]at j;omega
   obtain⟨i,t⟩:=DL (x0:=csP cs) (V:=A.flatten) (w:=v) o (h.adj c f) (λx m=>(h.all x).mp (a1L.mpr ⟨c,f,m⟩)) (a0r.mp l).1 (by omega);obtain⟨d,b,g⟩:=p (A++[c]) (some (.l (c.map kP))) i (by rw[W1];exact e);rw[a2m,a0S,List.flatten_nil,a0m]at g;refine⟨d,b,?_⟩;rw[T6];have q:v5 [some (csP cs),some (rwP R),some (.d (trP A.flatten)),some (.l (c.map kP)),v]=.ok (.nx [some (csP cs),some (rwP R),some (.d (trP (A.flatten++c))),some (.l (c.map kP)),i]):=by
    refine zd ⟨_,(yn (x:=false) (XQ (x:=false) (y:=false) rfl (yj (zw rfl rfl (z:=.b false) ?_)))).trans rfl,qX (a_ (n:=(c.length:Int)) (zB (zx (xs:=[.l (c.map kP)]) rfl (by show Out.ok (PV.i ((c.map kP).length:Int))=_;rw[f8])) rfl) (by omega) (by omega)) (by rw[a07];exact t)⟩;cases c with
    |nil=>exact absurd rfl (h.ne _ f)
    |cons x r=>rfl
   exact(Q9 rfl q).trans g
 obtain⟨d,b,e⟩:=loop cs [] none none rfl;refine zO (zd ⟨_,(yn (x:=false) rfl).trans rfl,zd ⟨_,rfl,zd ⟨_,qX (yx rfl) e,Q7 (zw (x:=.i (R.length:Int)) (y:=.i (R.length:Int)) (zx (xs:=[.d (trP cs.flatten)]) rfl ?_) (zx (xs:=[rwP R]) rfl Fp) ?_)⟩⟩⟩)
 .show Out.ok (PV.i ((trP cs.flatten).length:Int))=_;rw[n5,j]
 .rw[xw,a0d rfl];rfl
end
abbrev t7(x0 x2:Te)(o:Str)(W:List Wy)(h:Ht)(b:Bool)(r:TK):Sto:=[x0,some (.l (W.map wP)),x2,some (.s o),some (.d (hD h)),some (.b b)]++r
def DM{x0 x2:Te}{o:Str}{W:List Wy}{h:Ht}{b:Bool}{w:Wy}{a7:Te}(q:h.length<100000):∃g,jT [x0,some (.l (W.map wP)),x2,some (.s o),some (.d (hD h)),some (.b b),some (.s w.1),some (.s w.2.1),some (.i w.2.2),a7]=.ok (.nx [x0,some (.l (W.map wP)),x2,some (.s o),some (.d (hD (rlx (h,b) w).1)),some (.b (rlx (h,b) w).2),some (.s w.1),some (.s w.2.1),some (.i w.2.2),g]):=by
 have e:=yn (ρ:=[x0,some (.l (W.map wP)),x2,some (.s o),some (.d (hD h)),some (.b b),some (.s w.1),some (.s w.2.1),some (.i w.2.2),a7]) (a:=zD (yo 9 (mOp qZ (mOp pIx (zb 4) (zb 6)) (zb 8))) (sIf (mOr (z9 (mOp (pIn true) (zb 7) (zb 4))) (z9 (mOp pLt (zb 9) (mOp pIx (zb 4) (zb 7))))) (zD (gE 4 (zb 7) (zb 9)) (yo 5 (mC (.b true)))) yk)) (b:=yk) (dW (n:=false) (a:=zb 6) (i:=4) rfl rfl);unfold rlx;dsimp only;cases f:zm h (sk w.1)with
 |none=>rw[f]at e;exact⟨a7,e⟩
 |some x=>
  rw[f]at e;have put:∀{d:Sto},d=[x0,some (.l (W.map wP)),x2,some (.s o),some (.d (hD h)),some (.b b),some (.s w.1),some (.s w.2.1),some (.i w.2.2),some (.i (x+w.2.2))]->zD (gE 4 (zb 7) (zb 9)) (yo 5 (mC (.b true))) d=.ok (.nx [x0,some (.l (W.map wP)),x2,some (.s o),some (.d (hD (dput h (sk w.2.1) (x+w.2.2)))),some (.b true),some (.s w.1),some (.s w.2.1),some (.i w.2.2),some (.i (x+w.2.2))]):=λ{d} j=>by subst j;refine zd ⟨[x0,some (.l (W.map wP)),x2,some (.s o),some (.d (hD (dput h (sk w.2.1) (x+w.2.2)))),some (.b true),some (.s w.1),some (.s w.2.1),some (.i w.2.2),some (.i (x+w.2.2))].set 5 (some (.b b)),?_,rfl⟩;show(if(hD h).length<sizeLine then Out.ok (Fw.nx [x0,some (.l (W.map wP)),x2,some (.s o),some (.d (dput (hD h) (sk w.2.1) (.i (x+w.2.2)))),some (.b b),some (.s w.1),some (.s w.2.1),some (.i w.2.2),some (.i (x+w.2.2))])else .wall)=_;rw[if_pos (by rw[Fj];exact a0c q (by decide)),Fi];rfl
  have p:yo 9 (mOp qZ (mOp pIx (zb 4) (zb 6)) (zb 8)) [x0,some (.l (W.map wP)),x2,some (.s o),some (.d (hD h)),some (.b b),some (.s w.1),some (.s w.2.1),some (.i w.2.2),a7]=.ok (.nx [x0,some (.l (W.map wP)),x2,some (.s o),some (.d (hD h)),some (.b b),some (.s w.1),some (.s w.2.1),some (.i w.2.2),some (.i (x+w.2.2))]):=z8 (zw (i8 rfl rfl f) rfl rfl);refine⟨some (.i (x+w.2.2)),e.trans ?_⟩;show zD _ _ _=_;refine zd ⟨_,p,?_⟩;cases l:zm h (sk w.2.1)with
  |none=>refine(yn (Fm ((dW (n:=true) (a:=zb 7) (i:=4) rfl rfl).trans (by rw[l];rfl)))).trans ?_;exact put rfl
  |some y=>
   dsimp only;have t:=yn (ρ:=[x0,some (.l (W.map wP)),x2,some (.s o),some (.d (hD h)),some (.b b),some (.s w.1),some (.s w.2.1),some (.i w.2.2),some (.i (x+w.2.2))]) (a:=zD (gE 4 (zb 7) (zb 9)) (yo 5 (mC (.b true)))) (b:=yk) (XQ (x:=false) ((dW (n:=true) (a:=zb 7) (i:=4) rfl rfl).trans (by rw[l];rfl)) (yj (m:=mOp pLt (zb 9) (mOp pIx (zb 4) (zb 7))) (b:=decide (x+w.2.2<y)) (zw rfl (i8 rfl rfl l) rfl)));refine t.trans ?_;by_cases c:x+w.2.2<y
   .rw[if_pos c,a0d c];exact put rfl
   .rw[if_neg c,T5 c];rfl
theorem lG{K:SQ}{x0 x2:Te}{o:Str}{W:List Wy}(n:K.length<=1000)(p:∀w∈W,sk w.2.1∈K/\1<=w.2.2):∀{V:List Wy}{u:Ht×Bool}{r:TK},(∀w∈V,w∈W)->pZ W K o u.1->Ke r->∃a,Ke a/\Qm QI jT (V.map wP) (t7 x0 x2 o W u.1 u.2 r)=.ok (.nx (t7 x0 x2 o W (V.foldl rlx u).1 (V.foldl rlx u).2 a))
 |[],u,r,_,_,f=>⟨r,f,rfl⟩
 |w::V,u,r,d,i,f=>by obtain⟨v,y,x,c,rfl⟩:=f;obtain⟨l,e⟩:=DM (x0:=x0) (x2:=x2) (o:=o) (W:=W) (h:=u.1) (b:=u.2) (w:=w) (a7:=c) (a0q (T9 i.len n) (by decide));obtain⟨g,m⟩:=p w (d w u8);obtain⟨t,_⟩:=As (u:=u) (w:=w) i (d w u8) g m;obtain⟨a,j,q⟩:=lG (x0:=x0) (x2:=x2) n p (V:=V) (u:=rlx u w) (r:=[some (.s w.1),some (.s w.2.1),some (.i w.2.2),l]) (λs h=>d s (S0 _ h)) t ⟨_,_,_,_,rfl⟩;refine⟨a,j,?_⟩;rw[a08,<- q];show(jT [x0,some (.l (W.map wP)),x2,some (.s o),some (.d (hD u.1)),some (.b u.2),some (.s w.1),some (.s w.2.1),some (.i w.2.2),c]).bind _=_;rw[e];rfl
theorem Bj(s:K.length<=1000)(q:∀w∈W,sk w.2.1∈K/\1<=w.2.2)(h:Ht)(i:pZ W K o h):∃n m,pZ W K o m/\(∀w∈W,aA m w)/\(∀r,Ke r->∃l,qg YO qk n (hSt o W h true r)=.ok (.nx (hSt o W m false l)))/\∀g f r,Ke r->∃l,Ke l/\qg jU yw n (t7 g f o W h true r)=.ok (.nx (t7 g f o W m false l)):=by
 obtain⟨F,E⟩:=p0 (W:=W) (u:=(h,false)) i λw h=>⟨h,q w h⟩;have A:∀r,Ke r->∃d,Ke d/\qk (hSt o W h true r)=.ok (.nx (hSt o W (W.foldl rlx (h,false)).1 (W.foldl rlx (h,false)).2 d)):=λr j=>by obtain⟨d,c,y⟩:=p4 (o:=o) s q (V:=W) (u:=(h,false)) (λw h=>h) i j;exact⟨d,c,zd ⟨hSt o W h false r,rfl,qX (yx rfl) y⟩⟩
 have B:∀g f r,Ke r->∃d,Ke d/\yw (t7 g f o W h true r)=.ok (.nx (t7 g f o W (W.foldl rlx (h,false)).1 (W.foldl rlx (h,false)).2 d)):=λg f r j=>by obtain⟨d,c,y⟩:=lG (x0:=g) (x2:=f) (o:=o) s q (V:=W) (u:=(h,false)) (λw h=>h) i j;exact⟨d,c,zd ⟨t7 g f o W h false r,rfl,qX (yx rfl) y⟩⟩
 rcases E with⟨z,t⟩|⟨C,p⟩
 .refine⟨2,h,i,t,λr j=>?_,λg f r j=>?_⟩
  .obtain⟨d,c,e⟩:=A r j;refine⟨d,?_⟩;show(qk (hSt o W h true r)).bind _=_;rw[e,z];rfl
  .obtain⟨d,c,e⟩:=B g f r j;refine⟨d,c,?_⟩;show(yw (t7 g f o W h true r)).bind _=_;rw[e,z];rfl
 .obtain⟨n,m,D,t,a,b⟩:=Bj s q (W.foldl rlx (h,false)).1 F;refine⟨n+1,m,D,t,λr j=>?_,λg f r j=>?_⟩
  .obtain⟨d,c,e⟩:=A r j;obtain⟨l,x⟩:=a d c;refine⟨l,?_⟩;show(qk (hSt o W h true r)).bind _=_;rw[e,C];exact x
  .obtain⟨d,c,e⟩:=B g f r j;obtain⟨l,v,x⟩:=b g f d c;refine⟨l,v,?_⟩;show(yw (t7 g f o W h true r)).bind _=_;rw[e,C];exact x
termination_by (K.length-h.length,Hk h)
decreasing_by exact p
def b8(C:W.length<=100)(v:∀w∈W,1<=w.2.2):∃h,Qf o W h/\yp [.s o,.l (W.map wP)]=.ok (.d (hD h))/\∀i d p m r,Ke r->∃f,Ke f/\∀D,zD (yo 4 (mD1 (zb 3) (mC (.i 0)))) (zD (yo 5 (mC (.b true))) (zD (Qn jU yw) D)) ([i,some (.l (W.map wP)),d,some (.s o),p,m]++r)=D (t7 i d o W h false f):=by
 have s:pZ W (sk o::W.map λw=>sk w.2.1) o [(sk o,0)]:=by
  refine⟨λg y e=>?_,a0t.mpr ⟨by simp,a0X⟩,λk q=>?_,λk x e=>?_,?_⟩
  .rw[zV]at e;split at e
   .rename_i c;exact .inl c.symm
   .cases e
  .rw[T2.mp q];exact u8
  .rw[zV]at e;split at e
   .cases e;exact a3Q _
   .cases e
  .rw[zV,if_pos rfl]
 obtain⟨n,B,t,u,a,b⟩:=Bj (o:=o) (W:=W) (K:=sk o::W.map λw=>sk w.2.1) (by rw[v4,f8];omega) (λw l=>⟨S0 _ (a0i.mpr ⟨w,l,rfl⟩),v w l⟩) [(sk o,0)] s;refine⟨B,⟨t,u⟩,?_,λi d p m r A=>?_⟩
 .obtain⟨f,e⟩:=a [none,none,none,none] ⟨_,_,_,_,rfl⟩;exact zO (zd ⟨_,rfl,zd ⟨hSt o W [(sk o,0)] true [none,none,none,none],rfl,zd ⟨_,V0 e (by intro z;cases z),rfl⟩⟩⟩)
 .obtain⟨f,j,e⟩:=b i d r A;exact⟨f,j,λD=>zd ⟨_,rfl,zd ⟨t7 i d o W [(sk o,0)] true r,rfl,zd ⟨_,V0 e (by intro z;cases z),rfl⟩⟩⟩⟩
abbrev RF(W:List Wy)(z:Str)(h:Ht):Prop:=∀x0 x2 x4 x5 r,Ke r->∃r',Ke r'/\∀D,zD (yo 4 (mD1 (zb 3) (mC (.i 0)))) (zD (yo 5 (mC (.b true))) (zD (Qn jU yw) D)) ([x0,some (.l (W.map wP)),x2,some (.s z),x4,x5]++r)=D (t7 x0 x2 z W h false r')
def lH(R:ROk N W):∃F:Str->Ht,∀z,Qf z W (F z)/\yp [.s z,.l (W.map wP)]=.ok (.d (hD (F z)))/\RF W z (F z):=
 ⟨λz=>Classical.choose (b8 (o:=z) (W:=W) (by have:=R.wl;omega) λw a=>(R.ok w a).2.2.1),λz=>a0A (b8 (o:=z) (W:=W) (by have:=R.wl;omega) λw a=>(R.ok w a).2.2.1)⟩
def DN(h:z∉P):dput (ZG P F) (sk z) (.d (hD (F z)))=ZG (P++[z]) F:=by
 unfold dput;have:(ZG P F).any (λa=>decide (a.1=sk z))=false:=by rw[List.any_eq_false];intro a c;obtain⟨y,b,rfl⟩:=a0i.mp c;intro e;exact h (a0W (a0E e)▸b)
 rw[this];unfold ZG;rw[a0n];rfl
def tO(nd:N.Nodup)(hl:N.length<=12)(hF:∀z,RF W z (F z)):qP [.l (N.map .s),.l (W.map wP)]=.ok (.d (ZG N F)):=by
 have loop:∀(V P:SA)(x3 x4 x5:Te)(r:Sto),P++V=N->Ke r->∃x3' x4' x5' r',Qm QJ QK (V.map .s) ([some (.l (N.map .s)),some (.l (W.map wP)),some (.d (ZG P F)),x3,x4,x5]++r)=.ok (.nx ([some (.l (N.map .s)),some (.l (W.map wP)),some (.d (ZG N F)),x3',x4',x5']++r')):=by
  intro V
  induction V with
  |nil=>intro P x3 x4 x5 r e _;rw[a0m]at e;subst e;exact⟨x3,x4,x5,r,rfl⟩
  |cons z V ih=>
   intro P x3 x4 x5 r e hr;have hz:z∉P:=λh=>by rw[<- e]at nd;exact(a0r.mp nd).2.2 _ h z u8 rfl
   have hp:P.length<=12:=by rw[<- e,S4]at hl;omega
   obtain⟨r1,hr1,e1⟩:=hF z (some (.l (N.map .s))) (some (.d (ZG P F))) x4 x5 r hr;obtain⟨a,b,c,r',e2⟩:=ih (P++[z]) (some (.s z)) (some (.d (hD (F z)))) (some (.b false)) r1 (by rw[W1];exact e) hr1;refine⟨a,b,c,r',?_⟩;rw[T6];refine(Q9 (ρ1:=[some (.l (N.map .s)),some (.l (W.map wP)),some (.d (ZG P F)),some (.s z),x4,x5]++r) rfl ((e1 _).trans (rJ (k:=sk z) (kvs:=ZG P F) (v:=.d (hD (F z))) rfl rfl rfl (by unfold ZG;rw[f8];omega)))).trans ?_;rw[DN hz];exact e2
 obtain⟨a,b,c,r',e⟩:=loop N [] none none none [none,none,none,none] rfl ⟨_,_,_,_,rfl⟩;exact zO (zd ⟨_,rfl,zd ⟨_,qX (yx rfl) e,rfl⟩⟩)
section
variable {N:SA}{W:List Wy}{F:Str->Ht}{T U V:List Tp}{t u v:Tp}
def tri(d:WS N W)(e:∀z,Qf z W (F z))(g:b∈N)(h:zm (F a) (sk b)=some x)(f:zm (F b) (sk c)=some y):∃z,z<=x+y/\zm (F a) (sk c)=some z:=
 AB d (e a) (AD d (e b) g _ (S5 _) f) x h
def Bk(h:lnk F t u=true):∃y,zm (F t.2.2.1) (sk u.2.1)=some y/\t.2.2.2.2.1+y<=u.2.2.2.1:=by
 unfold lnk at h;cases e:zm (F t.2.2.1) (sk u.2.1)with
 |none=>rw[e]at h;cases h
 |some y=>rw[e]at h;exact⟨y,rfl,a0E h⟩
def NG(b:∀z,Qf z W (F z))(a:TOk N F t)(h:lnk F t u=true):t.2.2.2.1<u.2.2.2.1:=by obtain⟨y,e,l⟩:=Bk h;have:=(b _).1.pos _ _ e;have:=a.fw;omega
def NH(c:WS N W)(d:∀z,Qf z W (F z))(b:TOk N F u)(j:lnk F t u=true)(g:lnk F u v=true):lnk F t v=true:=by obtain⟨p,l,q⟩:=Bk j;obtain⟨n,i,w⟩:=Bk g;obtain⟨o,e,r⟩:=b.len;obtain⟨z,m,h⟩:=tri c d b.org l e;obtain⟨s,f,a⟩:=tri c d b.goal h i;unfold lnk;rw[a];exact a0d (by omega)
def Rb(F:Str->Ht)(U:List Tp):Rw:=U.map λt=>(sk t.1,((U.filter (lnk F t)).map (·.1)).map sk)
def oa:(Rb F U).map (·.1)=(U.map (·.1)).map sk:=by unfold Rb;rw[a0a,a0a];rfl
def NI{l:SA}(c:l.Nodup):(l.map sk).Nodup:=a2E (S:=(·≠·)) sk (λa b h e=>h (a0W e)) c
def KH:x∈(Rb F U).map (·.1)↔∃t∈U,x=sk t.1:=by rw[oa,a0a,a0i];exact⟨λ⟨t,h,e⟩=>⟨t,h,e.symm⟩,λ⟨t,h,e⟩=>⟨t,h,e.symm⟩⟩
def WY(i:(U.map (·.1)).Nodup):x∈yI (Rb F U) l↔∃t∈U,∃u∈U,l=sk t.1/\x=sk u.1/\lnk F t u=true:=by
 have d:((Rb F U).map (·.1)).Nodup:=by rw[oa];exact NI i
 constructor
 .intro h;obtain⟨f,a⟩:=b7 (n8 h);rw[show yI (Rb F U) l=f from WX d a]at h;obtain⟨t,c,e⟩:=a0i.mp a;cases e;obtain⟨z,hz,rfl⟩:=a0i.mp h;obtain⟨u,b,rfl⟩:=a0i.mp hz;obtain⟨j,g⟩:=a0B.mp b;exact⟨t,c,u,j,rfl,rfl,g⟩
 .rintro ⟨t,c,u,b,rfl,rfl,h⟩
  rw[show yI (Rb F U) (sk t.1)=_ from WX d (a0i.mpr ⟨t,c,rfl⟩)];exact a0i.mpr ⟨_,a0i.mpr ⟨u,a0B.mpr ⟨b,h⟩,rfl⟩,rfl⟩
def Fv(n:WS N W)(g:∀z,Qf z W (F z))(a:(U.map (·.1)).Nodup)(i:∀t∈U,TOk N F t)(f:U.length<=40):Ord (Rb F U)where
 ok:=⟨by rw[oa];exact NI a,by unfold Rb;rw[f8];exact f,λp hp=>by
  obtain⟨t,_,rfl⟩:=a0i.mp hp;show(((U.filter (lnk F t)).map (·.1)).map sk).length<=40;rw[f8,f8];exact T9 (a3m ..) f⟩
 known l x h:=by obtain⟨t,_,u,b,_,e,_⟩:=(WY a).mp h;exact KH.mpr ⟨u,b,e⟩
 irr l h:=by obtain⟨t,c,u,b,rfl,e,k⟩:=(WY a).mp h;have:=rn a c b (a0W e);subst this;have:=NG g (i t c) k;omega
 tr l x y h1 h2:=by obtain⟨t,c,u,b,rfl,rfl,m⟩:=(WY a).mp h1;obtain⟨q,d,v,o,e,rfl,j⟩:=(WY a).mp h2;have:=rn a b d (a0W e);subst this;exact(WY a).mpr ⟨t,c,v,o,rfl,rfl,NH n g (i u b) m j⟩
 str k h:=by obtain⟨t,_,e⟩:=KH.mp h;exact⟨_,e⟩
def Bl(d:(U.map (·.1)).Nodup)(c:(V.map (·.1)).Nodup)(h:∀t∈U,t∈V)(l x:Tw)(m:x∈yI (Rb F U) l):x∈yI (Rb F V) l:=by obtain⟨t,b,u,a,e⟩:=(WY d).mp m;exact(WY c).mpr ⟨t,h t b,u,h u a,e⟩
theorem Fx{R a:Rw}(h:∀l x,x∈yI R l->x∈yI a l):∀{c:SQ},Adj R c->Adj a c
 |[],_=>trivial
 |[_],_=>trivial
 |_::_::_,b=>⟨h _ _ b.1,Fx h b.2⟩
def HP:PV.d (nT F T)=rwP (Rb F (Xg T)):=by show PV.d ((Xg T).map _)=PV.d (((Xg T).map _).map _);rw[a0a];congr 1;refine a1c λt _=>?_;show(sk t.1,PV.l ((((Xg T).filter (lnk F t)).map (·.1)).map .s))=(sk t.1,PV.l (((((Xg T).filter (lnk F t)).map (·.1)).map sk).map kP));rw[a0a (g:=kP)];rfl
def Sr:rwP (Rb F U)=.d (duA F U U):=by show PV.d ((U.map _).map _)=PV.d (U.map _);rw[a0a];congr 1;refine a1c λt _=>?_;show(sk t.1,PV.l ((((U.filter (lnk F t)).map (·.1)).map sk).map kP))=(sk t.1,PV.l (((U.filter (lnk F t)).map (·.1)).map .s));rw[a0a (g:=kP)];rfl
def DO(c:a ρ=.ok (.b false)):g9 a b ρ=.ok (.b false):=by unfold g9;rw[c];rfl
def NJ:ZY [tP t,tP u,.d (hD (F t.2.2.1))]=.ok (.b (lnk F t u)):=by
 have a:mOp (pIn false) (mOp pIx (zb 1) (mC (.i 1))) (zb 2) [some (tP t),some (tP u),some (.d (hD (F t.2.2.1)))]=.ok (.b (zm (F t.2.2.1) (sk u.2.1)).isSome):=zw (x:=.s u.2.1) (zw rfl rfl rfl) rfl (by
  show Out.ok (PV.b (xor false (zm (hD (F t.2.2.1)) (sk u.2.1)).isSome))=_;rw[dU,a1q,a1u])
 refine zO (Q7 ?_);unfold lnk;cases e:zm (F t.2.2.1) (sk u.2.1)with
 |none=>rw[e]at a;exact DO a
 |some y=>rw[e]at a;exact(Aq a (y:=decide (t.2.2.2.2.1+y<=u.2.2.2.1)) (zw (zw (zw rfl rfl rfl) (i8 (i:=2) (zw rfl rfl rfl) rfl e) rfl) (zw rfl rfl rfl) rfl)).trans rfl
def DP(h:t.1∉A.map (·.1)):dput (duA F U A) (sk t.1) (.l (((U.filter (lnk F t)).map (·.1)).map .s))=duA F U (A++[t]):=by unfold dput;rw[jh,Dz h];unfold duA;rw[a0n];rfl
def d4(nd:(U.map (·.1)).Nodup)(hT:∀t∈U,TOk N F t)(hl:U.length<=40):yX [.l (U.map tP),.d (ZG N F)]=.ok (rwP (Rb F U)):=by
 have loop:∀(V P:List Tp)(x:Te),P++V=U->∃x',Qm Kv Kw (V.map tP) [some (.l (U.map tP)),some (.d (ZG N F)),some (.d (duA F U P)),x]=.ok (.nx [some (.l (U.map tP)),some (.d (ZG N F)),some (.d (duA F U U)),x']):=by
  intro V
  induction V with
  |nil=>intro P x e;rw[a0m]at e;subst e;exact⟨x,rfl⟩
  |cons t V ih=>
   intro P x e;have ht:t∈U:=by rw[<- e];exact T4 _ u8
   have hz:t.1∉P.map (·.1):=λh=>by rw[<- e,a0n,T6]at nd;exact(a0r.mp nd).2.2 _ h _ u8 rfl
   have hp:P.length<=40:=by rw[<- e,S4]at hl;omega
   obtain⟨x',e2⟩:=ih (P++[t]) (some (tP t)) (by rw[W1];exact e);have el:=Yf (g:=QO) (c:=QP) (e:=QQ) tP (lnk F t) (λu=>.s u.1) (λρ=>∃o,ρ=[o,some (tP t),some (.d (ZG N F))]) U [none,some (tP t),some (.d (ZG N F))] [] ⟨none,rfl⟩ (λu hu ρ ⟨o,ho⟩=>by
    subst ho;exact⟨_,rfl,⟨_,rfl⟩,yj (zx (zB rfl (zB rfl (zB (zw rfl (zw rfl rfl rfl) (show k7 (zm (ZG N F) (sk t.2.2.1))=_ from by rw[Az (hT t ht).goal];rfl)) rfl))) NJ),λ_=>zw rfl rfl rfl⟩) (by rw[a1C];omega)
   rw[a1h]at el;refine⟨x',?_⟩;rw[T6];refine(Q9 (ρ1:=[some (.l (U.map tP)),some (.d (ZG N F)),some (.d (duA F U P)),some (tP t)]) rfl (rJ (k:=sk t.1) (kvs:=duA F U P) (v:=.l (((U.filter (lnk F t)).map (·.1)).map .s)) rfl (zw rfl rfl rfl) (by rw[a0a];exact UR (yx rfl) el) (by rw[f8];omega))).trans ?_;rw[DP hz];exact e2
 obtain⟨x',e⟩:=loop U [] none rfl;rw[Sr];exact zO (zd ⟨_,rfl,zd ⟨_,qX (yx rfl) e,rfl⟩⟩)
end
section
variable {R:Rw}{a:Tw}{A:SQ}
def HQ(h:ρ[i]?=some (some (.l (xs++[y])))):sS i j ρ=.ok (.nx ((ρ.set i (some (.l xs))).set j (some y))):=by unfold sS;rw[h];dsimp only;rw[show(xs++[y])[(xs++[y]).length-1]?=some y by simp];rw[a3z]
def NK(o:Ord R):∀(m:Nat)(V ws:SQ)(x:Te),V.Nodup->(∀z∈V,z∈yI R a)->(∀z∈ws,z∈yI R a)->ws.length+41*(40-V.length)<=m->ws.length<=40+40*V.length->∃(n:Nat)(g:SQ)(r:Te),(∀z∈g,z∈yI R a)/\qg qA yS n [some (rwP R),some (kP a),some (.d (trP V)),some (.l (ws.map kP)),x]=.ok (.nx [some (rwP R),some (kP a),some (.d (trP g)),some (.l []),r]):=by
 intro m
 induction m with
 |zero=>intro V ws x F l B G _;have:ws=[]:=a2i (by omega);subst this;exact⟨1,V,x,l,rfl⟩
 |succ m H=>
  intro V ws x F l B G N;rcases a16 ws with rfl|⟨b,w,e⟩
  .exact⟨1,V,x,l,rfl⟩
  rw[a17]at e;subst e;rw[S4,a0Z]at G N;have E:qA [some (rwP R),some (kP a),some (.d (trP V)),some (.l ((b++[w]).map kP)),x]=.ok true:=by cases b<;>rfl
  have D:w∈yI R a:=B w (T4 _ u8);have I:∀z∈b,z∈yI R a:=λz hz=>B z (T8 _ hz);have s:sS 3 4 [some (rwP R),some (kP a),some (.d (trP V)),some (.l ((b++[w]).map kP)),x]=.ok (.nx [some (rwP R),some (kP a),some (.d (trP V)),some (.l (b.map kP)),some (kP w)]):=by rw[a0n];exact HQ rfl
  have J:∀{n:Nat}{C:Sto}{q},yS [some (rwP R),some (kP a),some (.d (trP V)),some (.l ((b++[w]).map kP)),x]=.ok (.nx C)->qg qA yS n C=q->qg qA yS (n+1) [some (rwP R),some (kP a),some (.d (trP V)),some (.l ((b++[w]).map kP)),x]=q:=λ{n C q} t j=>by unfold qg;rw[E];show(yS [some (rwP R),some (kP a),some (.d (trP V)),some (.l ((b++[w]).map kP)),x]).bind _=_;rw[t];exact j
  by_cases c:w∈V
  .obtain⟨n,g,r,t,j⟩:=H V b (some (kP w)) F l I (by omega) (by omega);refine⟨n+1,g,r,t,J (zd ⟨_,s,(yn (x:=false) (yj (zw rfl rfl ?_))).trans rfl⟩) j⟩;rw[gh,Zh c];rfl
  .obtain⟨f,d⟩:=b7 (o.known _ _ D);have M:yI R w=f:=WX o.ok.nd d;have O:f.length<=40:=o.ok.short _ d;have few:=o.ok.few;have u:(V++[w]).Nodup:=a0r.mpr ⟨F,by simp,λp hp q K e=>c (by rw[List.mem_singleton.mp K]at e;exact e▸hp)⟩;have i:∀z∈V++[w],z∈yI R a:=λz hz=>(a0j.mp hz).elim (l z) λh=>by rw[T2.mp h];exact D
   have L:=Z2 u λz hz=>o.known _ _ (i z hz);rw[S4,a0Z,f8]at L;obtain⟨n,g,r,t,j⟩:=H (V++[w]) (b++f) (some (kP w)) u i (λz hz=>(a0j.mp hz).elim (I z) λh=>o.tr _ _ _ D (M▸h)) (by rw[S4,S4,a0Z];omega) (by rw[S4,S4,a0Z];omega);refine⟨n+1,g,r,t,J (zd ⟨_,s,(yn (x:=true) (yj (zw rfl rfl ?_))).trans (zd ⟨_,rJ (k:=w) (kvs:=trP V) (v:=.b true) rfl rfl rfl (by rw[n5];omega),?_⟩)⟩) j⟩
   .rw[gh,vD c];rfl
   .rw[bZ c];show(mOp pIx (zb 0) (zb 4) [some (rwP R),some (kP a),some (.d (trP (V++[w]))),some (.l (b.map kP)),some (kP w)]).bind _=_;rw[zw (x:=rwP R) (y:=kP w) rfl rfl (Yz o.ok.nd d)];show(if(b.map kP).length+(f.map kP).length<=sizeLine then Out.ok (Fw.nx [some (rwP R),some (kP a),some (.d (trP (V++[w]))),some (.l (b.map kP++f.map kP)),some (kP w)])else .wall)=_;rw[if_pos (by rw[f8,f8];exact T9 (show b.length+f.length<=2000 by omega) (by decide)),<- a0n]
def og(o:Ord R)(e:a∈R.map (·.1)):∃V:List Key,(∀z∈V,z∈yI R a)/\qR [rwP R,kP a]=.ok (.d (trP V)):=by obtain⟨c,b⟩:=b7 e;have d:yI R a=c:=WX o.ok.nd b;have i:c.length<=40:=o.ok.short _ b;obtain⟨n,V,h,g,f⟩:=NK (a:=a) o _ [] c none a0X (λz hz=>by cases hz) (λz hz=>d▸hz) (S5 _) (by rw[a1C];omega);exact⟨V,g,zO (zd ⟨_,rfl,zd ⟨_,z8 (zx (zB (zw rfl rfl (Yz o.ok.nd b)) rfl) rfl),zd ⟨_,V0 f (by intro z;cases z),rfl⟩⟩⟩)⟩
def HU(b:A.Nodup)(c:k<A.length):A[k]∉A.take k:=λh=>by have e:A=A.take k++A.drop k:=(a3n ..).symm;rw[e]at b;exact(a0r.mp b).2.2 _ h A[k] (by grind) rfl
def Bm(o:Ord R)(nd:A.Nodup)(hA:∀x∈A,x∈R.map (·.1))(ap:∀a∈A,∀b∈A,b∉yI R a):ki [.l (A.map kP),rwP R]=.ok (.b true):=by
 have few:=o.ok.few;have lA:=Z2 nd hA;rw[f8]at lA;have inn:∀(V B:SQ)(k x:Te),(∀b∈B,b∉V)->∃x',Qm Wx Wz (B.map kP) [some (.l (A.map kP)),some (rwP R),k,some (.d (trP V)),x]=.ok (.nx [some (.l (A.map kP)),some (rwP R),k,some (.d (trP V)),x']):=by
  intro V B
  induction B with
  |nil=>intro k x _;exact⟨x,rfl⟩
  |cons b B ih=>intro k x hB;obtain⟨x',e⟩:=ih k (some (kP b)) λz hz=>hB z (S0 _ hz);refine⟨x',?_⟩;rw[T6];refine(Q9 (ρ1:=[some (.l (A.map kP)),some (rwP R),k,some (.d (trP V)),some (kP b)]) rfl ((yn (x:=false) (yj (zw rfl rfl ?_))).trans rfl)).trans e;rw[A8,vD (hB b u8)];rfl
 obtain⟨ρ',⟨a3,a4,x,hρ⟩,e⟩:=V4 (g:=WA) (b:=WB) (λ_ ρ=>∃a3 a4 x,ρ=[some (.l (A.map kP)),some (rwP R),a3,a4,x]) A.length [some (.l (A.map kP)),some (rwP R),none,none,none] ⟨none,none,none,rfl⟩ (λk hk ρ ⟨a3,a4,x,hρ⟩=>by
  subst hρ;have ix:∀{a b:ME}{ρ:Sto},a ρ=.ok (.l (A.map kP))->b ρ=.ok (.i (k:Int))->mOp pIx a b ρ=.ok (kP A[k]):=λh1 h2=>zw h1 h2 (Bd hk);have mk:=hA A[k] (a1x hk);obtain⟨V,h1,h2⟩:=og o mk;obtain⟨x',e1⟩:=inn V A (some (.i (k:Int))) x λb hb hv=>ap _ (a1x hk) b hb (h1 b hv);refine⟨_,rfl,_,⟨some (.i (k:Int)),some (.d (trP V)),x',rfl⟩,.inl (zd ⟨_,(yn (x:=false) (XQ (x:=false) (y:=false) (pX (x:=true) (yj ?_)) (XQ (x:=false) (y:=false) (yj (zw (ix rfl rfl) rfl (A_ mk))) (yj (zw (ix rfl rfl) (y:=.l ((A.take k).map kP)) ?_ ?_))))).trans rfl,zd ⟨_,z8 (zx (zB rfl (zB (ix rfl rfl) rfl)) h2),qX (yx rfl) e1⟩⟩)⟩
  .show(mOp pIx (zb 0) (zb 2) _).bind _=_;rw[ix rfl rfl];exact Bi o mk
  .refine(AL (x:=.l (A.map kP)) (l:=none) (h:=some (k:Int)) rfl rfl (Hy rfl)).trans ?_;show Out.ok (PV.l (tZ (A.map kP) none (some (k:Int))))=_;rw[P4 (by rw[f8];omega),List.map_take]
  .rw[Fs,zJ.mpr (HU nd hk)];rfl)
 subst hρ;refine zO (zd ⟨_,(yn (x:=false) rfl).trans rfl,zd ⟨_,qX (a_ (n:=(A.length:Int)) (zB (zx (xs:=[.l (A.map kP)]) rfl wm) rfl) (by omega) (by omega)) (by rw[a07];exact e),rfl⟩⟩)
end
section
variable {N:SA}{W:List Wy}{F:Str->Ht}{T U:List Tp}{P:AH}{cs:Tv}
def P5(x:Tw):imm (kP x)=true:=by cases x<;>rfl
theorem Bn{G:AH}{n:Nat}:∀{A:SQ},cH (cI G (n+1)) ((A.map kP).map .v)=some (A.map kP)
 |[]=>rfl
 |x::A=>by show((cI G (n+1) (.v (kP x))).bind λy=>(cH (cI G (n+1)) ((A.map kP).map .v)).map (y::·))=_;rw[Bn (A:=A),show cI G (n+1) (.v (kP x))=some (kP x)from if_pos (P5 x)];rfl
def Fy{G:AH}{n k:Nat}{c:SQ}(h:G[k]?=some (.l ((c.map kP).map .v))):cI G (n+2) (.g k)=some (.l (c.map kP)):=by unfold cI;rw[h];show(cH _ _).map PV.l=_;rw[Bn];rfl
theorem Bo{G:AH}{n:Nat}:∀{cs:Tv}{js:Sy},js.length=cs.length->(∀(i:Nat) j c,js[i]?=some j->cs[i]?=some c->G[j]?=some (ksC c))->cH (cI G (n+2)) (js.map .g)=some (cs.map λc=>.l (c.map kP))
 |[],[],_,_=>rfl
 |c::cs,j::js,hl,h=>by show((cI G (n+2) (.g j)).bind λy=>(cH (cI G (n+2)) (js.map .g)).map (y::·))=_;rw[Fy (h 0 j c rfl rfl),Bo (cs:=cs) (js:=js) (by simpa using hl) λi j c h1 h2=>h (i+1) j c h1 h2];rfl
 |[],_::_,hl,_=>by cases hl
 |_::_,[],hl,_=>by cases hl
def HW:cI (chG P cs) 8 (.g (P.length+cs.length))=some (csP cs):=by
 unfold cI;rw[HN];show(cH (cI (chG P cs) 7) ((List.range cs.length).map λj=>.g (P.length+j))).map PV.l=_;rw[show((List.range cs.length).map λj=>HV.g (P.length+j))=((List.range cs.length).map λj=>P.length+j).map .g by rw[a0a];rfl,Bo (n:=5) (cs:=cs) (by rw[f8,a0x]) λi j c d f=>?_]
 .rfl
 .rw[a0e]at d;obtain⟨q,e,rfl⟩:=v0.mp d;obtain⟨a,b⟩:=S7.mp e;rw[a1l]at b;subst b;rw[a0x]at a;rw[ND a];obtain⟨_,g⟩:=S7.mp f;rw[g]
structure Ant(R:Rw)(A:SQ):Prop where
 nd:A.Nodup
 sub:∀x∈A,x∈R.map (·.1)
 ap:∀a∈A,∀b∈A,b∉yI R a
def Wid(R:Rw)(n:Nat):Prop:=(∃A,Ant R A/\A.length=n)/\∀A,Ant R A->A.length<=n
def oh(w:WS N W)(I:∀z,Qf z W (F z))(r:T.Perm U)(l:(U.map (·.1)).Nodup)(u:∀t∈U,TOk N F t/\Nm t.1)(v:U.length<=40):∃n:Nat,Wid (Rb F U) n/\jJ [roP N W F,.l (T.map tP),rwP (Rb F U)]=.ok (.i (n:Int)):=by
 have j:(T.map (·.1)).Nodup:=(r.map _).nodup_iff.mpr l;have D:T.length<=40:=by rw[r.length_eq];exact v
 have p:∀t∈T,TOk N F t/\Nm t.1:=λt i=>u t (r.mem_iff.mp i);have g:(Xg T).Perm U:=aB.trans r;have f:((Xg T).map (·.1)).Nodup:=(g.map _).nodup_iff.mpr l;have o:Ord (Rb F (Xg T)):=Fv w I f (λt i=>(u t (g.mem_iff.mp i)).1) (by rw[g.length_eq];exact v);have s:Ord (Rb F U):=Fv w I l (λt i=>(u t i).1) v;obtain⟨ow,P,cs,_,S,_,g1,C,lc⟩:=tM (G:=[]) o;obtain⟨ow',k,X,A,_,_,ha,Q,_,K,la,a1,Z,R,_⟩:=DJ (G:=[]) o;have Y:=a0H (g1.symm.trans K);subst Y;have J:A.length=cs.length:=by omega
 have H:∀x,x∈(Rb F (Xg T)).map (·.1)↔x∈(Rb F U).map (·.1):=λx=>by rw[KH,KH];exact⟨λ⟨t,h,e⟩=>⟨t,g.mem_iff.mp h,e⟩,λ⟨t,h,e⟩=>⟨t,g.mem_iff.mpr h,e⟩⟩
 have E:Chs (Rb F U) cs:=⟨C.ne,λd hd=>Fx (Bl f l λt h=>g.mem_iff.mp h) (C.adj d hd),C.nd,λx=>(C.all x).trans (H x)⟩;have q:Ant (Rb F U) A:=⟨a1,λx O=>(H x).mp (Z x O),λa h b h' m=>R a h b h' (Bl l f (λt h=>g.mem_iff.mpr h) _ _ m)⟩;refine⟨cs.length,⟨⟨A,q,J⟩,λB b=>E.le s b.nd b.sub b.ap⟩,?_⟩;have M:vOf Q5 [rwP (Rb F (Xg T))]=.ok (csP cs):=by
  show(match Q5 [.v (rwP (Rb F (Xg T)))] []with
   |.ok y X=>match cI X 8 y with
    |some z=>Out.ok z
    |none=>.wall
   |.exc c fs _=>if BS fs=true then .exc c fs else .wall
   |.wall=>.wall)=_
  rw[S];dsimp only;rw[HW]
 have L:vOf WO [rwP (Rb F (Xg T))]=.ok (.l (A.map kP)):=by
  show(match WO [.v (rwP (Rb F (Xg T)))] []with
   |.ok y X=>match cI X 8 y with
    |some z=>Out.ok z
    |none=>.wall
   |.exc c fs _=>if BS fs=true then .exc c fs else .wall
   |.wall=>.wall)=_
  rw[ha];dsimp only;rw[Fy (n:=6) Q]
 refine zO (zd ⟨_,z8 (zx (zB (zx (zB rfl (zB rfl rfl)) (Nr p j D)) rfl) ((DA j (λt i=>(p t i).1) D).trans (a0D Out.ok HP))),zd ⟨_,z8 (zx (zB rfl rfl) M),zd ⟨_,z8 (zx (zB rfl rfl) L),zd ⟨_,(yn (x:=false) (XQ (x:=false) (y:=false) (pX (x:=true) (yj (zx (zB rfl (zB rfl rfl)) (tN s E)))) (pX (x:=true) (yj (zx (zB rfl (zB rfl rfl)) (Bm s q.nd q.sub q.ap)))))).trans rfl,zd ⟨_,(yn (x:=false) (yj (zw (zx (xs:=[.l (A.map kP)]) rfl wm) (zx (xs:=[csP cs]) rfl wm) ?_))).trans rfl,Q7 (zx (xs:=[csP cs]) rfl wm)⟩⟩⟩⟩⟩);rw[J,xw];simp
end
def Bp(h:Wid R n)(k:Wid R m):n=m:=by obtain⟨⟨A,a,rfl⟩,d⟩:=h;obtain⟨⟨B,b,rfl⟩,c⟩:=k;exact a27 (c A a) (d B b)
def DQ(f:(U.map (·.1)).Nodup)(h:Wid (Rb F U) n)(k:Wid (Rb F U.dropLast) m):m<=n/\n<=m+1/\(U=[]->n=m):=by
 rcases a16 U with rfl|⟨V,w,e⟩
 .have:=Bp h k;omega
 rw[a17]at e;subst e;rw[a3z]at k;have s:(V.map (·.1)).Nodup:=by rw[a0n]at f;exact(a0r.mp f).1
 obtain⟨⟨A,a,L⟩,E⟩:=h;obtain⟨⟨B,b,J⟩,H⟩:=k;refine⟨?_,?_,λz=>by simp at z⟩
 .refine J▸E B ⟨b.nd,λx g=>?_,λp hp q i m=>?_⟩
  .obtain⟨t,d,e⟩:=KH.mp (b.sub x g);exact KH.mpr ⟨t,T8 _ d,e⟩
  .obtain⟨t,d,e⟩:=KH.mp (b.sub p hp);obtain⟨u,r,v⟩:=KH.mp (b.sub q i);obtain⟨N,j,M,o,y,G,l⟩:=(WY f).mp m;have D:=rn f (T8 _ d) j (a0W (e.symm.trans y));have C:=rn f (T8 _ r) o (a0W (v.symm.trans G));subst D;subst C;exact b.ap p hp q i ((WY s).mpr ⟨t,d,u,r,e,v,l⟩)
 .have hf:=H (A.filter λx=>x≠sk w.1) ⟨a.nd.filter _,λx g=>?_,λp hp q i m=>?_⟩
  .have:A.length<=(A.filter λx=>x≠sk w.1).length+1:=by
    have:=Z2 (a:=A) (b:=sk w.1::A.filter λx=>x≠sk w.1) a.nd λx g=>by
     by_cases c:x=sk w.1
     .rw[c];exact u8
     .exact S0 _ (a0B.mpr ⟨g,by simpa using c⟩)
    exact this
   omega
  .obtain⟨I,K⟩:=a0B.mp g;obtain⟨t,d,e⟩:=KH.mp (a.sub x I);rcases a0j.mp d with d|d
   .exact KH.mpr ⟨t,d,e⟩
   .rw[T2.mp d]at e;simp[e]at K
  .exact a.ap p (a0B.mp hp).1 q (a0B.mp i).1 (Bl s f (λt h=>T8 _ h) _ _ m)
def DR{a b:Type}{f:a->b}{xs:List a}:vU (xs.map f) lo hi st=(vU xs lo hi st).map f:=by
 unfold vU;rw[f8,List.map_filterMap];congr 1
 funext i
 rw[a0e]
def DS:∀n:Fin 61,(sliceRange (sliceBounds none none (some 2) n.val).1 (sliceBounds none none (some 2) n.val).2.1 (sliceBounds none none (some 2) n.val).2.2).length<=30/\(sliceRange (sliceBounds (some 1) none (some 2) n.val).1 (sliceBounds (some 1) none (some 2) n.val).2.1 (sliceBounds (some 1) none (some 2) n.val).2.2).length<=30:=by decide +kernel
def DT{a:Type}{xs:List a}(h:xs.length<=60):(vU xs none none (some 2)).length<=30/\(vU xs (some 1) none (some 2)).length<=30:=by have:=DS ⟨xs.length,by omega⟩;exact⟨T9 (a20 ..) this.1,T9 (a20 ..) this.2⟩
def Fz(e:m ρ=.ok (.l (C.map .i)))(c:lo ρ=.ok l)(b:hi ρ=.ok h)(a:st ρ=.ok (some 2))(d:(vU C l h (some 2)).length<=30):MZ m lo hi st ρ=.ok (.l ((vU C l h (some 2)).map .i)):=by unfold MZ;rw[e,okb,c,okb,b,okb,a,okb];show(if _/\_ then Out.ok (PV.l (vU (C.map PV.i) l h (some 2)))else _)=_;rw[DR,if_pos ⟨by simp,by rw[List.length_map];exact T9 d (by decide)⟩]
def P6{ns:Th}:(tZ ns (some 4) (some 64)).length<=60:=by
 unfold tZ;rw[a1Z];have b:HT.sIx ns.length 0 (some 4)=min 4 ns.length:=by show(if(4:Int)<0 then((4:Int)+ns.length).toNat else min (4:Int).toNat ns.length)=_;rfl
 have a:HT.sIx ns.length ns.length (some 64)=min 64 ns.length:=by show(if(64:Int)<0 then((64:Int)+ns.length).toNat else min (64:Int).toNat ns.length)=_;rfl
 omega
def d5:∃m:Int,1<=m/\m<=40000000/\qb [.i c]=.ok (.i m):=by
 have a:yo 1 (zj zC (zc (zb 0) (zc (mC (.i 23)) zq))) [some (.i c),none]=.ok (.nx [some (.i c),some (.i (mix c 23))]):=z8 (zx (xs:=[.i c,.i 23]) rfl (YU (by decide) (by decide)));generalize mix c 23=s at a;by_cases b:s % 3=0
 .exact⟨1+s / 3 % 60,by omega,by omega,zO (zd ⟨_,a,m5 ((yn (i6 (bV rfl (by decide)))).trans (by rw[a0d b];exact Q7 (zw rfl (gf rfl (by decide) (by decide) (by decide)) rfl)))⟩)⟩
 by_cases d:s % 3=1
 .exact⟨1+s / 3 % 40000000,by omega,by omega,zO (zd ⟨_,a,zd ⟨_,(yn (i6 (bV rfl (by decide)))).trans (by rw[T5 b];rfl),m5 ((yn (i6 (bV rfl (by decide)))).trans (by rw[a0d d];exact Q7 (zw rfl (gf rfl (by decide) (by decide) (by decide)) rfl)))⟩⟩)⟩
 obtain⟨m,f,e⟩:=pY (xs:=[1,2,40000000]) (i:=s / 3 % 3) (by omega) (by show s / 3 % 3<3;omega);refine⟨m,?_,?_,zO (zd ⟨_,a,zd ⟨_,(yn (i6 (bV rfl (by decide)))).trans (by rw[T5 b];rfl),zd ⟨_,(yn (i6 (bV rfl (by decide)))).trans (by rw[T5 d];rfl),Q7 (zw (Dm rfl (by decide)) (gf rfl (by decide) (by decide) (by decide)) e)⟩⟩⟩)⟩
 all_goals
  simp only[List.mem_cons,List.not_mem_nil,or_false]at f;omega
def Bq(h:ρ[i]?=some (some (.l xs)))(a:m ρ=.ok y)(b:xs.length<100000):CB i m ρ=.ok (.nx (ρ.set i (some (.l (xs++[y]))))):=by unfold CB;rw[h];dsimp only;rw[a,okb,if_pos (Nat.lt_of_lt_of_le b (by decide))]
section
variable {N:SA}{W:List Wy}{ns:Th}
def Br:∃w:Nat->Str,(∀k:Nat,k<100->jG [.i c,.i (k:Int)]=.ok (.s (w k))/\Nm (w k))/\∀j k:Nat,j<100->k<100->w j=w k->j=k:=by
 obtain⟨p,m,t,r,b,⟨q,g,d,n⟩,f,l,e⟩:=HJ (c:=c);refine⟨λk=>wordAt p m t r k,λk i=>⟨e k (by omega) (by omega),?_,?_⟩,λj k o i h=>by
  have:=tK (j:=j) (k:=k) b f l (by omega) (by omega) (by omega) (by omega) h;omega⟩
 .have a:(sgn ((r+(k:Int)) / 36)++sgn ((r+(k:Int)) % 36)).length=2:=by rw[a0F];rfl
  have s:(Txt.mul t ((k:Int) % 2)).length<=1:=b▸AO (by omega) (by omega);unfold wordAt;rw[a0F,a0F,a0F,a];omega
 .refine Sgs.app (Sgs.app (Sgs.app g (Sgs.app (Sgs.sgn (by omega) (by omega)) (Sgs.sgn (by omega) (by omega)))) d) ?_;rcases PN (z:=t) (k:=(k:Int) % 2) (by omega)with h|h<;>rw[h]
  .exact λ_ h=>by cases h
  .exact n
def FA:WS N []:=λ_ h=>by cases h
def DV(r:0<N.length)(A:N.length<=6):∃(W:List Wy)(h f:Te),WS N W/\W.length<=6/\Qm wZ w4 (mY 0 N.length) [some (.sc ns),x1,some (.l (N.map .s)),x3,some (.l []),x5,x6,x7,x8]=.ok (.nx [some (.sc ns),x1,some (.l (N.map .s)),x3,some (.l (W.map wP)),h,f,x7,x8]):=by
 obtain⟨u,⟨W,h,f,l,q,d⟩,e⟩:=V4 (g:=wZ) (b:=w4) (λj n=>∃(W:List Wy)(h f:Te),WS N W/\W.length<=j/\n=[some (.sc ns),x1,some (.l (N.map .s)),x3,some (.l (W.map wP)),h,f,x7,x8]) N.length _ ⟨[],x5,x6,FA,S5 _,rfl⟩ (λj z n ⟨W,h,f,l,q,d⟩=>by
  subst d;obtain⟨m,v,o,em⟩:=d5 (c:=mix (cell ns 2) (50+(j:Int)));obtain⟨a,w,p⟩:=oM (xs:=N) (i:=(j:Int)) (by omega) (by omega);obtain⟨b,t,x⟩:=bX (N:=N) (s:=(j:Int)+1) r;refine⟨_,rfl,_,⟨W++[(a,b,m)],some (.i (j:Int)),some (.i m),l.app w t v o,by rw[S4];show W.length+1<=_;omega,rfl⟩,.inl (zd ⟨_,z8 (zx (xs:=[.i (mix (cell ns 2) (50+(j:Int)))]) (zB (zx (xs:=[.i (cell ns 2),.i (50+(j:Int))]) (zB (zx (xs:=[.sc ns,.i 2]) rfl (bY (by decide) (by decide))) (zB (zw rfl rfl rfl) rfl)) (YU (by omega) (by omega))) rfl) em),(Bq (xs:=W.map wP) (y:=wP (a,b,m)) rfl (tw (zB (zw rfl rfl p) (zB (zw rfl (zw (zw rfl rfl rfl) (zx (xs:=[.l (N.map .s)]) rfl wm) (X6 (by omega))) x) (zB rfl rfl))) (a0C rfl)) (by rw[f8];omega)).trans (by rw[a0n];rfl)⟩)⟩)
 exact⟨W,h,f,l,by omega,d▸e⟩
theorem rK(h0:0<N.length){x1 x3:Te}:∀{C:Th}{W:List Wy}{x5 x6 x7 x8:Te},WS N W->W.length+C.length<=60->∃(W':List Wy)(y7 y8:Te),WS N W'/\W'.length<=W.length+C.length/\Qm Ud Ue (C.map .i) [some (.sc ns),x1,some (.l (N.map .s)),x3,some (.l (W.map wP)),x5,x6,x7,x8]=.ok (.nx [some (.sc ns),x1,some (.l (N.map .s)),x3,some (.l (W'.map wP)),x5,x6,y7,y8])
 |[],W,x5,x6,x7,x8,hW,_=>⟨W,x7,x8,hW,S5 _,rfl⟩
 |c::C,W,x5,x6,x7,x8,hW,hl=>by rw[v4]at hl;obtain⟨m,m1,m2,em⟩:=d5 (c:=c);obtain⟨a,ha,ea⟩:=bX (N:=N) (s:=mix c 21) h0;obtain⟨b,hb,eb⟩:=bX (N:=N) (s:=mix c 22) h0;obtain⟨W',y7,y8,h1,h2,e⟩:=rK h0 (x1:=x1) (x3:=x3) (C:=C) (W:=W++[(a,b,m)]) (x5:=x5) (x6:=x6) (x7:=some (.i c)) (x8:=some (.s a)) (hW.app ha hb m1 m2) (by rw[S4];show W.length+1+_<=_;omega);rw[S4]at h2;refine⟨W',y7,y8,h1,by rw[v4];simp at h2;omega,?_⟩;rw[T6];refine(Q9 (ρ1:=[some (.sc ns),x1,some (.l (N.map .s)),x3,some (.l (W.map wP)),x5,x6,some (.i c),x8]) rfl (zd ⟨_,z8 (zw rfl (zw (zx (xs:=[.i c,.i 21]) rfl (YU (by decide) (by decide))) (zx (xs:=[.l (N.map .s)]) rfl wm) (X6 (by omega))) ea),Bq (xs:=W.map wP) (y:=wP (a,b,m)) rfl (tw (zB rfl (zB (zw rfl (zw (zx (xs:=[.i c,.i 22]) rfl (YU (by decide) (by decide))) (zx (xs:=[.l (N.map .s)]) rfl wm) (X6 (by omega))) eb) (zB (zx (xs:=[.i c]) rfl em) rfl))) (a0C rfl)) (by rw[f8];omega)⟩)).trans ?_;rw[a0n]at e;exact e
def DW(h0:0<N.length)(h6:N.length<=6){C:Th}(hC:C.length<=30):∃W:List Wy,WS N W/\W.length<=36/\vL [.sc ns,.l (C.map .i),.l (N.map .s)]=.ok (.l (W.map wP)):=by
 have e1:yo 3 (zj zC (zc (zj yr (zc (zb 0) (zc (mC (.i 0)) zq))) (zc (mC (.i 42)) zq))) [some (.sc ns),some (.l (C.map .i)),some (.l (N.map .s)),none,none,none,none,none,none]=.ok (.nx [some (.sc ns),some (.l (C.map .i)),some (.l (N.map .s)),some (.i (mix (cell ns 0) 42)),none,none,none,none,none]):=z8 (zx (xs:=[.i (cell ns 0),.i 42]) (zB (zx (xs:=[.sc ns,.i 0]) rfl (bY (by decide) (by decide))) rfl) (YU (by decide) (by decide)));have e2:∃(W:List Wy)(y5 y6:Te),WS N W/\W.length<=6/\sIf (z9 (mOp pGt (mOp qf (zb 3) (mC (.i 4))) (mC (.i 0)))) (wK (VU (zc (zj Qh (zc (zb 2) zq)) zq)) wZ w4) yk [some (.sc ns),some (.l (C.map .i)),some (.l (N.map .s)),some (.i (mix (cell ns 0) 42)),some (.l []),none,none,none,none]=.ok (.nx [some (.sc ns),some (.l (C.map .i)),some (.l (N.map .s)),some (.i (mix (cell ns 0) 42)),some (.l (W.map wP)),y5,y6,none,none]):=by
  by_cases c:mix (cell ns 0) 42 % 4>0
  .obtain⟨W,y5,y6,h1,h2,e⟩:=DV (ns:=ns) h0 h6 (x1:=some (.l (C.map .i))) (x3:=some (.i (mix (cell ns 0) 42))) (x5:=none) (x6:=none) (x7:=none) (x8:=none);exact⟨W,y5,y6,h1,h2,(yn (Ul (bV rfl (by decide)))).trans (by rw[a0d c];exact qX (a_ (n:=(N.length:Int)) (zB (zx (xs:=[.l (N.map .s)]) rfl wm) rfl) (by omega) (by omega)) (by rw[a07];exact e))⟩
  .exact⟨[],none,none,FA,a0y _,(yn (Ul (bV rfl (by decide)))).trans (by rw[T5 c];rfl)⟩
 obtain⟨W,y5,y6,h1,h2,e2⟩:=e2;obtain⟨W',y7,y8,h3,h4,e3⟩:=rK (ns:=ns) h0 (x1:=some (.l (C.map .i))) (x3:=some (.i (mix (cell ns 0) 42))) (C:=C) (W:=W) (x5:=y5) (x6:=y6) (x7:=none) (x8:=none) h1 (by omega);exact⟨W',h3,by omega,zO (zd ⟨_,e1,zd ⟨_,rfl,zd ⟨_,e2,zd ⟨_,qX (yx rfl) e3,rfl⟩⟩⟩⟩)⟩
end
section
variable {N:SA}{W:List Wy}{F:Str->Ht}{P:List Tp}{nm:Str}{c:Int}
abbrev tS(nm:Str)(c:Int)(N:SA)(F:Str->Ht)(P:List Tp)(r:Sto):Sto:=[some (.s nm),some (.i c),some (.l (N.map .s)),some (.d (ZG N F)),some (.l (P.map tP))]++r
def FC(d:a ρ=.ok (.s z))(e:b ρ=.ok (.d (hD h))):z9 (mOp (pIn n) a b) ρ=.ok (xor n (zm h (sk z)).isSome):=by refine yj (zw d e ?_);show Out.ok (PV.b (xor n (zm (hD h) (sk z)).isSome))=_;rw[dU,a1q]
def FD(e:a ρ=.ok (.d (hD h)))(f:b ρ=.ok (.s z))(d:zm h (sk z)=some x):mOp pIx a b ρ=.ok (.i x):=by refine zw e f ?_;show k7 (zm (hD h) (sk z))=_;rw[dU,d];rfl
def HY:pIx (.l ((P++[a]).map tP)) (.i (-1))=.ok (tP a):=by show k7 (atI ((P++[a]).map tP) (-1))=_;unfold atI ixN;rw[if_neg (by decide),if_pos (by grind),f8,S4];show k7 (((P++[a]).map tP)[((-1:Int)+((P.length+1:Nat):Int)).toNat]?)=_;rw[show((-1:Int)+((P.length+1:Nat):Int)).toNat=P.length by omega,a0n,a0h (by simp),f8,a0M];rfl
abbrev i7:MS:=sIf (z9 (mOp (pIn true) (zb 7) (mOp pIx (zb 3) (zb 6)))) (yo 7 (zb 6)) yk
def HZ(i:∀z,Qf z W (F z))(f:o∈N)(h:g∈N):∃(d:Str)(y:Int),d∈N/\zm (F o) (sk d)=some y/\i7 (tS nm c N F P [s,some (.s o),some (.s g),r1,r2,r3])=.ok (.nx (tS nm c N F P [s,some (.s o),some (.s d),r1,r2,r3])):=by
 have t:=FC (ρ:=tS nm c N F P [s,some (.s o),some (.s g),r1,r2,r3]) (n:=true) (a:=zb 7) (z:=g) rfl (Oh (a:=zb 3) (b:=zb 6) (N:=N) (F:=F) rfl rfl f);cases e:zm (F o) (sk g)with
 |some y=>rw[e]at t;exact⟨g,y,h,e,(yn t).trans rfl⟩
 |none=>rw[e]at t;exact⟨o,0,f,(i o).1.own,(yn t).trans rfl⟩
abbrev i9:MS:=sIf (o9 (z9 (mOp (cG true) (zb 4) (mr zq))) (o9 (z9 (mOp pGt (mOp qf (mOp Yb (zb 5) (mC (.i 2))) (mC (.i 3))) (mC (.i 0)))) (z9 (mOp (pIn false) (zb 6) (mOp pIx (zb 3) (mOp pIx (mOp pIx (zb 4) (mUn mq (mC (.i 1)))) (mC (.i 2)))))))) (zD (yo 9 (mOp Cp (mOp qZ (mOp pIx (mOp pIx (zb 4) (mUn mq (mC (.i 1)))) (mC (.i 4))) (mOp pIx (mOp pIx (zb 3) (mOp pIx (mOp pIx (zb 4) (mUn mq (mC (.i 1)))) (mC (.i 2)))) (zb 6))) (mOp qf (mOp Yb (zb 5) (mC (.i 16))) (mC (.i 2)))))
  (sIf (z9 (mOp pLe (zb 9) (mC (.i 300000000)))) (yo 8 (zb 9)) yk)) yk
def H_(C:∀z,Qf z W (F z))(hP:∀t∈P,TOk N F t)(m:0<=st)(q:st<=300000000):∃(f:Int)(D:Te),0<=f/\f<=300000000/\i9 (tS nm c N F P [some (.i s),some (.s o),some (.s g),some (.i st),none,none])=.ok (.nx (tS nm c N F P [some (.i s),some (.s o),some (.s g),some (.i f),D,none])):=by
 rcases a16 P with rfl|⟨Q,a,e⟩
 .exact⟨st,none,m,q,(yn (x:=false) (nQ rfl)).trans rfl⟩
 rw[a17]at e;subst e;have u:=hP a (T4 _ u8);have p:z9 (mOp (cG true) (zb 4) (mr zq)) (tS nm c N F (Q++[a]) [some (.i s),some (.s o),some (.s g),some (.i st),none,none])=.ok true:=by cases Q<;>rfl
 have v:mOp pIx (zb 4) (mUn mq (mC (.i 1))) (tS nm c N F (Q++[a]) [some (.i s),some (.s o),some (.s g),some (.i st),none,none])=.ok (tP a):=zw rfl rfl HY;have A:=Oh (a:=zb 3) (b:=mOp pIx (mOp pIx (zb 4) (mUn mq (mC (.i 1)))) (mC (.i 2))) (N:=N) (F:=F) (o:=a.2.2.1) (ρ:=tS nm c N F (Q++[a]) [some (.i s),some (.s o),some (.s g),some (.i st),none,none]) rfl (zw v rfl rfl) u.goal;have h:=Ul (n:=0) (gf (ρ:=tS nm c N F (Q++[a]) [some (.i s),some (.s o),some (.s g),some (.i st),none,none]) (i:=5) (x:=s) (d:=2) (n:=3) rfl (by decide) (by decide) (by decide));have j:=FC (n:=false) (a:=zb 6) (z:=o) rfl A;by_cases w:s / 2 % 3>0
 .rw[a0d w]at h;cases e:zm (F a.2.2.1) (sk o)with
  |none=>rw[e]at j;exact⟨st,none,m,q,(yn (Um p (Um h j))).trans rfl⟩
  |some y=>
   rw[e]at j;have E:=(C _).1.pos _ _ e;have G:=u.st;have H:=u.fw;have B:yo 9 (mOp Cp (mOp qZ (mOp pIx (mOp pIx (zb 4) (mUn mq (mC (.i 1)))) (mC (.i 4))) (mOp pIx (mOp pIx (zb 3) (mOp pIx (mOp pIx (zb 4) (mUn mq (mC (.i 1)))) (mC (.i 2)))) (zb 6))) (mOp qf (mOp Yb (zb 5) (mC (.i 16))) (mC (.i 2)))) (tS nm c N F (Q++[a]) [some (.i s),some (.s o),some (.s g),some (.i st),none,none])=.ok (.nx (tS nm c N F (Q++[a]) [some (.i s),some (.s o),some (.s g),some (.i st),some (.i (a.2.2.2.2.1+y-s / 16 % 2)),none])):=z8 (zw (zw (zw v rfl rfl) (FD A rfl e) rfl) (gf rfl (by decide) (by decide) (by decide)) rfl);have l:z9 (mOp pLe (zb 9) (mC (.i 300000000))) (tS nm c N F (Q++[a]) [some (.i s),some (.s o),some (.s g),some (.i st),some (.i (a.2.2.2.2.1+y-s / 16 % 2)),none])=.ok (decide (a.2.2.2.2.1+y-s / 16 % 2<=300000000)):=yj (zw rfl rfl rfl);by_cases r:a.2.2.2.2.1+y-s / 16 % 2<=300000000
   .rw[a0d r]at l;exact⟨_,_,by omega,r,(yn (Um p (Um h j))).trans (zd ⟨_,B,(yn l).trans rfl⟩)⟩
   .rw[T5 r]at l;exact⟨st,_,m,q,(yn (Um p (Um h j))).trans (zd ⟨_,B,(yn l).trans rfl⟩)⟩
 .rw[T5 w]at h;exact⟨st,none,m,q,(yn (Um p (nQ h))).trans rfl⟩
def Ia(v:WS N W)(j:∀z,Qf z W (F z))(r:0<N.length)(O:N.length<=6)(hP:∀t∈P,TOk N F t):∃t:Tp,t.1=nm/\TOk N F t/\vJ [.s nm,.i c,.l (N.map .s),.d (ZG N F),.l (P.map tP)]=.ok (tP t):=by
 obtain⟨o,d,x⟩:=bX (N:=N) (s:=mix c 72) r;obtain⟨K,h,B⟩:=bX (N:=N) (s:=mix c 73) r;have q:yo 5 (zj zC (zc (zb 1) (zc (mC (.i 71)) zq))) (tS nm c N F P [none,none,none,none,none,none])=.ok (.nx (tS nm c N F P [some (.i (mix c 71)),none,none,none,none,none])):=z8 (zx (xs:=[.i c,.i 71]) rfl (YU (by decide) (by decide)));generalize mix c 71=s at q;obtain⟨g,y,w,m,A⟩:=HZ (nm:=nm) (c:=c) (P:=P) (s:=some (.i s)) (r1:=none) (r2:=none) (r3:=none) j d h;obtain⟨n,f,l⟩:=pY (xs:=[s / 8 % 1440,s / 8 % 100000000]) (i:=s % 2) (by omega) (by show s % 2<2;omega);simp only[List.mem_cons,List.not_mem_nil,or_false]at f;obtain⟨a,M,D,L,u⟩:=H_ (nm:=nm) (c:=c) (P:=P) (o:=o) (g:=g) (s:=s) (st:=n) j hP (by omega) (by omega);obtain⟨b,e,p⟩:=pY (xs:=[0,s / 32 % 60]) (i:=s / 64 % 2) (by omega) (by show s / 64 % 2<2;omega);simp only[List.mem_cons,List.not_mem_nil,or_false]at e;obtain⟨E,I⟩:=tD v (j o) d m;have H:y<=200000000:=by omega
 have J:max (y+b) 1<=200000060/\1<=max (y+b) 1/\y<=max (y+b) 1:=by omega
 have C:=a1i (mix c 74) (show(60:Int)≠0 by decide);have G:=a1f (mix c 74) (show(0:Int)<60 by decide);refine⟨(nm,o,g,a,a+max (y+b) 1,mix c 74 % 60),rfl,⟨d,w,⟨y,m,by show y<=a+max (y+b) 1-a;omega⟩,D,by show a<a+max (y+b) 1;omega,by show a+max (y+b) 1<=_;omega,C,by show mix c 74 % 60<=_;omega⟩,?_⟩;exact zO (zd ⟨_,q,zd ⟨_,z8 (zw rfl (zw (zx (xs:=[.i c,.i 72]) rfl (YU (by decide) (by decide))) (zx (xs:=[.l (N.map .s)]) rfl wm) (X6 (by omega))) x),zd ⟨_,z8 (zw rfl (zw (zx (xs:=[.i c,.i 73]) rfl (YU (by decide) (by decide))) (zx (xs:=[.l (N.map .s)]) rfl wm) (X6 (by omega))) B),zd ⟨_,A,zd ⟨_,z8 (zw (Dm (zB (gf rfl (by decide) (by decide) (by decide)) (zB (gf rfl (by decide) (by decide) (by decide)) rfl)) (a0C rfl)) (bV rfl (by decide)) l),zd ⟨_,u,zd ⟨_,z8 (zw (FD (Oh rfl rfl d) rfl m) (zw (Dm (zB rfl (zB (gf rfl (by decide) (by decide) (by decide)) rfl)) (a0C rfl)) (gf rfl (by decide) (by decide) (by decide)) p) rfl),Q7 (tw (zB rfl (zB rfl (zB rfl (zB rfl (zB (zw rfl (zx (xs:=[.i (y+b),.i 1]) rfl xx) rfl) (zB (bV (zx (xs:=[.i c,.i 74]) rfl (YU (by decide) (by decide))) (by decide)) rfl)))))) (a0C rfl))⟩⟩⟩⟩⟩⟩⟩)
end
section
variable {N:SA}{W:List Wy}{F:Str->Ht}{P T:List Tp}{nm:Str}{c:Int}{ns:Th}
def XU:(∀z:Str,g_ n (.s z) (.s z)=some true)/\∀i:Int,g_ n (.i i) (.i i)=some true:=by
 constructor
 .intro z;rw[Mf,a0d rfl]
 .intro i;cases n<;>(show some (i==i)=_;rw[a1w])
theorem b9{f:TL}:∀{a:SX},(∀x∈a,f x x=some true)->Cq f a a=some true
 |[],_=>rfl
 |x::a,h=>by show NY (f x x) (Cq f a a)=_;rw[h x u8,b9 λy b=>h y (S0 _ b)];rfl
def Ib:g_ (n+1) (tP t) (tP t)=some true:=by
 show Cq (g_ n) [.s t.1,.s t.2.1,.s t.2.2.1,.i t.2.2.2.1,.i t.2.2.2.2.1,.i t.2.2.2.2.2] [.s t.1,.s t.2.1,.s t.2.2.1,.i t.2.2.2.1,.i t.2.2.2.2.1,.i t.2.2.2.2.2]=_;refine b9 λx a=>?_;simp only[List.mem_cons,List.not_mem_nil,or_false]at a;rcases a with rfl|rfl|rfl|rfl|rfl|rfl
 .exact XU.1 _
 .exact XU.1 _
 .exact XU.1 _
 .exact XU.2 _
 .exact XU.2 _
 .exact XU.2 _
def Ss:cG n (.l (T.map tP)) (.l (T.map tP))=.ok (.b (xor n true)):=by unfold cG;rw[show LF 8 (.l (T.map tP)) (.l (T.map tP))=some true from b9 (f:=g_ 7) λx a=>by obtain⟨t,_,rfl⟩:=a0i.mp a;exact Ib]
def DX(s:WS N W)(G:∀z,Qf z W (F z))(x:0<N.length)(J:N.length<=6){C:Th}(L:C.length<=30):∃T:List Tp,(T.map (·.1)).Nodup/\T.length=C.length/\(∀t∈T,TOk N F t/\Nm t.1)/\kj [.sc ns,.l (C.map .i),.l (N.map .s),.d (ZG N F)]=.ok (.l (T.map tP)):=by
 obtain⟨w,r,H⟩:=Br (c:=cell ns 3);obtain⟨E,⟨T,o,m,d,f,a⟩,e⟩:=V4 (g:=WC) (b:=WD) (λj q=>∃(P:List Tp)(o m:Te),P.map (·.1)=(List.range j).map w/\(∀t∈P,TOk N F t)/\q=[some (.sc ns),some (.l (C.map .i)),some (.l (N.map .s)),some (.d (ZG N F)),some (.l (P.map tP)),o,m]) C.length [some (.sc ns),some (.l (C.map .i)),some (.l (N.map .s)),some (.d (ZG N F)),some (.l []),none,none] ⟨[],none,none,rfl,(λt l=>by cases l),rfl⟩ (λj v q ⟨P,o,m,d,f,a⟩=>by
  subst a;obtain⟨c,_,ec⟩:=pY (xs:=C) (i:=(j:Int)) (by omega) (by omega);obtain⟨t,B,D,I⟩:=Ia (nm:=w j) (c:=c) (P:=P) s G x J f;have K:P.length=j:=by have:=a0D List.length d;rw[f8,f8,a0x]at this;exact this
  refine⟨_,rfl,_,⟨P++[t],some (.i (j:Int)),some (.s (w j)),?_,?_,rfl⟩,.inl (zd ⟨_,z8 (zx (xs:=[.i (cell ns 3),.i (j:Int)]) (zB (zx (xs:=[.sc ns,.i 3]) rfl (bY (by decide) (by decide))) rfl) (r j (by omega)).1),(Bq (xs:=P.map tP) (y:=tP t) rfl (zx (xs:=[.s (w j),.i c,.l (N.map .s),.d (ZG N F),.l (P.map tP)]) (zB rfl (zB (zw rfl rfl ec) rfl)) I) (by rw[f8];omega)).trans (by rw[a0n];rfl)⟩)⟩
  .rw[a0n,d,List.range_succ,a0n];show _++[t.1]=_++[w j];rw[B]
  .exact λu A=>(a0j.mp A).elim (f u) λh=>by rw[T2.mp h];exact D)
 subst a;refine⟨T,?_,?_,λt l=>⟨f t l,?_⟩,zO (zd ⟨_,rfl,zd ⟨_,qX (a_ (n:=(C.length:Int)) (zB (zx (xs:=[.l (C.map .i)]) rfl wm) rfl) (by omega) (by omega)) (by rw[a07];exact e),rfl⟩⟩)⟩
 .rw[d];exact nodup_range λj k v p h=>H j k (by omega) (by omega) h
 .have:=a0D List.length d;rw[f8,f8,a0x]at this;exact this
 .have:t.1∈T.map (·.1):=a0i.mpr ⟨t,l,rfl⟩;rw[d]at this;obtain⟨k,p,e⟩:=a0i.mp this;rw[<- e];exact(r k (by have:=a06.mp p;omega)).2
def DY(i:n<=6):∃N:List Str,N.length=n/\N.Nodup/\(∀z∈N,Nm z)/\mLC (VU (zc (zb 1) zq)) [none,some 0] pT pV pW [some (.sc ns),some (.i (n:Int)),x2,x3,x4,x5,x6,x7,x8,x9,x10]=.ok (.l (N.map .s)):=by
 obtain⟨w,d,f⟩:=Br (c:=cell ns 1);refine⟨(List.range n).map w,by rw[f8,a0x],nodup_range λj k g a h=>f j k (by omega) (by omega) h,λz hz=>?_,?_⟩
 .obtain⟨k,a,rfl⟩:=a0i.mp hz;exact(d k (by have:=a06.mp a;omega)).2
 .rw[a0a];refine UR (a_ (n:=(n:Int)) rfl (by omega) (by omega)) ?_;rw[a07];refine Xl (λk:Nat=>PV.i (0+(k:Int))) (λk=>PV.s (w k)) (λb=>∃o,b=[o,some (.sc ns)]) (List.range n) _ ⟨none,rfl⟩ (λk a b ⟨o,e⟩=>?_) (by rw[a0x];omega);subst e;refine⟨_,rfl,⟨_,rfl⟩,zx (xs:=[.i (cell ns 1),.i (0+(k:Int))]) (zB (zx (xs:=[.sc ns,.i 1]) rfl (bY (by decide) (by decide))) rfl) ?_⟩;rw[Int.zero_add];exact(d k (by have:=a06.mp a;omega)).1
def DZ:tZ (T.map tP) none (some (-1))=(T.dropLast).map tP:=by
 have e:HT.sIx (T.map tP).length (T.map tP).length (some (-1))=(T.map tP).length-1:=by show(if(-1:Int)<0 then((-1:Int)+((T.map tP).length:Nat)).toNat else min (-1:Int).toNat (T.map tP).length)=_;rw[if_pos (by decide)];omega
 unfold tZ;rw[e,List.map_dropLast,List.dropLast_eq_take];show((T.map tP).drop 0).take ((T.map tP).length-1-0)=_;rw[List.drop_zero,Nat.sub_zero]
def D0(ns:Th)(_:ns.length<=k):Am [.sc ns]=.ok (.b true):=by
 have m1:=a1i (mix (cell ns 0) 43) (show(6:Int)≠0 by decide);have U:=a1f (mix (cell ns 0) 43) (show(0:Int)<6 by decide);obtain⟨n,Q⟩:∃n:Nat,(n:Int)=1+mix (cell ns 0) 43 % 6:=⟨(1+mix (cell ns 0) 43 % 6).toNat,a2l (by omega)⟩;have K:yo 1 (mOp qZ (mC (.i 1)) (mOp qf (zj zC (zc (zj yr (zc (zb 0) (zc (mC (.i 0)) zq))) (zc (mC (.i 43)) zq))) (mC (.i 6)))) [some (.sc ns),none,none,none,none,none,none,none,none,none,none]=.ok (.nx [some (.sc ns),some (.i (n:Int)),none,none,none,none,none,none,none,none,none]):=by rw[Q];exact z8 (zw rfl (bV (zx (xs:=[.i (cell ns 0),.i 43]) (zB (zx (xs:=[.sc ns,.i 0]) rfl (bY (by decide) (by decide))) rfl) (YU (by decide) (by decide))) (by decide)) rfl)
 obtain⟨N,X,f,p,D⟩:=DY (ns:=ns) (n:=n) (by omega) (x2:=none) (x3:=none) (x4:=none) (x5:=none) (x6:=none) (x7:=none) (x8:=none) (x9:=none) (x10:=none);obtain⟨q,w⟩:=DT (P6 (ns:=ns));obtain⟨W,i,lW,C⟩:=DW (ns:=ns) (N:=N) (by omega) (by omega) q;have R:ROk N W:=⟨by omega,f,p,by omega,i.ok⟩;obtain⟨F,hF⟩:=lH R;have o:∀z,Qf z W (F z):=λz=>(hF z).1;obtain⟨T,b,Y,m,E⟩:=DX (ns:=ns) i o (by omega) (by omega) w;have j:∀t∈T,TOk N F t:=λt e=>(m t e).1;have s:∀t∈T.dropLast,t∈T:=λt e=>(a3o T).subset e;have g:(T.dropLast.map (·.1)).Nodup:=List.Nodup.sublist ((a3o T).map _) b;have v:T.dropLast.length<=40:=by rw[a3t];omega
 have u:=d4 (N:=N) b j (by omega);have B:=d4 (N:=N) g (λt e=>j t (s t e)) v;obtain⟨a,A,H⟩:=oh i o (a2p T) b m (by omega);obtain⟨d,J,S⟩:=oh i o (a2p T.dropLast) g (λt e=>m t (s t e)) v;obtain⟨r,wr,G⟩:=oh i o (List.reverse_perm T) b m (by omega);obtain rfl:=Bp A wr;obtain⟨Z,l2,L⟩:=DQ b A J;have I:=Hq R λz=>(hF z).2.1;refine zO (zd ⟨_,K,zd ⟨_,z8 D,zd ⟨_,z8 (AL (x:=.sc ns) (l:=some 4) (h:=some 64) rfl rfl rfl),zd ⟨_,z8 (zx (xs:=[.sc ns,.l ((vU (tZ ns (some 4) (some 64)) none none (some 2)).map .i),.l (N.map .s)]) (zB rfl (zB (Fz rfl rfl rfl rfl q) rfl)) C),zd ⟨_,z8 (zx (xs:=[.l (N.map .s),.l (W.map wP)]) rfl (tO f (by omega) λz=>(hF z).2.2)),zd ⟨_,z8 (zx (xs:=[.sc ns,.l ((vU (tZ ns (some 4) (some 64)) (some 1) none (some 2)).map .i),.l (N.map .s),.d (ZG N F)]) (zB rfl (zB (Fz rfl rfl rfl rfl w) rfl)) E),zd ⟨_,z8 (zx (xs:=[.l (N.map .s),.l (W.map wP)]) rfl I),zd ⟨_,z8 (zx (xs:=[.l (T.map tP)]) rfl rfl),zd ⟨_,z8 (zx (xs:=[roP N W F,.l (T.map tP),rwP (Rb F T)]) (zB rfl (zB rfl (zB (zx (xs:=[.l (T.map tP),.d (ZG N F)]) rfl u) rfl))) H),zd ⟨_,(yn (x:=false) (XQ (x:=false) (y:=false) ?_ (yj (zw rfl rfl Ss)))).trans rfl,zd ⟨_,z8 ((AL (x:=.l (T.map tP)) (l:=none) (h:=some (-1)) rfl rfl rfl).trans (a0D (λz=>Out.ok (PV.l z)) DZ)),zd ⟨_,z8 (zx (xs:=[roP N W F,.l (T.dropLast.map tP),rwP (Rb F T.dropLast)]) (zB rfl (zB rfl (zB (zx (xs:=[.l (T.dropLast.map tP),.d (ZG N F)]) rfl B) rfl))) S),zd ⟨_,(yn (x:=false) (XQ (x:=false) (y:=false) ?_ ?_)).trans rfl,Q7 (zw (zx (xs:=[roP N W F,.l (T.reverse.map tP),rwP (Rb F T)]) (zB rfl (zB ?_ (zB (zx (xs:=[.l (T.map tP),.d (ZG N F)]) rfl u) rfl))) G) rfl ?_)⟩⟩⟩⟩⟩⟩⟩⟩⟩⟩⟩⟩⟩)
 .exact(Ap (x:=(a:Int)) rfl).trans (by rw[T5 (by omega)])
 .exact(Ap (x:=(d:Int)) rfl).trans (by rw[T5 (by omega)])
 .refine yj (zw (x:=.i ((a:Int)-d)) (zw rfl rfl rfl) (Dm (xs:=[.i 0,.i (min 1 (T.length:Int))]) (zB rfl (zB (zx (xs:=[.i 1,.i (T.length:Int)]) (zB rfl (zB (zx (xs:=[.l (T.map tP)]) rfl wm) rfl)) rfl) rfl)) (a0C rfl)) ?_);have M:(a:Int)-d=0\/((a:Int)-d=1/\min 1 (T.length:Int)=1):=by
   by_cases c:a=d
   .left;omega
   .right;have:T.length≠0:=λz=>c (L (a2i z));omega
  rcases M with h|⟨h,O⟩
  .rw[h];rfl
  .rw[h,O];rfl
 .show Out.ok (PV.l (T.map tP).reverse)=_;rw[List.map_reverse]
 .rw[xw,a0d rfl];rfl
end
end NCS
def Bt(K:Tr):Sp:=λd H Q _=>∃(a:Addr)(b:Th),d=[.ref a]/\SqL K H a (b.map V.int)/\b.length<=63/\∀c,Q (.bl true) c
def all_mk{l:W.OpenLaw}{w:S_}{K:Tr}{h:Heap}{i:Sx}{fa u n r t q f g m d j o b c ck UD JB UL Ji UN UJ W9 I K5 U Y9 M vp Y3 vj Jx P Zq K7 Y7 x y A wz B z BC ej Z9 l4 KP Jj Y Jq N Zn Js KS wB UK K0 eA cA mj l6 F ZS J K4 Zm C Jo Jm Xa UI cj Va R:Addr}{cx UB Jz UG JA UC Uz Xc YZ K8 Y0 Y6 Vd vo Y5 Y_ Jy Zl Zp K2 Y2 KY Jt Jw Jk Vb YY BF eE Z_ lX K1 JD Xd JC wG Zo Jp K9 wH Ux KU eF cz l7 mf Z8 Vf Y8 K_ Zr KQ Jl JF W_ UA cB KZ D:Td}{lZ KO Y4 Vc K6 rP eB rO l5 eC l_ Jn Xe:Tok}(X:K.In h)(G:h.Ns mainGlobals i)(L:i "law"=some (.ref fa))
  (nB:W.nsIn K mainGlobals "LIMIT"=some (some (.int 1000000000 lZ)))
  (QD:W.nsIn K mainGlobals "NAME_SIGNS"=some (some (.str "abcdefghijklmnopqrstuvwxyz0123456789" KO)))
  (ZC:W.nsIn K mainGlobals "LONGEST_NAME"=some (some (.int 12 Y4)))
  (wR:W.nsIn K mainGlobals "MOST_LEFTS"=some (some (.int 40 Vc)))
  (QE:W.nsIn K mainGlobals "MOST_TRIPS"=some (some (.int 40 K6)))
  (X_:W.nsIn K mainGlobals "NAME"=some (some (.int 0 rP)))
  (Wk:W.nsIn K mainGlobals "ORIGIN"=some (some (.int 1 eB)))
  (iF:W.nsIn K mainGlobals "GOAL"=some (some (.int 2 rO)))
  (Vt:W.nsIn K mainGlobals "START"=some (some (.int 3 l5)))
  (Yv:W.nsIn K mainGlobals "FINISH"=some (some (.int 4 eC)))
  (nC:W.nsIn K mainGlobals "SEATS"=some (some (.int 5 l_)))
  (Yw:W.nsIn K mainGlobals "MOST_PLACES"=some (some (.int 12 Jn)))
  (Vu:W.nsIn K mainGlobals "MOST_WAYS"=some (some (.int 60 Xe)))
  (Wl:NsR K "BadName" u)
  (Vv:NsR K "BadNumber" n)
  (bE:NsR K "TooMany" r)
  (nD:NsR K "Twice" t)
  (bF:NsR K "NoPlace" q)
  (nE:NsR K "NoWay" f)
  (aw:NsR K "NoTrip" g)
  (Af:NsR K "Ring" m)
  (QF:NsR K "NotOrdered" d)
  (Xz:NsR K "Backward" j)
  (bG:NsR K "TooFast" o)
  (nF:NsR K "Table" b)
  (nG:NsR K "Roads" c)
  (Ua:NsN K "dict")
  (qy:NsN K "isinstance")
  (wL:NsN K "len")
  (vn:NsN K "list")
  (Hf:NsN K "max")
  (Hg:NsN K "min")
  (QG:NsN K "range")
  (XA:NsN K "reversed")
  (fO:NsN K "sorted")
  (De:NsN K "str")
  (yd:DfN K "_law_mix" bq ck cx)
  (jE:DfN K "_law_cell" Xq UD UB)
  (jQ:DfN K "_law_minutes" Yi JB Jz)
  (vG:DfN K "_law_ways" Xr UL UG)
  (qN:DfN K "_law_lengths" Yj Ji JA)
  (ZW:DfN K "_law_word" Xs UN UC)
  (JT:DfN K "_law_trip" Xt UJ Uz)
  (kh:DfN K "_law_trips" Vp W9 Xc)
  (tQ:XMk K r I)
  (K3:Fun K "__init__" "TooMany.__init__" Zs I YZ)
  (yW:DfN K "check_most" Qq K5 K8)
  (tR:XMk K u U)
  (Ve:Fun K "__init__" "BadName.__init__" Zt U Y0)
  (kF:DfN K "checked_name" Zu Y9 Y6)
  (D8:XMk K t M)
  (UH:Fun K "__init__" "Twice.__init__" Qr M Vd)
  (yE:DfN K "checked_new_name" jN vp vo)
  (kG:DfN K "check_places" Zv Y3 Y5)
  (tV:XMk K q vj)
  (KR:Fun K "__init__" "NoPlace.__init__" Zw vj Y_)
  (qa:DfN K "check_place" Yk Jx Jy)
  (l8:XMk K n P)
  (Y1:Fun K "__init__" "BadNumber.__init__" k8 P Zl)
  (yg:DfN K "checked_number" k9 Zq Zp)
  (wU:DfN K "check_ways" Qs K7 K2)
  (ql:DfN K "heights_from" Zx Y7 Y2)
  (lS:W.findIn K (.ref c) "__init__"=some (some (.ref x)))
  (UM:Fun K "__init__" "Roads.__init__" Qt x KY)
  (gB:W.findIn K (.ref b) "names"=some (some (.ref y)))
  (YK:Fun K "names" "Table.names" Yl y Jt)
  (gD:W.findIn K (.ref c) "names"=some (some (.ref A)))
  (Z:Fun K "names" "Roads.names" Ym A Jw)
  (BB:XMk K g wz)
  (W8:Fun K "__init__" "NoTrip.__init__" Yn wz Jk)
  (lU:W.findIn K (.ref b) "trip"=some (some (.ref B)))
  (O:Fun K "trip" "Table.trip" Qu B Vb)
  (di:W.findIn K (.ref c) "length"=some (some (.ref z)))
  (S:Fun K "length" "Roads.length" Zy z YY)
  (Dg:DfN K "gap" Hd BC BF)
  (ax:DfN K "linked" fF ej eE)
  (yR:DfN K "linked_behind" vV Z9 Z_)
  (XB:DfN K "links" nq l4 lX)
  (kR:DfN K "check_rows" Qv KP K1)
  (vt:DfN K "check_known" Yo Jj JD)
  (Ih:XMk K m Y)
  (cy:Fun K "__init__" "Ring.__init__" Vq Y Xd)
  (vv:DfN K "check_rings" Yp Jq JC)
  (gA:XMk K d N)
  (Z5:Fun K "__init__" "NotOrdered.__init__" kf N wG)
  (jj:DfN K "check_going_on" k_ Zn Zo)
  (jR:DfN K "check_order" Yq Js Jp)
  (yF:DfN K "find_right" Qw KS K9)
  (zI:DfN K "greatest_owners" kg wB wH)
  (vH:DfN K "matching" Xu UK Ux)
  (jF:DfN K "chain_from" Qx K0 KU)
  (JU:DfN K "chains" fG eA eF)
  (ZX:DfN K "reached" bt cA cz)
  (XG:DfN K "cover" nu mj l7)
  (XH:DfN K "apart" ny l6 mf)
  (om:XMk K j F)
  (Jv:Fun K "__init__" "Backward.__init__" vW F Z8)
  (D7:XMk K f ZS)
  (Uy:Fun K "__init__" "NoWay.__init__" Qy ZS Vf)
  (tU:XMk K o J)
  (KW:Fun K "__init__" "TooFast.__init__" Zz J Y8)
  (wV:DfN K "check_trip" Qz K4 K_)
  (qi:DfN K "place_in_order" vd Zm Zr)
  (l0:W.findIn K (.ref b) "__init__"=some (some (.ref C)))
  (UE:Fun K "__init__" "Table.__init__" QA C KQ)
  (vw:DfN K "_law_chained" Yr Jo Jl)
  (qO:DfN K "_law_reached" Ys Jm JF)
  (Yx:DfN K "_law_apart" Vr Xa W_)
  (vI:DfN K "_law_both" Xv UI UA)
  (Wn:DfN K "_law_can" bu cj cB)
  (zZ:DfN K "_law_behind" QB Va KZ)
  (Ag:DfN K "law" He R D)
  (oq:Qg K u)
  (U7:W.takerIn K u "name"=some none)
  (gC:Qg K n)
  (VG:W.takerIn K n "value"=some none)
  (ou:Qg K r)
  (U4:W.takerIn K r "most"=some none)
  (BH:Qg K t)
  (dj:W.takerIn K t "name"=some none)
  (oy:Qg K q)
  (U8:W.takerIn K q "name"=some none)
  (BJ:Qg K f)
  (U6:W.takerIn K f "origin"=some none)
  (dh:W.takerIn K f "goal"=some none)
  (tT:Qg K g)
  (cu:W.takerIn K g "name"=some none)
  (D6:Qg K m)
  (gz:W.takerIn K m "name"=some none)
  (df:Qg K d)
  (Kh:W.takerIn K d "first"=some none)
  (Jr:W.takerIn K d "second"=some none)
  (Kg:W.takerIn K d "third"=some none)
  (lY:Qg K j)
  (XX:W.takerIn K j "name"=some none)
  (oj:Qg K o)
  (U3:W.takerIn K o "name"=some none)
  (BA:Cls K b)
  (BK:W.makesIn K b=true)
  (BG:W.keepIn K (.ref b)=true)
  (XW:W.findIn K (.ref b) "by_name"=some none)
  (cw:W.findIn K (.ref b) "order"=some none)
  (cq:W.findIn K (.ref b) "roads"=some none)
  (cn:W.isFn K (.ref y)=true)
  (dm:W.isFn K (.ref B)=true)
  (dq:W.isFn K (.ref C)=true)
  (BI:Cls K c)
  (BD:W.makesIn K c=true)
  (BE:W.keepIn K (.ref c)=true)
  (XY:W.findIn K (.ref c) "lengths"=some none)
  (U5:W.findIn K (.ref c) "places"=some none)
  (dg:W.findIn K (.ref c) "ways"=some none)
  (U2:W.isFn K (.ref z)=true)
  (cg:W.isFn K (.ref A)=true)
  (dk:W.isFn K (.ref x)=true)
  (kT:W.kitOne K (.type "list") (.type "list")=some true)
  (JV:W.kitOne K (.type "str") (.type "str")=some true)
  : ∃fd:FuncData,(∀(s:SE)(v:Value),BindsTo s fd ⟨[v],[]⟩ [("_law_script",v)])/\∀a:Heap,K.In a->a.Ns mainGlobals i->yz l.prog w K i a (CXe l.prog w) 52 fa fd ["_law_script"] (Bt K):=by
 have e:R=fa:=by have e:=L.symm.trans (a0K X G Ag.1);injection e with e;injection e with e;exact e.symm
 subst e;have T:Txt K i ⟨u,n,r,t,q,f,g,m,d,j,o,b,c,ck,UD,JB,UL,Ji,UN,UJ,W9,I,K5,U,Y9,M,vp,Y3,vj,Jx,P,Zq,K7,Y7,x,y,A,wz,B,z,BC,ej,Z9,l4,KP,Jj,Y,Jq,N,Zn,Js,KS,wB,UK,K0,eA,cA,mj,l6,F,ZS,J,K4,Zm,C,Jo,Jm,Xa,UI,cj,Va,R,cx,UB,Jz,UG,JA,UC,Uz,Xc,YZ,K8,Y0,Y6,Vd,vo,Y5,Y_,Jy,Zl,Zp,K2,Y2,KY,Jt,Jw,Jk,Vb,YY,BF,eE,Z_,lX,K1,JD,Xd,JC,wG,Zo,Jp,K9,wH,Ux,KU,eF,cz,l7,mf,Z8,Vf,Y8,K_,Zr,KQ,Jl,JF,W_,UA,cB,KZ,D,lZ,KO,Y4,Vc,K6,rP,eB,rO,l5,eC,l_,Jn,Xe⟩:=⟨⟨a0K X G nB,a0K X G QD,a0K X G ZC,a0K X G wR,a0K X G QE,a0K X G X_,a0K X G Wk,a0K X G iF⟩,⟨a0K X G Vt,a0K X G Yv,a0K X G nC,a0K X G Yw,a0K X G Vu,a0K X G Wl,a0K X G Vv,a0K X G bE⟩,⟨a0K X G nD,a0K X G bF,a0K X G nE,a0K X G aw,a0K X G Af,a0K X G QF,a0K X G Xz,a0K X G bG⟩,⟨a0K X G nF,a0K X G nG,a1j X G Ua,a1j X G qy,a1j X G wL,a1j X G vn,a1j X G Hf,a1j X G Hg⟩,⟨a1j X G QG,a1j X G XA,a1j X G fO,a1j X G De,zT X G yd bn2,zT X G jE bn2,zT X G jQ bn1,zT X G vG bn3⟩,⟨zT X G qN bn2,zT X G ZW bn2,zT X G JT bn5,zT X G kh bn4,K3,K3.binds bn2,zT X G yW bn2,Ve⟩,⟨Ve.binds bn2,zT X G kF bn1,UH,UH.binds bn2,zT X G yE bn2,zT X G kG bn1,KR,KR.binds bn2⟩,⟨zT X G qa bn2,Y1,Y1.binds bn2,zT X G yg bn2,zT X G wU bn2,zT X G ql bn2,UM,UM.binds bn3⟩,⟨YK,YK.binds bn1,Z,Z.binds bn1,W8,W8.binds bn2,O,O.binds bn2⟩,⟨S,S.binds bn3,zT X G Dg bn3,zT X G ax bn3,zT X G yR bn3,zT X G XB bn1,zT X G kR bn1,zT X G vt bn1⟩,⟨cy,cy.binds bn2,zT X G vv bn1,Z5,Z5.binds bn4,zT X G jj bn2,zT X G jR bn1,zT X G yF bn4⟩,⟨zT X G zI bn1,zT X G vH bn1,zT X G jF bn2,zT X G JU bn1,zT X G ZX bn1,zT X G XG bn1,zT X G XH bn1,Jv⟩,⟨Jv.binds bn2,Uy,Uy.binds bn3,KW,KW.binds bn2,zT X G wV bn3,zT X G qi bn1,UE⟩,⟨UE.binds bn3,zT X G vw bn2,zT X G qO bn2,zT X G Yx bn2,zT X G vI bn3,zT X G Wn bn3,zT X G zZ bn2,zT X G Ag bn1⟩,⟨oq,tR,U7,gC,l8,VG,ou,tQ⟩,⟨U4,BH,D8,dj,oy,tV,U8,BJ⟩,⟨D7,U6,dh,tT,BB,cu,D6,Ih⟩,⟨gz,df,gA,Kh,Jr,Kg,lY,om⟩,⟨XX,oj,tU,U3,BA,XW,cw,cq⟩,⟨⟨gB,cn,YK.kp⟩,⟨lU,dm,O.kp⟩,⟨BK,l0,dq,BG⟩,BI,XY,U5,dg,⟨di,U2,S.kp⟩⟩,⟨⟨gD,cg,Z.kp⟩,⟨BD,lS,dk,BE⟩,kT,JV⟩⟩;have eb:∀(s:SE)(v:Value),BindsTo s D ⟨[v],[]⟩ [("_law_script",v)]:=by obtain⟨_,_,_,_,_,_,_,_,_,rfl,_,_⟩:=Ag.2.ex;exact λs v=>.of_eq rfl
 refine⟨_,eb,λa _ _=>(PH T).imp λvs H Q E ⟨p,ns,e,hS,hl,k⟩=>?_⟩;subst e;exact Gy hS (D0 ns hl) k
def walk{l:W.OpenLaw}{q:SV}{c:SA}{t:(Str->Option Value)->Heap->Prop}{j:World->Heap->Prop}{d:DefRec}{K:Params->W.Frag}(p:l.most=some 63)(g:d.params.defaults=[])
  (y:∀(w:S_)(h:Heap),j w h->(K w.params).In h)
  (F:∀(w:S_)(e:Sx)(fa:Addr)(h:Heap),(K w.params).In h->h.Ns mainGlobals e->e d.name=some (.ref fa)->
   ∃i:FuncData,(∀(s:SE)(u:Value),BindsTo s i ⟨[u],[]⟩ [("_law_script",u)])/\∀b:Heap,(K w.params).In b->b.Ns mainGlobals e->yz l.prog w (K w.params) e b (CXe l.prog w) 52 fa i ["_law_script"] (Bt (K w.params))):
  W.WalkO q c t j l.row.toRowW d [] (λf o=>PySem.call f o):=
 L2.F6 (n:=63) (k:=52) (x:="_law_script") (CX:=λw=>CXe l.prog w) (sp:=λw=>Bt (K w.params)) p (by decide) g ⟨rfl,by decide,by decide⟩ y F (λ_ H a m v A r=>⟨a,m,rfl,r,v,λ_=>rfl⟩) λ_ _ _ _ _ z=>ij z
end K37
open PySem PySem.W PyProof.Rows
namespace PySem.W.Fast
def tw778028478186192360:=()
def tw5806154533414676051:=()
def tw16834402469661257806:=()
def tw11536605109297099888:=()
def tw9567059037360252493:=()
def tw3488631354917479533:=()
def tw15337743805552461953:=()
def tw17941865266318096564:=()
def tw4878715662856130325:=()
def tw4538396103025806619:=()
def tw18168278583763310099:=()
def tw109047556765780111:=()
def tw10660946918772183470:=()
def tw16579505435478716423:=()
def tw11723519197982787494:=()
def tw10286744557130098288:=()
def tw9584212560316511714:=()
def tw6950223710997194:=()
def tw1942778943040353817:=()
def tw14889213993466559636:=()
def tw13593922633783434790:=()
def tw12711234664291300153:=()
def tw12326287773267199424:=()
def tw9681282072546359060:=()
def tw10970975583550780997:=()
def tw5721212125057649144:=()
def tw14465881058250235635:=()
def tw12490651949845379124:=()
def tw6650458902211273144:=()
def tw17841118531637368765:=()
def tw11627089594042555144:=()
def tw9614991712559737004:=()
def tw1842773792470915:=()
def tw1406382203575716414:=()
def tw5591325342062034406:=()
def tw13668624265565782374:=()
def tw8951631044037485219:=()
def tw8120115904716107810:=()
def tw3036204029897225925:=()
def tw9807015774635797452:=()
def tw8879124440349470672:=()
def tw8505781047380907007:=()
def tw5489666405045073334:=()
def tw4149498839091902770:=()
def tw3235704606705253467:=()
def tw16519476513439133478:=()
def tw15495535713936071061:=()
def tw11204334147085709721:=()
def tw10101418643717898706:=()
def tw5655784883431122121:=()
def tw7938116866484664909:=()
def tw9113471548545014369:=()
def tw11357561614827032151:=()
def tw8128954109550635113:=()
def tw9505797719033639573:=()
def tw9370866031519829884:=()
def tw8077158464213026256:=()
def tw8046876750591158269:=()
def tw16440750680405044879:=()
def tw16378264843204225115:=()
def tw13648225911888728490:=()
def tw13176870118940595788:=()
def tw11962175034108602176:=()
def tw11954324431250978230:=()
def tw11878852797393881720:=()
def tw6595777286510367009:=()
def tw7320395152657448784:=()
def tw674085227384176875:=()
def tw4978328807299307849:=()
def tw2576208224862291085:=()
def tw18048001846584851858:=()
def tw15916055044374181808:=()
def tw15854286272609245240:=()
def tw14958768605836347968:=()
def tw14500720004122239419:=()
def tw12412764346426690814:=()
def tw12100899091765247246:=()
def tw11565101586029894016:=()
def tw10421652642497533094:=()
def tw10350892446602565218:=()
def tw9282571503162327499:=()
def tw7351871258397696492:=()
def tw575179219720044417:=()
def tw3467823171269302879:=()
def tw2803000043158778622:=()
def tw15468385199280185083:=()
def tw15442023780907737341:=()
def tw14036556029546427689:=()
def tw12221943975277258008:=()
def tw11963986863288902200:=()
def tw11627536240111938033:=()
def tw11501728345208006059:=()
def tw11358429941842073137:=()
def tw10891886532206761487:=()
def tw18344294960960690381:=()
def tw8678168026286646560:=()
def tw7277426938197685732:=()
def tw4786704653911309848:=()
def tw3424681890081494666:=()
def tw3153720694263072908:=()
def tw2813014368235801582:=()
def tw2020108942595471971:=()
def tw15992649984156223446:=()
def tw13963929532682613922:=()
def tw13674716094417045349:=()
def tw1121574143524639472:=()
def tw9879919797407155841:=()
def tw849434421366124601:=()
def tw6644503635251216466:=()
def tw6114298023179126628:=()
def tw5966437083562395123:=()
def tw5282867366385217728:=()
def tw4986371862177239396:=()
def tw1878409254712621740:=()
def tw17695999135451038181:=()
def tw15588115680782666621:=()
def tw13845735893708155037:=()
def tw12841954553332145191:=()
def tw12615393984726536595:=()
def tw12464184879170306209:=()
def tw9949559493843286191:=()
def tw9929480477483205083:=()
def tw966563425740684727:=()
def tw9353984081601181213:=()
def tw8989388089474872883:=()
def tw8635259532746383243:=()
def tw8569947527126582808:=()
def tw8556063773297794633:=()
def tw8432413160550197046:=()
def tw8315496532911001717:=()
def tw8266912324334195748:=()
def tw8265067932709934486:=()
def tw8256914367828783128:=()
def tw8170384018508491989:=()
def tw7897221609605481048:=()
def tw7824662400053319367:=()
def tw7532491117866808593:=()
def tw7443886694400101389:=()
def tw7374778596415066007:=()
def tw7162238359375433592:=()
def tw7111318226454030127:=()
def tw6884602438275172225:=()
def tw6856588636423435504:=()
def tw6791063592650895638:=()
def tw6679092692775547171:=()
def tw6163690202930184953:=()
def tw6126296752949306679:=()
def tw6049007501677743986:=()
def tw6047364299778678170:=()
def tw5981229185773687877:=()
def tw5897086458852369586:=()
def tw5762964988479891284:=()
def tw569326070121757810:=()
def tw5600718315777620426:=()
def tw5545145547237833787:=()
def tw5526478167969220440:=()
def tw5422892368662853703:=()
def tw5369167636622201618:=()
def tw5327659735222312442:=()
def tw5305975510507086985:=()
def tw5261958759949023918:=()
def tw5143785894455038929:=()
def tw492656797299683537:=()
def tw4447160024540765930:=()
def tw4391058050436454286:=()
def tw4154349151458108454:=()
def tw4132208558885186455:=()
def tw4101219047682288357:=()
def tw4070534225139609469:=()
def tw4045008225246788308:=()
def tw3884303539404612874:=()
def tw3774687693854245435:=()
def tw3741738937882442577:=()
def tw373739819947584175:=()
def tw3588544021368041449:=()
def tw3526102350772630296:=()
def tw329123210219779028:=()
def tw3260442364968667097:=()
def tw3246059261142869210:=()
def tw3220917273698183569:=()
def tw3130612573964869634:=()
def tw2986018602525834842:=()
def tw2820293340275869621:=()
def tw2687672433200726636:=()
def tw253796739483867125:=()
def tw2479941301838558767:=()
def tw2017558601760417091:=()
def tw2008438947773044028:=()
def tw18414336468980057260:=()
def tw18118354901124589684:=()
def tw18034108427028675550:=()
def tw17906174392287878193:=()
def tw17865406247273643312:=()
def tw17697454931114865479:=()
def tw17569697028032659385:=()
def tw17557257872433850200:=()
def tw1721323926922496794:=()
def tw17112698019047511744:=()
def tw1709855157407373681:=()
def tw16863528750486903763:=()
def tw16792832966480912757:=()
def tw1677030502979295288:=()
def tw16515333661205425563:=()
def tw16342283383720470116:=()
def tw1631295281178839216:=()
def tw16237882639250112775:=()
def tw16201183874290763392:=()
def tw16009876332731209786:=()
def tw15913891266751066271:=()
def tw15641526894146264196:=()
def tw1534883428003096611:=()
def tw15267420638648999096:=()
def tw15255024578092893591:=()
def tw15198935072604767874:=()
def tw15113777475432591542:=()
def tw15031946759705734960:=()
def tw14860195844209167687:=()
def tw14858817219217738602:=()
def tw14684138582431077794:=()
def tw14593470815486686888:=()
def tw14116406219129804862:=()
def tw13913879917478105435:=()
def tw13882676090668558028:=()
def tw13637317197864267951:=()
def tw13593751361075403613:=()
def tw1354682962053901810:=()
def tw13479138570009922056:=()
def tw13257514876098033980:=()
def tw13188632565292040377:=()
def tw13130775470840675717:=()
def tw13121686048220304991:=()
def tw13087829868831146707:=()
def tw13054822424005753074:=()
def tw12665269191118030655:=()
def tw12650162560314989953:=()
def tw12614920578093608881:=()
def tw12105554264590380074:=()
def tw12044795681867802682:=()
def tw11955768354743370877:=()
def tw11799267026772693901:=()
def tw11651458677807309805:=()
def tw11643839045187679114:=()
def tw11558492603453999756:=()
def tw11483184511841272234:=()
def tw11340977116153366732:=()
def tw11164413077414154599:=()
def tw11112632254087784821:=()
def tw11055787055543081791:=()
def tw10632405546080484007:=()
def tw10603127485085082491:=()
def tw10452566866559380421:=()
def tw10295917099428006464:=()
def tw2370862174115572550:=()
def tw17169174904519202126:=()
def tw12654949515372590157:=()
def tw11586205425803807158:=()
def tw14015385065298548616:=()
def tw17797585264716727509:=()
def tw16528126266348762584:=()
def tw15316912728698940680:=()
def tw8797152507565673042:=()
def tw2497737373136331601:=()
def tw12040765090670978890:=()
def tw2532159692775535798:=()
def tw12683515227405690995:=()
def tw7633226284883027061:=()
def tw5020352164331583352:=()
def tw13636824006804204147:=()
def tw16775800898918885266:=()
def tw8172392004111940899:=()
def tw9856474347584878819:=()
def tw12852802109784355217:=()
def tw17215232416046657210:=()
def tw4507391761863108002:=()
def tw17201820837883918681:=()
def tw660996386684061880:=()
def tw4122574045106768141:=()
def tw5029021694167147435:=()
def tw13532655213404707797:=()
def tw10798366027089658696:=()
def tw18367881044954175325:=()
def tw8152852991380891332:=()
def tw7946990350508676588:=()
def tw9812119990561242874:=()
def tw16323408084989396414:=()
def tw14973239169440832864:=()
def tw3022201727034230649:=()
def tw8340776395148509012:=()
def tw8288776373891469132:=()
def tw1230244574492437515:=()
def tw8802914765499261821:=()
def tw8781398600323086977:=()
def tw9648638048424706404:=()
def tw16360330000201080514:=()
def tw2599615947787417568:=()
def tw8517697612278789419:=()
def tw17163185186008428162:=()
def tw10060199012912218309:=()
def tw6529530573654649977:=()
def tw16050759891230892610:=()
def tw11859280114130689203:=()
def tw10913737024325514818:=()
def tw3719520239672802852:=()
def tw4065930158571099274:=()
def tw9135277667832172321:=()
def tw15223462381113789886:=()
def tw4271514080286632566:=()
def tw1457640998667228832:=()
def tw8066646127456119439:=()
def tw6471425184969773905:=()
def tw11504786285845792246:=()
def tw3281042703185985756:=()
def tw15980904605794559204:=()
def tw17138155006460873548:=()
def tw4449641906008335663:=()
def tw18211344604334978812:=()
def tw12703755806690663261:=()
def tw11092936402810765295:=()
def tw11507162536750726701:=()
def tw16621932022576307512:=()
def tw18329832554757420210:=()
def tw3653678136995170078:=()
def tw8757160829087620835:=()
def tw5665223405509868071:=()
def tw3081413525508216905:=()
def tw14408104512694222496:=()
def tw13828886340180826406:=()
def tw7471159256011240048:=()
def tw16219504591264339854:=()
def tw6347333484305553815:=()
def tw9088572202526390076:=()
def tw10831486623283344523:=()
def tw4737414228582315805:=()
def tw3723028156234378477:=()
def tw4429575252222566941:=()
def tw4905579738479360513:=()
def tw13680976461310758311:=()
def tw12841215228438219192:=()
def tw6243306077028025899:=()
def tw16539305849488870288:=()
def tw16522475841027857972:=()
def tw17288038675284947973:=()
def tw15467242325920930924:=()
def tw10411251865444131955:=()
def tw10043018039114696145:=()
def tw12821171938225442531:=()
def tw10603478115991794246:=()
def tw15030641879578109243:=()
def tw15110808652692483911:=()
def tw8501911027221707709:=()
def tw7980248541444042139:=()
def tw10479284014300804699:=()
def tw14217957765358656590:=()
def tw14056900758890020733:=()
def tw13026026521650133585:=()
def tw2279025463704455986:=()
def tw16020336036104138726:=()
def tw5712860689068791428:=()
def tw6844807953895261249:=()
def tw11650412602488258209:=()
def tw9599601495482101824:=()
def tw4428838990674859289:=()
def tw1174230086064212103:=()
def tw8299305296030251944:=()
def tw115107714304520275:=()
def tw14751059901070305496:=()
def tw3821117351233117118:=()
def tw16682473609391920552:=()
def tw7719827554295274491:=()
def tw16986258974597704760:=()
def tw5976644045832032329:=()
def tw15927297943083176164:=()
def tw5023981397151615775:=()
def tw8512783691549883096:=()
def tw8079876989718789070:=()
def tw10216053376386833513:=()
def tw12569937688783195227:=()
def tw5774068635215317395:=()
def tw14770006480662458585:=()
def tw9854846829908975382:=()
def tw2673765860851212243:=()
def tw4322488976611876582:=()
def tw16670901903443133549:=()
def tw14036943290946037799:=()
def tw7249624055506906742:=()
def tw15924264453865403315:=()
def tw16412968224749749418:=()
def tw17150619856158416597:=()
def tw15774407213587397502:=()
def tw14321356149042499580:=()
def tw5914629725429588255:=()
def tw2847832273638580171:=()
def tw9501080331581145549:=()
def tw432351898819742404:=()
def tw11048941329909398989:=()
def tw13680512149212818607:=()
def tw11788527109237709634:=()
def tw6973242242643759546:=()
def tw8191517021423478449:=()
def tw7009587325418930214:=()
def tw7593841265476068957:=()
def tw5704446465822059215:=()
def tw2987523342327819635:=()
def tw7367153922403853455:=()
def tw14255437390891792422:=()
def tw7357515374926940520:=()
def tw13930850213120702366:=()
def tw6437000754449242349:=()
def tw16177558745394951655:=()
def tw7569652250187454476:=()
def tw7979762973005848541:=()
def tw16112502343347634410:=()
def tw4153725331958499104:=()
def tw15579915831233961345:=()
def tw3941688567139690976:=()
def tw14495301975750626202:=()
def tw10997766568804771179:=()
def tw17616718683505418497:=()
def tw9032548736637358649:=()
def tw9513458517628376805:=()
def tw7967906501631036102:=()
def tw1812107689026238481:=()
def tw10741612128760567288:=()
def tw631578353715058358:=()
def tw6259645273026408636:=()
def tw10672127713719663268:=()
def tw12719144291059589815:=()
def tw15869699771876650832:=()
def tw1517399448635805550:=()
def tw14065132111188850166:=()
def tw11124829107509819314:=()
def tw7965855083234802853:=()
def tw13986364750807748958:=()
def tw17628013370517331657:=()
def tw14252312455513149357:=()
def tw7182675576132942111:=()
def tw8406950156793821708:=()
def tw13546532517740822888:=()
def tw14543952039636346192:=()
def tw3200534989004242616:=()
def tw17791158735602878454:=()
def tw624445895895288596:=()
def tw5328069976332871794:=()
def tw2146631096521200925:=()
def tw7439863365461245767:=()
def tw10472944555591640581:=()
def tw8004112431258616934:=()
def tw12148004110433436195:=()
def tw9321371993073211371:=()
def tw16601841087274313291:=()
def tw1168066316130125004:=()
def tw15831694517022831544:=()
def tw9210896004844830982:=()
def tw2566402157303719086:=()
def tw14825495208605968813:=()
def tw10436863032946787499:=()
def tw3393621672487778060:=()
def tw7407244611447259823:=()
def tw15616683733697630447:=()
def tw6060922487209399337:=()
def tw3196583284316822110:=()
def tw11842455786900121364:=()
def tw14661642442189657081:=()
def tw2581228177834301129:=()
def tw12681165382034805803:=()
def tw11198882315599401604:=()
def tw8124308381711831132:=()
def tw9346371923670743438:=()
def tw352969281369667083:=()
def tw7455548157031884089:=()
def tw352063898163690940:=()
def tw16268200083705183680:=()
def tw284424544029284926:=()
def tw3601680677623187503:=()
def tw319713954435524872:=()
def tw6956362194445596419:=()
def tw13263704513649714382:=()
def tw15432492614579255227:=()
def tw15138633559120149222:=()
def tw9388855017063179322:=()
def tw16882696682938648719:=()
def tw2781750084052529638:=()
def tw7812842773642071134:=()
def tw1806812725800005264:=()
def tw14849204387156181785:=()
def tw8661264729884746105:=()
def tw7167828031921748097:=()
def tw7803728340425430512:=()
def tw16509915405761148652:=()
def tw5685525594083172192:=()
def tw5804989173274874040:=()
def tw12902561436674732725:=()
def tw3758637451997608743:=()
def tw8349939735984454817:=()
def tw9380863060630978937:=()
def tw7613039931901619456:=()
def tw3581918093142091104:=()
def tw9094443907080535256:=()
def tw16255929685614764493:=()
def tw670538123320944903:=()
def tw7854823557765620126:=()
def tw17045564729004719058:=()
def tw2862594268827996385:=()
def tw11634739259283508040:=()
def tw8760682444894235849:=()
def tw15416782734372022680:=()
def tw1713097443644286695:=()
def tw14298535640098094785:=()
def tw1105804522156230549:=()
def tw2662705051014529427:=()
def tw5173443156422112213:=()
def tw8031124189390063308:=()
def tw18108941285709991126:=()
def tw16437342207397851605:=()
def tw16583564638263905834:=()
def tw7471074666618234153:=()
def tw9912817927933305647:=()
def tw12425463117316147498:=()
def tw9747223024018066113:=()
def tw11332274757348345276:=()
def tw16809956250148243295:=()
def tw2506230464163120716:=()
def tw15006103480714093195:=()
def tw17772981365409649648:=()
def tw7706353487501959055:=()
def tw10838067825233577875:=()
def tw12431866217613290088:=()
def tw16413120534293644061:=()
def tw6793446092684974877:=()
def tw832364849329726794:=()
def tw6006448208246396719:=()
def tw15276281010993674934:=()
def tw12775536163819608387:=()
def tw16712975044048398390:=()
def tw14194023634355649921:=()
def tw5619117842154263738:=()
def tw11158345439451932873:=()
def tw7631877135881690711:=()
def tw8767823570994284892:=()
def tw18401881187831599705:=()
def tw9429703111747584959:=()
def tw4504065601496353974:=()
def tw4138235574383036831:=()
def tw906263554899572216:=()
def tw5899972574238116667:=()
def tw18070345160255202548:=()
def tw17946918540283931210:=()
def tw8462814268847807925:=()
def tw17688283424854558698:=()
def tw5889255917093799766:=()
def tw8960446484873464659:=()
def tw13327636132419579805:=()
def tw3032589256531485764:=()
def tw17527802902901115206:=()
def tw10312176800247465384:=()
def tw14726013150056354577:=()
def tw10865900090143848194:=()
def tw13208534326775169837:=()
def tw14153983601809658913:=()
def tw17375673668230711329:=()
def tw3179564626562326538:=()
def tw4129974289399874281:=()
def tw16253316264444130787:=()
def tw5514617344619121767:=()
def tw7704188411056750236:=()
def tw10109594036713790474:=()
def tw18093917229970801890:=()
def tw12143490713865168937:=()
def tw14004730670226511782:=()
def tw5180150693137852238:=()
def tw2777910588304580102:=()
def tw16266016883988267392:=()
def tw17923748739430451949:=()
def tw6290360902633992854:=()
def tw446762401650431942:=()
def tw6302065511158908164:=()
def tw3051387783665157917:=()
def tw17306985779922354291:=()
def tw2539259588398035825:=()
def tw3400594382723930198:=()
def tw4445008458041998292:=()
def tw11055497084300391619:=()
def tw10839093999450071749:=()
def tw13164841058348414309:=()
def tw12651937286913346731:=()
def tw11156154358740685186:=()
def tw1394183238103924925:=()
end PySem.W.Fast
set_option maxRecDepth 100000 in
set_option maxHeartbeats 0 in
theorem PySem.Challenge.cw_fleetpath_k37_whole_fewest_cars_holds : PySem.Challenge.rw_fleetpath_k37_whole_fewest_cars.Holds := by
 w_on;o_law;k_head;(case hw=>w_witness2)
 k_fill
 refine K37.walk (l:=PySem.Challenge.rw_fleetpath_k37_whole_fewest_cars) rfl rfl (λw h Y=>PySem.W.kIn_of Y) ?F
 case F=>
  intro w mg fa h KX G hmg;refine' K37.all_mk KX G hmg ?_ ?_ ?_ ?_ ?_ ?_ ?_ ?_ ?_ ?_ ?_ ?_ ?_ ?_ ?_ ?_ ?_ ?_ ?_ ?_ ?_ ?_ ?_ ?_ ?_ ?_ ?_ ?_ ?_ ?_ ?_ ?_ ?_ ?_ ?_ ?_ ?_ ?_ ?_ ?_ ?_ ?_ ?_ ?_ ?_ ?_ ?_ ?_ ?_ ?_ ?_ ?_ ?_ ?_ ?_ ?_ ?_ ?_ ?_ ?_ ?_ ?_ ?_ ?_ ?_ ?_ ?_ ?_ ?_ ?_ ?_ ?_ ?_ ?_ ?_ ?_ ?_ ?_ ?_ ?_ ?_ ?_ ?_ ?_ ?_ ?_ ?_ ?_ ?_ ?_ ?_ ?_ ?_ ?_ ?_ ?_ ?_ ?_ ?_ ?_ ?_ ?_ ?_ ?_ ?_ ?_ ?_ ?_ ?_ ?_ ?_ ?_ ?_ ?_ ?_ ?_ ?_ ?_ ?_ ?_ ?_ ?_ ?_ ?_ ?_ ?_ ?_ ?_ ?_ ?_ ?_ ?_ ?_ ?_ ?_ ?_ ?_ ?_ ?_ ?_ ?_ ?_ ?_ ?_ ?_ ?_ ?_ ?_ ?_ ?_ ?_ ?_ ?_ ?_ ?_ ?_ ?_
  all_goals try(first|((first|refine'⟨?_,L2.Em ?_ ?_ ?_⟩|refine' L2.Em ?_ ?_ ?_|refine' K37.M3 ?_ ?_ ?_ ?_ ?_)<;>try first|k_is|kernel_rfl)|(show _=_;first|k_is|kernel_rfl)|(first|refine⟨?_,?_,?_,?_,?_⟩|refine⟨?_,?_,?_,?_⟩|refine⟨?_,?_,?_⟩)<;>first|k_is|kernel_rfl)
#print axioms PySem.Challenge.cw_fleetpath_k37_whole_fewest_cars_holds
