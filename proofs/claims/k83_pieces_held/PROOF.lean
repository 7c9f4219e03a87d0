import PyProof.Rows.All
import Wide.All
import OpenK.AllK
import Wide.FinOn
import Lean
import PyProof.EqAt
import PyProof.EqKinds
import PyProof.TupleCall
import PyProof.NeKinds
import PyProof.Rows.CountFlat
import PyProof.Rows.SumAny
import PyProof.Rows.Range3
import KE.KEqDict
import KE.KRevIter
import PyProof.DictIter
import PyProof.DictWalks
import PyProof.IsiH_list
import KE.KDictOf
import PyProof.Rows.SetFrom
import PyProof.Conv_int_bool
import PyProof.Rows.StrNews
import PyProof.CallStr
import PyProof.Rows.StrMeet
import PyProof.FitsReplace
import PyProof.MeetsStr3
import PyProof.Rows.StrSplitAre
import PyProof.StrLawsIn
import PyProof.ReprLen
import PyProof.StrLawsChain
import KE.IntTextLaws
import PyProof.Rows.StrClose5
import KE.KSortTup
import PyProof.Rows.SortKey
import PyProof.DictUpdate
import KE.KDictSum
import PyProof.WalksEnum
import PyProof.EnumMake
import PyProof.ZipIter
import PyProof.Rows.EnumRows
import PyProof.Rows.ZipForRows
import PyProof.Rows.FactsT2
import PyProof.Rows.SortStr
import PyProof.TupleIter
import KE.KLam
import PySem.Challenge.RW_fleetpath_k83_pieces_held
set_option hygiene false
local macro_rules
|`(`a)=>`(by omega)
|`(`b)=>`(by decide)
|`(`c)=>`(by grind)
|`(`d)=>`(by omega)
|`(`e)=>`(G.length)
|`(`f)=>`(mC (.i 1))
|`(`g)=>`(s.heap.objs.size)
|`(`h)=>`([false,false,false,false,false,false,false,false,false,true])
|`(`i)=>`(ec (zu T) b T.zp zz (za (ev 0) (za (EM.weak ei) (za (EM.weak ei) zd))))
set_option compiler.extract_closed false
set_option bootstrap.genMatcherCode false
set_option genInjectivity false
set_option genSizeOf false
set_option genSizeOfSpec false
set_option Elab.async false
set_option linter.all false
set_option maxRecDepth 100000
noncomputable section
def f8:=@List.length_map
def u8:=@PySem.wpAny_bind
def v0:=@Option.map_eq_some_iff
def v4:=@List.mem_cons_self
def R4:=@List.length_cons
def R7:=@List.length_append
def R8:=@List.getElem?_eq_some_iff
def R9:=@List.mem_cons_of_mem
def S0:=@Nat.le_refl
def S4:=@PySem.Heap.get?_push_of_some
def S5:=@Nat.le_of_ble_eq_true
def S6:=@List.getElem?_eq_getElem
def S7:=@decide_eq_false
def S8:=@decide_eq_true
def S9:=@PySem.Heap.lt_size
def T1:=@PySem.wpAny_pure
def T2:=@List.map_cons
def T4:=@List.size_toArray
def T5:=@List.map_append
def T6:=@List.mem_cons
def T7:=@Nat.lt_of_lt_of_le
def T8:=@List.getElem?_set_ne
def T9:=@List.mem_singleton
def a0a:=@List.getElem?_append_left
def a0b:=@List.getElem?_append_right
def a0c:=@Bool.false_ne_true
def a0d:=@List.getElem?_map
def a0e:=@Nat.ne_of_lt
def a0f:=@Option.bind_eq_some_iff
def a0g:=@List.length_singleton
def a0h:=@List.getElem?_cons_succ
def a0i:=@List.append_nil
def a0j:=@List.getElem?_set_self
def a0k:=@PySem.Heap.get?_push_size
def a0l:=@Nat.le_trans
def a0m:=@List.mem_append_right
def a0n:=@List.append_assoc
def a0o:=@List.mem_append
def a0p:=@Classical.choose_spec
def a0q:=@List.map_map
def a0r:=@PySem.Heap.get?_update_other
def a0s:=@List.length_set
def a0t:=@beq_iff_eq
def a0u:=@List.flatten_cons
def a0v:=@List.length_range
def a0w:=@List.lookup_cons
def a0x:=@List.length_take
def a0y:=@Option.some.inj
def a0z:=@List.take_succ_eq_append_getElem
def a0A:=@Nat.zero_le
def a0B:=@List.getElem?_concat_length
def a0C:=@beq_eq_false_iff_ne
def a0D:=@List.length_drop
def a0E:=@List.any_cons
def a0F:=@List.mem_map
def a0G:=@PySem.wpAny_mono
def a0H:=@List.mem_of_getElem?
def a0I:=@PySem.sizeLine_eq
def a0J:=@PySem.W.mg_of
def a0K:=@congrArg
def a0L:=@Nat.lt_succ_self
def a0M:=@Nat.add_sub_cancel_left
def a0N:=@PySem.wpAny_holding
def a0O:=@Option.isSome_iff_exists
def a0P:=@List.getElem_range
def a0Q:=@Nat.lt_irrefl
def a0R:=@Int.le_refl
def a0S:=@of_decide_eq_true
def a0T:=@List.map_congr_left
def a0U:=@List.nodup_cons
def a0V:=@PySem.Heap.get?_update_self
def a0W:=@Nat.sub_self
def a0X:=@List.getElem_mem
def a0Y:=@Nat.le_succ
def a0Z:=@List.mem_range
def a00:=@PySem.F.plainAttrs_list
def a01:=@List.replicate_succ
def a02:=@PySem.W.mg_none_of
def a03:=@List.getD_eq_getElem?_getD
def a04:=@List.length_replicate
def a05:=@Option.isSome_map
def a06:=@List.getElem?_replicate
def a07:=@Nat.succ_le_succ
def a08:=@List.take_length
def a09:=@PySem.wpAny_Call_Name_kw
def a1a:=@PySem.tupleKind_room_in1
def a1b:=@Nat.lt_of_le_of_lt
def a1c:=@List.sublist_flatten_of_mem
def a1d:=@List.getElem?_drop
def a1e:=@PySem.wpAny_passesOwn
def a1f:=@List.length_nil
def a1g:=@List.map_take
def a1h:=@List.mem_append_left
def a1i:=@List.drop_eq_getElem_cons
def a1j:=@Sum.inr.inj
def a1k:=@PySem.Heap.size_push
def a1l:=@List.all_eq_true
def a1m:=@List.getElem_map
def a1n:=@List.sublist_append_left
def a1o:=@PySem.mem_of_lookup
def a1p:=@Array.length_toList
def a1q:=@List.mem_map_of_mem
def a1r:=@Int.eq_ofNat_of_zero_le
def a1s:=@List.pairwise_singleton
def a1t:=@PySem.Paired.length
def a1u:=@List.map_drop
def a1v:=@List.foldl_cons
def a1w:=@List.nil_append
def a1x:=@List.find?_cons
def a1y:=@List.map_singleton
def a1z:=@List.take_of_length_le
def a1A:=@List.nodup_append
def a1B:=@Nat.ne_of_gt
def a1C:=@PySem.wpAny_loadPart
def a1D:=@PySem.codeAny_mono
def a1E:=@List.map_nil
def a1F:=@Bool.false_xor
def a1G:=@PyProof.Rows.callWith_type1
def a1H:=@PySem.wpAny_call
def a1I:=@beq_self_eq_true
def a1J:=@List.filter_cons
def a1K:=@List.length_eraseIdx
def a1L:=@PySem.wpAny_standAt
def a1M:=@Array.getElem?_eq_some_iff
def a1N:=@PySem.wpAny_execs_nil
def a1O:=@Nat.not_lt_zero
def a1P:=@List.pairwise_iff_getElem
def a1Q:=@List.sublist_append_right
def a1R:=@PySem.W.callWith_K
def a1S:=@PySem.wpAny_typeOf
def a1T:=@of_decide_eq_false
def a1U:=@Int.emod_lt_of_pos
def a1V:=@List.pairwise_cons
def a1W:=@List.getElem?_take
def a1X:=@PySem.call_meets
def a1Y:=@List.reverse_cons
def a1Z:=@PySem.wpAny_newObj_type
def a10:=@Nat.lt_succ_of_lt
def a11:=@Nat.le_succ_of_le
def a12:=@PySem.wpAny_pyIter_list
def a13:=@Nat.lt_trichotomy
def a14:=@PySem.Calls.callWith_builtin
def a15:=@List.range_succ_eq_map
def a16:=@List.all_cons
def a17:=@PySem.wpAny_attempt
def a18:=@List.drop_length
def a19:=@PySem.wpAny_isInstance
def a2a:=@List.map_reverse
def a2b:=@PySem.F.slot_dict_get
def a2c:=@PySem.builtinLookup_eq_fast
def a2d:=@List.set_append_right
def a2e:=@PySem.plainObj_wpAny_Assign_Attribute
def a2f:=@Nat.le_of_lt
def a2g:=@Nat.le_of_eq
def a2h:=@List.of_mem_zip
def a2i:=@Nat.lt_trans
def a2j:=@PySem.codeAny_call_builtin
def a2k:=@List.getElem?_append
def a2l:=@Nat.zero_add
def a2m:=@Int.emod_nonneg
def a2n:=@List.filterMap_cons
def a2o:=@PySem.W.plainGet_of
def a2p:=@List.length_reverse
def a2q:=@PySem.Heap.get?_update_ne
def a2r:=@List.length_pos_iff
def a2s:=@Bool.and_false
def a2t:=@PySem.wpAny_field
def a2u:=@PySem.Calls.Name_function_global
def a2v:=@Bool.true_xor
def a2w:=@Bool.true_and
def a2x:=@Array.perm_iff_toList_perm
def a2y:=@PyProof.Rows.listUpdate_at
def a2z:=@List.sum_cons
def a2A:=@List.nodup_iff_pairwise_ne
def a2B:=@PySem.wpAny_truthy_bool
def a2C:=@PySem.Within.cons
def a2D:=@List.take_sublist
def a2E:=@Nat.le_of_succ_le
def a2F:=@List.getLast?_map
def a2G:=@List.getElem?_eq_none_iff
def a2H:=@PySem.wpAny_eqBool_int
def a2I:=@PySem.wpAny_lookBehind
def a2J:=@PySem.pastItsLine_dict
def a2K:=@Bool.and_eq_true
def a2L:=@PySem.W.looks_findIn
def a2M:=@PySem.wpAny_comprehension_free
def a2N:=@Int.le_trans
def a2O:=@PySem.F.slot_list_append
def a2P:=@PySem.F.type_list_append
def a2Q:=@List.cons_append
def a2R:=@PyProof.Rows.KeyOrd.kle_trans
def a2S:=@PyProof.Rows.KeyOrd.klt_asymm
def a2T:=@Array.toList_inj
def a2U:=@PySem.F.slot_list_insert
def a2V:=@List.eq_of_mem_replicate
def a2W:=@List.zipWith_map
def a2X:=@List.map_zipWith
def a2Y:=@PySem.F.args_dict_get_2
def a2Z:=@List.getElem?_cons_zero
def a20:=@List.eraseIdx_cons_succ
def a21:=@PySem.pushCells_keeps
def a22:=@PySem.typeLookup_type
def a23:=@PySem.wpAny_updateSeq
def a24:=@List.range_succ
def a25:=@Bool.decide_and
def a26:=@PySem.W.cellsFrom_some
def a27:=@PyProof.Rows.subscriptTail_builtinR
def a28:=@PySem.F.entry_dict_get
def a29:=@PySem.W.looks_mroIn
def a3a:=@Array.getElem?_eq_none
def a3b:=@PySem.wpAny_of_eq
def a3c:=@List.getElem?_eraseIdx
def a3d:=@Array.getElem?_toList
def a3e:=@List.nodup_nil
def a3f:=@PySem.wpAny_setField
def a3g:=@PySem.W.methodCall_KW
def a3h:=@List.take_zero
def a3i:=@List.getElem?_toArray
def a3j:=@List.getElem?_zipWith
def a3k:=@PySem.wpAny_loadName_local
def a3l:=@PySem.wpAny_load
def a3m:=@Array.mem_toList_iff
def a3n:=@PySem.Calls.evalArgs_plain
def a3o:=@Bool.and_eq_true_iff
def a3p:=@PySem.wpAny_rule
def a3q:=@PySem.Around.under_plainId
def a3r:=@List.pairwise_append
def a3s:=@Int.not_le
def a3t:=@Classical.not_forall
def a3u:=@PySem.plainId_quiet
def a3v:=@PySem.wpAny_loadName_cell
def a3w:=@List.take_succ_cons
def a3x:=@List.drop_succ_cons
def a3y:=@List.length_zipWith
def a3z:=@PySem.SeqAt.EqAt.int_str
def a3A:=@PySem.SeqAt.EqAt.str_int
def a3B:=@List.mem_filterMap
def a3C:=@Array.find?_toList
def a3D:=@PySem.wpAny_nsSet1
def a3E:=@PySem.Calls.spliced_cons
def a3F:=@PySem.seqIndex_neg
def a3G:=@PySem.Code.quiet_builtin
def a3H:=@PySem.wpAny_mkText
def a3I:=@List.any_map
def a3J:=@Array.forIn_toList
def a3K:=@PySem.seqIndex_of
def a3L:=@PySem.W.looks_clsIn
def a3M:=@PySem.wpAny_throw
section
open PySem PySem.Spec PyProof.Rows PySem.W
abbrev RS:=List Str
abbrev RT:=(List (Addr×Obj))
abbrev RU:=(Str->Option Value)
abbrev RW:=List Nat
abbrev RX:=(Value->Shared->Prop)
abbrev RY:=(Addr->Prop)
abbrev RZ:=Shared
abbrev R_:=List Bool
abbrev Sa:=List Value
abbrev Sd:=List Expr
abbrev Se:=(Nat->Addr)
abbrev Sf:=Expr
abbrev Sg:=PySem.W.Frag
abbrev Sl:=Program
abbrev Sm:=List (Option Nat)
abbrev So:=World
abbrev Sq:=FuncData
abbrev Su:=Around
abbrev Sv:=List (List Str)
abbrev Sw:=List Int
abbrev Sx:=Frag
abbrev SA:=(List (Str×Addr))
abbrev SD:=W.Frag
abbrev SE:=List Stmt
abbrev SG:=(List (Str×NameKind))
abbrev SH:=List Addr
abbrev SI:=Array (Option Value)
abbrev SJ:=Array Value
abbrev SK:=Option Addr
abbrev SN:=Stmt
abbrev SQ:=Option Int
abbrev SR:=(List (Str×Value))
abbrev SU:=Array Nat
abbrev SX:=(Str->Option NameKind)
abbrev SY:=Option Expr
abbrev Td:=(Nat->Nat->Bool)
abbrev Tf:=(Nat->Prop)
abbrev Tg:=(Value->Option Bool)
abbrev Th:=(Nat->Value)
end
abbrev Ti:List Nat:=[0,0,0,0,0,0,0]
abbrev Tr:List Nat:=[0,0,0,0,0,0,0,0,0,0,0,0,0,0,0]
namespace L2
open PySem PySem.Spec PyProof.Rows
abbrev Key:=Sum Int Str
abbrev SO:=List Key
abbrev SS:=(List (Key×Value))
abbrev SW:=(List (List Key×Int))
def iM:Key->Value->Bool
 |.inl k,v=>Value.isInt k v
 |.inr x,v=>Value.isStrOf x v
def P_(w:So):Key->Int
 |.inl k=>hashInt k
 |.inr x=>hashStr w x
def yR:∀{k:Key}{v:Value},iM k v=true->(∃i t,k=Sum.inl i/\v=Value.int i t)\/(∃x t,k=Sum.inr x/\v=Value.str x t)
 |.inl i,v,h=>by obtain⟨t,e⟩:=Value.isInt_shape h;exact .inl ⟨i,t,rfl,e⟩
 |.inr x,v,h=>by obtain⟨t,e⟩:=Value.isStrOf_shape h;exact .inr ⟨x,t,rfl,e⟩
def sP(i:Int)(t:Tok):iM (.inl i) (.int i t)=true:=by simp[iM,Value.isInt]
def sQ(x:Str)(t:Tok):iM (.inr x) (.str x t)=true:=by simp[iM,Value.isStrOf]
def Hv(a b:Int):decide ((Sum.inl a:Key)=Sum.inl b)=(a==b):=by grind
def Hw(a b:Str):decide ((Sum.inr a:Key)=Sum.inr b)=decide (a=b):=by simp
def Hx(a:Int)(b:Str):decide ((Sum.inl a:Key)=Sum.inr b)=false:=S7 (λq=>nomatch q)
def Hy(a:Str)(b:Int):decide ((Sum.inr a:Key)=Sum.inl b)=false:=S7 (λq=>nomatch q)
def yK(prog:Sl)(w:So):PySem.KeyKind prog w Key where
 is:=iM
 hash:=P_ w
 inj:=λv a b ha hb=>by
  rcases yR ha with⟨i,t,rfl,rfl⟩|⟨x,t,rfl,rfl⟩
  .rcases yR hb with⟨j,u,rfl,e⟩|⟨y,u,rfl,e⟩
   .injection e with e1 _;rw[e1]
   .exact nomatch e
  .rcases yR hb with⟨j,u,rfl,e⟩|⟨y,u,rfl,e⟩
   .exact nomatch e
   .injection e with e1 _;rw[e1]
 byValue:=λk v h=>by rcases yR h with⟨i,t,rfl,rfl⟩|⟨x,t,rfl,rfl⟩<;>rfl
 pyHash:=λhv h=>by
  rcases yR hv with⟨i,t,rfl,rfl⟩|⟨x,t,rfl,rfl⟩
  .exact wpAny_pyHash_int h
  .exact wpAny_pyHash_str h
 eqBool:=λhu hv h=>by
  rcases yR hu with⟨i,t,rfl,rfl⟩|⟨x,t,rfl,rfl⟩
  .rcases yR hv with⟨j,u,rfl,rfl⟩|⟨y,u,rfl,rfl⟩
   .rw[Hv]at h;exact a2H h
   .rw[Hx]at h;exact a3z i t y u _ _ _ _ h
  .rcases yR hv with⟨j,u,rfl,rfl⟩|⟨y,u,rfl,rfl⟩
   .rw[Hy]at h;exact a3A x t j u _ _ _ _ h
   .rw[Hw]at h;exact wpAny_eqBool_str h
 «strs»:=λk x t v h=>by
  rcases yR h with⟨i,u,rfl,e⟩|⟨y,u,rfl,e⟩
  .exact nomatch e
  .injection e with e1 _
   subst e1;cases v<;>rfl
def pG(prog:Sl)(w:So)(k:Key)(v:Value):(yK prog w).is k v=iM k v:=rfl
def iN(prog:Sl)(w:So)(i:Int)(t:Tok):(yK prog w).is (.inl i) (.int i t)=true:=sP i t
def iO(prog:Sl)(w:So)(x:Str)(t:Tok):(yK prog w).is (.inr x) (.str x t)=true:=sQ x t
inductive V where
 |non|bl (b:Bool)|int (i:Int)|str (x:Str)|byt (b:Array UInt8)|flt (b:UInt64)|ref (a:Addr)|ty (n:String)
 deriving DecidableEq
abbrev Sh:=List V
abbrev Sk:=(List (Key×V))
abbrev Sy:=(List (Str×V))
abbrev S_:=(List (List Key×V))
def RelV:V->Value->Prop
 |.non,u=>u=Value.none
 |.bl b,u=>u=Value.bool b
 |.int i,u=>∃t,u=Value.int i t
 |.str x,u=>∃t,u=Value.str x t
 |.byt b,u=>∃t,u=Value.bytes b t
 |.flt b,u=>∃t,u=Value.float b t
 |.ref a,u=>u=Value.ref a
 |.ty n,u=>u=Value.type n
abbrev Vals:List V->List Value->Prop:=Paired RelV
def Vals.length(r:Vals xs us):xs.length=us.length:=a1t r
theorem Vals.get:∀{b:Sh}{a:Sa}{i:Nat}{x:V},Vals b a->b[i]?=some x->∃u,a[i]?=some u/\RelV x u
 |_,_,_,_,.nil,e=>by simp at e
 |_,_,0,_,.cons r _,e=>by simp at e;subst e;exact⟨_,rfl,r⟩
 |_,_,i+1,x,.cons _ t,e=>by obtain⟨u,d,c⟩:=Vals.get (i:=i) (x:=x) t `c;exact⟨u,by simpa using d,c⟩
theorem Vals.set{x:V}{u:Value}(r:RelV x u):∀{a:Sh}{b:Sa}(i:Nat),Vals a b->Vals (a.set i x) (b.set i u)
 |_,_,_,.nil=>.nil
 |_,_,0,.cons _ t=>.cons r t
 |_,_,i+1,.cons q t=>.cons q (Vals.set r i t)
theorem Vals.append:∀{d a:Sh}{b c:Sa},Vals d b->Vals a c->Vals (d++a) (b++c)
 |_,_,_,_,.nil,s=>s
 |_,_,_,_,.cons r t,s=>.cons r (Vals.append t s)
theorem Vals.take:∀{a:Sh}{b:Sa}(n:Nat),Vals a b->Vals (a.take n) (b.take n)
 |_,_,0,_=>.nil
 |_,_,_+1,.nil=>.nil
 |_,_,n+1,.cons r t=>.cons r (Vals.take n t)
theorem Vals.drop:∀{a:Sh}{b:Sa}(n:Nat),Vals a b->Vals (a.drop n) (b.drop n)
 |_,_,0,r=>r
 |_,_,_+1,.nil=>.nil
 |_,_,n+1,.cons _ t=>Vals.drop n t
def XE:Option V->Option Value->Prop
 |some v,some u=>RelV v u
 |none,none=>True
 |_,_=>False
def KV{a:Type}:List (a×V)->List (a×Value)->Prop:=Paired λ(p:a×V) (q:a×Value)=>p.1=q.1/\RelV p.2 q.2
def kV:Key->V
 |.inl i=>.int i
 |.inr x=>.str x
inductive HO where
 |lst (xs:Sh)
 |tup (xs:Sh)
 |dK (kvs:Sk)|dT (kvs:S_)
 |set (S:Int->Bool) (n:Nat)
 |ins (C dx:Addr) (fs:Sy)
 |own (x:Addr)
 |xd (fs:Sy)
 |met (f x:Addr)
 |rng (lo hi:Int)
 |frz (o:Obj) (u:HO)
 |tbl (ps:SJ)
 |ext (φ:Heap->Prop)
abbrev Hp:=Addr->Option HO
def upd(H:Hp)(a:Addr)(o:HO):Hp:=λb=>if b=a then some o else H b
def zj:upd H a o a=some o:=by unfold upd;rw[if_pos rfl]
def zm(h:b≠a):upd H a o b=H b:=by unfold upd;rw[if_neg h]
def ZY:upd (upd H a o) a u=upd H a u:=by
 funext b;unfold upd;split<;>rfl
def NT{H:Hp}{a b:Addr}{o u:HO}(h:H a=some o)(h':H b=some u)(d:o≠u):a≠b:=by grind
def zY{H:Hp}{a b:Addr}{o:HO}(h:H a=some o)(h':H b=none):a≠b:=by grind
section
variable (P:Sl) (w:So)
def qu(H:Hp)(h:Heap)(a:Addr):HO->Prop
 |.lst d=>d.length<=sizeLine/\∃(b:Sa)(n:Nat),Vals d b/\h.get? a=some { cls:=.type "list",data:=.seq b.toArray n }
 |.tup d=>d.length<=sizeLine/\∃b:List Value,Vals d b/\IsTup h a b.toArray
 |.dK c=>c.length<=sizeLine/\(a==sysModules)=false/\∃j,KV c j/\h.DictOf (yK P w) a j
 |.dT c=>c.length<=sizeLine/\(a==sysModules)=false/\∃d:List (List Key×Addr×Value),
   Paired (λ(p:List Key×V) (q:List Key×Addr×Value)=>p.1=q.1/\H q.2.1=some (.tup (p.1.map kV))/\RelV p.2 q.2.2) c d/\
   ∃o m s,h.get? a=some o/\o.ExactDict/\o.data=.dict m s/\m.toList=d.map (entryOfKey (tupleKind (yK P w)))/\(d.map (·.1)).Nodup
 |.set S n=>h.SetOf (intKind P w) a S n
 |.ins C g fs=>H g=some (.own a)/\fs.length<=1000/\g≠a/\h.get? a=some (PySem.W.instObj C g)/\
   ∃e,h.Ns1 g e/\(∀f,XE (fs.lookup f) (e f))/\PySem.Within e (fs.map (·.1))
 |.own _=>∃o,h.get? a=some o
 |.xd fs=>∃e,h.Ns1 a e/\∀f,XE (fs.lookup f) (e f)
 |.rng y z=>∃t u v,h.get? a=some { cls:=.type "range",data:=.fields #[.int y t,.int z u,.int 1 v] }
 |.frz o u=>h.get? a=some o/\qu H h a u
 |.tbl A=>h.get? a=some { cls:=.none,data:=.fields A }
 |.met f x=>h.get? a=some (PySem.W.methodObj (.ref f) (.ref x))
 |.ext i=>i h/\(∃o,h.get? a=some o)/\∀r l:Heap,i r->(∀o,r.get? a=some o->l.get? a=some o)->i l
def HOk(H:Hp)(h:Heap):Prop:=∀a o,H a=some o->qu P w H h a o
end
section
variable {P:Sl}{w:So}{H H':Hp}{h h':Heap}{a:Addr}{o:HO}
def qu.lt(x:qu P w H h a o):a<h.objs.size:=by
 cases o with
 |lst c=>obtain⟨_,_,_,_,e⟩:=x;exact S9 e
 |tup c=>obtain⟨_,_,_,p⟩:=x;exact p.lt
 |dK b=>obtain⟨_,_,_,_,o,_,_,e,_⟩:=x;exact S9 e
 |dT b=>obtain⟨_,_,_,_,o,_,_,e,_⟩:=x;exact S9 e
 |set S n=>obtain⟨o,_,_,_,e,_⟩:=x;exact S9 e
 |ins C i fs=>obtain⟨_,_,_,e,_⟩:=x;exact S9 e
 |own y=>obtain⟨_,e⟩:=x;exact S9 e
 |xd fs=>obtain⟨_,⟨_,_,_,e,_⟩,_⟩:=x;exact S9 e
 |rng d l=>obtain⟨_,_,_,e⟩:=x;exact S9 e
 |frz ob u=>obtain⟨e,_⟩:=x;exact S9 e
 |tbl g=>exact S9 x
 |met f y=>exact S9 x
 |ext j=>obtain⟨_,⟨_,e⟩,_⟩:=x;exact S9 e
theorem Paired.NU{g e:Type}{F G:g->e->Prop}:∀{c:List g}{d:List e},Paired F c d->(∀a b,F a b->G a b)->Paired G c d
 |_,_,.nil,_=>.nil
 |_,_,.cons r t,f=>.cons (f _ _ r) (Paired.NU t f)
def qu.sR(x:qu P w H h a o)(k:∀b u,(b=a\/H b=some (.own a))->h.get? b=some u->h'.get? b=some u)
  (E:∀b,H b=some (.own a)->H' b=some (.own a)) (F:∀b l,H b=some (.tup l)->H' b=some (.tup l)):qu P w H' h' a o:=by
 induction o with
 |lst l=>obtain⟨z,j,n,r,e⟩:=x;exact⟨z,j,n,r,k _ _ (.inl rfl) e⟩
 |tup l=>obtain⟨z,j,r,ob,e,c⟩:=x;exact⟨z,j,r,ob,k _ _ (.inl rfl) e,c⟩
 |dK A=>obtain⟨z,y,G,r,ob,i,g,e,c⟩:=x;exact⟨z,y,G,r,ob,i,g,k _ _ (.inl rfl) e,c⟩
 |dT A=>obtain⟨z,y,l,r,ob,i,g,e,c⟩:=x;exact⟨z,y,l,Paired.NU r λp q z=>⟨z.1,F _ _ z.2.1,z.2.2⟩,ob,i,g,k _ _ (.inl rfl) e,c⟩
 |set S n=>obtain⟨ob,i,g,t,e,c⟩:=x;exact⟨ob,i,g,t,k _ _ (.inl rfl) e,c⟩
 |ins C L fs=>obtain⟨d,z,K,e,s,⟨m,i,g,I,c⟩,r⟩:=x;exact⟨E _ d,z,K,k _ _ (.inl rfl) e,s,⟨m,i,g,k _ _ (.inr d) I,c⟩,r⟩
 |own y=>obtain⟨ob,e⟩:=x;exact⟨ob,k _ _ (.inl rfl) e⟩
 |xd fs=>obtain⟨s,⟨m,i,g,e,c⟩,r⟩:=x;exact⟨s,⟨m,i,g,k _ _ (.inl rfl) e,c⟩,r⟩
 |rng N M=>obtain⟨t,u,v,e⟩:=x;exact⟨t,u,v,k _ _ (.inl rfl) e⟩
 |frz ob u J=>obtain⟨e,q⟩:=x;exact⟨k _ _ (.inl rfl) e,J q⟩
 |tbl D=>have e:=x;exact k a _ (.inl rfl) e
 |met f y=>have e:=x;exact k a _ (.inl rfl) e
 |ext O=>obtain⟨p,⟨o,e⟩,B⟩:=x;exact⟨B _ _ p λo q=>k _ _ (.inl rfl) q,⟨o,k _ _ (.inl rfl) e⟩,B⟩
def HOk.lt(x:HOk P w H h)(e:H a=some o):a<h.objs.size:=(x a o e).lt
def HOk.fresh(x:HOk P w H h)(e:h.objs.size<=a):H a=none:=by
 cases q:H a with
 |none=>rfl
 |some u=>exact absurd (T7 (x.lt q) e) (a0Q _)
def HOk.kept(x:HOk P w H h)(k:∀b u,h.get? b=some u->h'.get? b=some u):HOk P w H h':=λa o e=>
 (x a o e).sR (λb u _ q=>k b u q) (λ_ q=>q) λ_ _ q=>q
def HOk.laid(x:HOk P w H h)(k:∀b u,h.get? b=some u->h'.get? b=some u)(hp:h.objs.size<=a)(new:qu P w (upd H a o) h' a o):HOk P w (upd H a o) h':=λb u e=>by
 have d:=x.fresh hp;by_cases f:b=a
 .subst f;rw[zj]at e;cases e;exact new
 .rw[zm f]at e;exact(x b u e).sR (λc v _ q=>k c v q) (λc q=>by rw[zm (zY q d)];exact q) λc g q=>by rw[zm (zY q d)];exact q
end
def Rd(H:Hp)(a:Addr)(u:HO):Prop:=H a=some u\/∃o,H a=some (.frz o u)
def Rd.ok(r:Rd H a u)(x:HOk P w H h):qu P w H h a u:=by
 rcases r with r|⟨o,r⟩
 .exact x a u r
 .obtain⟨_,q⟩:=x a _ r;exact q
def Mut:Option HO->Prop
 |some (.lst _)=>True
 |some (.dK _)=>True
 |some (.dT _)=>True
 |some (.set _ _)=>True
 |some (.ins _ _ _)=>True
 |some (.ext _)=>True
 |_=>False
def HOk.write(ok:HOk P w H h)(g:Mut (H x))(he:e=x\/H e=some (.own x))(k:∀b u,b≠e->h.get? b=some u->h'.get? b=some u)(m:∃u,h'.get? e=some u)
  (new:qu P w (upd H x o') h' x o'):HOk P w (upd H x o') h':=λb u q=>by
 have d:∀c y,H c=some (.own y)->c≠x:=λc y r z=>by subst z;rw[r]at g;exact g
 have f:∀c l,H c=some (.tup l)->c≠x:=λc l r z=>by subst z;rw[r]at g;exact g
 by_cases i:b=x
 .subst i;rw[zj]at q;cases q;exact new
 .rw[zm i]at q;by_cases a:b=e
  .have n:H b=some (.own x):=by
    rcases he with z|z
    .exact absurd (a.trans z) i
    .rw[a];exact z
   rw[q]at n;cases n;obtain⟨v,o⟩:=m;exact⟨v,by rw[a];exact o⟩
  .refine(ok b u q).sR (λc v j r=>k c v ?_ r) (λc r=>by rw[zm (d c b r)];exact r) λc l r=>by rw[zm (f c l r)];exact r
   rcases j with rfl|j
   .exact a
   .rintro rfl
    rcases he with z|z
    .exact d c b j z
    .rw[j]at z;cases z;exact i rfl
structure Un(fs ex:SH)(H H':Hp)(h h':Heap):Prop where
 keep:∀b o,h.get? b=some o->H b=none->b∉fs->b∉ex->h'.get? b=some o
 slot:∀b o,h.get? b=some o->H b=none->b∈fs->b∉ex->∃sl,h'.get? b=some { o with slots:=sl }
 free:∀b o,h.get? b=some o->H b=none->b∉ex->H' b=none
 there:∀b o,h.get? b=some o->b∉ex->∃o',h'.get? b=some o'
 xb:∀b xs,H b=some (.tup xs)->H' b=some (.tup xs)
 CV:∀b o u,H b=some (.frz o u)->H' b=some (.frz o u)
 ED:∀b ps,H b=some (.tbl ps)->∃more,H' b=some (.tbl (ps++more))
section
variable {fs ex:SH}{H H1:Hp}{h h1 h':Heap}{a x e:Addr}{o:HO}
def Un.any(u:Un fs ex H H1 h h1)(q:h.get? b=some ob)(n:H b=none)(c:b∉ex):∃f,h1.get? b=some { ob with slots:=f }:=by
 by_cases d:b∈fs
 .exact u.slot b ob q n d c
 .exact⟨ob.slots,u.keep b ob q n d c⟩
def Un.kept(k:∀b u,h.get? b=some u->h'.get? b=some u):Un fs ex H H h h':=
 ⟨λb ob q _ _ _=>k b ob q,λb ob q _ _ _=>⟨ob.slots,k b ob q⟩,λ_ _ _ n _=>n,λb ob q _=>⟨ob,k b ob q⟩,λ_ _ q=>q,λ_ _ _ q=>q,λ_ c q=>⟨#[],by rw[q];simp⟩⟩
def Un.refl:Un fs ex H H h h:=Un.kept λ_ _ q=>q
def Un.laid(k:∀b u,h.get? b=some u->h'.get? b=some u)(hp:h.objs.size<=a)(c:H a=none):Un fs ex H (upd H a o) h h' where
 keep:=λb u q _ _ _=>k b u q
 slot:=λb u q _ _ _=>⟨u.slots,k b u q⟩
 free:=λb u q n _=>by rw[zm (a0e (T7 (S9 q) hp))];exact n
 there:=λb u q _=>⟨u,k b u q⟩
 xb:=λb d q=>by rw[zm (zY q c)];exact q
 CV:=λb u d q=>by rw[zm (zY q c)];exact q
 ED:=λb f q=>⟨#[],by rw[zm (zY q c),q];simp⟩
def Un.write(d:Mut (H x))(he:e=x\/H e=some (.own x))(k:∀b u,b≠e->h.get? b=some u->h'.get? b=some u)(f:∃u,h'.get? e=some u):Un fs ex H (upd H x o) h h':=by
 have i:∀b,H b=none->b≠x:=λb n z=>by subst z;rw[n]at d;exact d
 have j:∀b,H b=none->b≠e:=λb n z=>by
  subst z;rcases he with r|r
  .exact i b n r
  .rw[n]at r;cases r
 have g:∀b u,H b=some u->¬Mut (some u)->b≠x:=λb u q l z=>by subst z;rw[q]at d;exact l d
 refine⟨λb u q n _ _=>k b u (j b n) q,λb u q n _ _=>⟨u.slots,k b u (j b n) q⟩,λb u q n _=>by rw[zm (i b n)];exact n,λb u q _=>?_,
  λb m q=>by rw[zm (g b _ q λz=>z)];exact q,λb u m q=>by rw[zm (g b _ q λz=>z)];exact q,λb p q=>⟨#[],by rw[zm (g b _ q λz=>z),q];simp⟩⟩
 by_cases c:b=e
 .subst c;exact f
 .exact⟨u,k b u c q⟩
end
def trk(h:Heap)(H:Hp):List Addr:=(List.range h.objs.size).filter λa=>(H a).isSome
def AX(h:Heap)(H:Hp):Heap:=PySem.W.hideAll h (trk h H)
def sT(h:Heap)(H:Hp):(AX h H).objs.size=h.objs.size:=PySem.W.hideAll_size _ _
def AY(e:h.get? b=some o)(n:H b=none):(AX h H).get? b=some o:=
 PySem.W.hideAll_get _ e λa=>by have q:=(List.mem_filter.mp a).2;rw[n]at q;simp at q
def EF(e:(AX h H).get? b=some o):h.get? b=some o/\H b=none:=by
 have a:=PySem.W.of_hideAll (trk h H) e;refine⟨a,?_⟩;cases q:H b with
 |none=>rfl
 |some x=>have c:b∈trk h H:=List.mem_filter.mpr ⟨a0Z.mpr (S9 a),by simp[q]⟩;have z:(AX h H).get? b=none:=PySem.W.hideAll_none (trk h H) c;rw[z]at e;cases e
structure Mod(K:Sg)(mg:RU)(base:Heap):Prop where
 kin:K.In base
 glob:base.Ns mainGlobals mg
 blt:∃mb,base.Ns builtinsNs mb/\∀x:Str,x≠"__name__"->mb x=bootBuiltins x
 nolimit:base.NoLimit
structure Cx where
 prog:Program
 w:World
 K:PySem.W.Frag
 mg:Str->Option Value
 base:Heap
 A:Around
 N:List Str
 s₀:Shared
 H₀:Hp
 env:Env
 outer:List Env
 stack:List Env
 ex:List Addr
 fn:Str->Bool
 calm:Bool
 pn:List (Addr×Obj)
 xe:Value->Shared->Prop
abbrev Ts(X:Cx):=model X.prog X.w
def frs(l:List Env):List Addr:=l.filterMap (·.frame)
abbrev Cx.fs(X:Cx):List Addr:=frs X.outer
def Vis(sc:Scope)(x:Str):Prop:=sc.names.lookup x=some .local\/sc.names.lookup x=some .cell\/sc.names.lookup x=some .free
def Loc(sc:Scope)(x:Str):Prop:=sc.names.lookup x=some .local\/sc.names.lookup x=some .cell
def Look(env:Env)(h:Heap)(m:RU)(x:Str)(u:Value):Prop:=
 (env.kindOf x=some .local/\m x=some u)\/((env.kindOf x=some .cell\/env.kindOf x=some .free)/\∃c,env.cells.lookup x=some c/\h.IsCell c (some u))
structure Cx.Ok(X:Cx):Prop where
 mod:Mod X.K X.mg X.base
 kind:X.env.scope.kind=.function
 glob:X.env.globals=mainGlobals
 blt:X.env.builtins=builtinsNs
 above:X.s₀.heap.objs.size<=X.env.locals
 inj:∀x y c,X.env.cells.lookup x=some c->X.env.cells.lookup y=some c->x=y
 has:∀x,(X.env.kindOf x=some .cell\/X.env.kindOf x=some .free)->∃c,X.env.cells.lookup x=some c
 cab:∀x c,X.fn x=true->X.env.cells.lookup x=some c->X.s₀.heap.objs.size<=c
 hd:X.calm=true->X.A.handled=none
 frames:X.A.frames=some X.stack
 stk:X.stack=X.outer\/(X.stack=X.env::X.outer/\X.env.frame=some X.env.locals)
 exf:∀b∈X.ex,b≠X.env.locals/\∀x c,X.env.cells.lookup x=some c->c≠b
 bs:∀b o,X.base.get? b=some o->X.s₀.heap.get? b=some o/\X.H₀ b=none
 bsz:X.base.objs.size<=X.s₀.heap.objs.size
 Hc:∀b o,X.base.get? b=some o->b∉X.ex
 Hd:∀b∈X.ex,b∉X.fs
 iH:X.s₀.heap.FunFrames X.base X.outer
 frf:∀b∈X.fs,X.H₀ b=none
structure Inv(X:Cx)(pins:RT)(σ:List (Option V))(H:Hp)(s:RZ):Prop where
 ok:X.Ok
 os:s.os=X.s₀.os
 bare:AllBare s.gens
 base:Un X.fs X.ex X.H₀ H X.s₀.heap s.heap
 loc:∃m,s.heap.Ns X.env.locals m/\∀(i:Nat)(x:Str)(v:V),X.N[i]?=some x->σ[i]?=some (some v)->Vis X.env.scope x->∃u,RelV v u/\Look X.env s.heap m x u
 cell:∀x c,X.env.cells.lookup x=some c->∃v,s.heap.IsCell c v
 free:H X.env.locals=none
 VD:∀x c,X.env.cells.lookup x=some c->H c=none
 pin:∀p∈X.pn++pins,s.heap.get? p.1=some p.2/\H p.1=none/\p.1≠X.env.locals/\p.1∉X.fs/\∀v,p.2.data≠.cell v
 hok:HOk X.prog X.w H s.heap
 len:σ.length=X.N.length
section
variable {X:Cx}{pins:RT}{σ:List (Option V)}{H H':Hp}{s:RZ}{h':Heap}
def Cx.Ok.Ra(ok:X.Ok)(e:X.base.get? b=some o):b∉X.fs:=λa=>by have:=(ok.iH.mem a).1;rw[e]at this;cases this
def Inv.bs(I:Inv X pins σ H s):∀b o,X.base.get? b=some o->s.heap.get? b=some o/\H b=none:=λb o e=>
 ⟨I.base.keep b o (I.ok.bs b o e).1 (I.ok.bs b o e).2 (I.ok.Ra e) (I.ok.Hc b o e),I.base.free b o (I.ok.bs b o e).1 (I.ok.bs b o e).2 (I.ok.Hc b o e)⟩
def Inv.bk(I:Inv X pins σ H s):∀b o,X.base.get? b=some o->s.heap.get? b=some o:=λb o e=>(I.bs b o e).1
def Inv.mod(I:Inv X pins σ H s):Mod X.K X.mg X.base:=I.ok.mod
def Inv.kIn(I:Inv X pins σ H s):X.K.In s.heap:=I.ok.mod.kin.keeps I.bk
def Inv.lt(I:Inv X pins σ H s):X.env.locals<s.heap.objs.size:=let⟨_,hn,_⟩:=I.loc;hn.lt
def Inv.sz(I:Inv X pins σ H s):X.s₀.heap.objs.size<=s.heap.objs.size:=a0l I.ok.above (a2f I.lt)
def Inv.Rb(I:Inv X pins σ H s)(h:`g<=a):a∉X.fs:=λb=>by obtain⟨_,o,c,_⟩:=I.ok.iH.mem b;exact absurd (T7 (S9 c) (a0l I.sz h)) (a0Q _)
def Inv.cne(I:Inv X pins σ H s):∀x c,X.env.cells.lookup x=some c->c≠X.env.locals:=λx c e z=>by obtain⟨v,o,f,d⟩:=I.cell x c e;obtain⟨m,⟨h,g,i,b,a,_⟩,_⟩:=I.loc;rw[z,b]at f;cases f;rw[a]at d;cases d
def Inv.iH(I:Inv X pins σ H s):s.heap.FunFrames X.base X.outer:=by
 have all:∀(l:List Env),(∀b∈frs l,b∈X.fs)->X.s₀.heap.FunFrames X.base l->s.heap.FunFrames X.base l:=by
  intro l
  induction l with
  |nil=>intro _ _;trivial
  |cons n r p=>intro d j;obtain⟨i,⟨L,o,hf,m,h,f⟩,g⟩:=j;have a:=d L (by unfold frs;rw[a2n,hf];exact v4);obtain⟨q,e⟩:=I.base.slot L o h (I.ok.frf L a) a λz=>I.ok.Hd L z a;exact⟨i,⟨L,_,hf,m,e,f⟩,p (λb c=>d b (by unfold frs;rw[a2n,hf];exact R9 _ c)) g⟩
 exact all X.outer (λ_ c=>c) I.ok.iH
def Inv.stack(I:Inv X pins σ H s):s.heap.FunFrames X.base X.stack:=by
 rcases I.ok.stk with e|⟨e,hf⟩
 .rw[e];exact I.iH
 .rw[e];obtain⟨m,a,_⟩:=I.loc;exact .cons (by rw[I.ok.kind];decide) hf a (Heap.get?_none_of_le (a0l I.ok.bsz I.ok.above)) I.iH
def Inv.bC(I:Inv X pins σ H s):∀b∈frs X.stack,b∈X.env.locals::X.fs:=λb a=>by
 rcases I.ok.stk with e|⟨e,hf⟩
 .rw[e]at a;exact R9 _ a
 .rw[e]at a;unfold frs at a;rw[a2n,hf]at a;exact a
def Inv.cE(I:Inv X pins σ H s):∀b∈frs X.stack,H b=none:=λb a=>by
 rcases T6.mp (I.bC b a)with e|a
 .rw[e];exact I.free
 .obtain⟨_,o,c,_⟩:=I.ok.iH.mem a;exact I.base.free b o c (I.ok.frf b a) λz=>I.ok.Hd b z a
def Inv.step{g':Array GenState}{t':Nat}{d':Drawn}{ch:SH}(I:Inv X pins σ H s)
  (j:∀b∈ch,(b∈X.ex\/X.s₀.heap.objs.size<=b)/\b≠X.env.locals/\(∀x c,X.env.cells.lookup x=some c->c≠b)/\∀p∈X.pn++pins,p.1≠b)
  (keep:∀b o,b≠X.env.locals->b∉X.fs->b∉ch->s.heap.get? b=some o->H b=none->h'.get? b=some o)
  (B:∀b o,b≠X.env.locals->b∈X.fs->b∉ch->s.heap.get? b=some o->H b=none->∃O,h'.get? b=some { o with slots:=O }) (f:∀b o,b∉ch->s.heap.get? b=some o->H b=none->H' b=none)
  (C:∀b o,b∉ch->s.heap.get? b=some o->∃F,h'.get? b=some F)
  (xb:∀b A,H b=some (.tup A)->H' b=some (.tup A)) (Y:∀b o u,H b=some (.frz o u)->H' b=some (.frz o u)) (Z:∀b L,H b=some (.tbl L)->∃K,H' b=some (.tbl (L++K)))
  (ns:∀m,s.heap.Ns X.env.locals m->h'.Ns X.env.locals m) (P:HOk X.prog X.w H' h') (hg:AllBare g'):
  Inv X pins σ H' { s with heap:=h',gens:=g',drawn:=d',toks:=t' }:=by
 have J:∀b o,X.s₀.heap.get? b=some o->b≠X.env.locals:=λb o e=>a0e (T7 (S9 e) I.ok.above);have w:∀b o,X.s₀.heap.get? b=some o->b∉X.ex->b∉ch:=λb o e a D=>by
  rcases(j b D).1 with z|z
  .exact a z
  .exact absurd (T7 (S9 e) z) (a0Q _)
 have h:∀x c,X.env.cells.lookup x=some c->∀v,s.heap.IsCell c v->h'.IsCell c v:=λx c e v ⟨o,E,M⟩=>by
  have g:=λz=>(j c z).2.2.1 x c e rfl;by_cases R:c∈X.fs
  .obtain⟨O,q⟩:=B c o (I.cne x c e) R g E (I.VD x c e);exact⟨_,q,M⟩
  .exact⟨o,keep c o (I.cne x c e) R g E (I.VD x c e),M⟩
 refine⟨I.ok,I.os,hg,⟨λb o e n D a=>?_,λb o e n D a=>?_,λb o e n a=>?_,λb o e a=>?_,λb A e=>xb b A (I.base.xb b A e),λb o A e=>Y b o A (I.base.CV b o A e),λb L e=>?_⟩,?_,λx c e=>?_,?_,λx c e=>?_,λp hp=>?_,P,I.len⟩
 .exact keep b o (J b o e) D (w b o e a) (I.base.keep b o e n D a) (I.base.free b o e n a)
 .obtain⟨O,y⟩:=I.base.slot b o e n D a;obtain⟨N,G⟩:=B b _ (J b o e) D (w b o e a) y (I.base.free b o e n a);exact⟨N,G⟩
 .obtain⟨F,y⟩:=I.base.there b o e a;exact f b F (w b o e a) y (I.base.free b o e n a)
 .obtain⟨F,y⟩:=I.base.there b o e a;exact C b F (w b o e a) y
 .obtain⟨T,y⟩:=I.base.ED b L e;obtain⟨m2,G⟩:=Z b _ y;exact⟨T++m2,by rw[G,Array.append_assoc]⟩
 .obtain⟨m,W,U⟩:=I.loc;refine⟨m,ns m W,λi x v y G e3=>?_⟩;obtain⟨u,r,l⟩:=U i x v y G e3;refine⟨u,r,?_⟩;rcases l with l|⟨k,c,e,z⟩
  .exact .inl l
  .exact .inr ⟨k,c,e,h x c e _ z⟩
 .obtain⟨v,z⟩:=I.cell x c e;exact⟨v,h x c e v z⟩
 .obtain⟨m,⟨o,_,_,E,_⟩,_⟩:=I.loc;exact f _ o (λz=>(j _ z).2.1 rfl) E I.free
 .obtain⟨v,o,E,M⟩:=I.cell x c e;exact f c o (λz=>(j c z).2.2.1 x c e rfl) E (I.VD x c e)
 .obtain⟨e,n,S,Q,d⟩:=I.pin p hp;have g:=λz=>(j p.1 z).2.2.2 p hp rfl;exact⟨keep p.1 p.2 S Q g e n,f p.1 p.2 g e n,S,Q,d⟩
def Inv.un(I:Inv X pins σ H s)(u:Un X.fs [] H H' s.heap h')(d:HOk X.prog X.w H' h'):Inv X pins σ H' { s with heap:=h',toks:=t' }:=by
 obtain⟨m,⟨o,x,v,h,r⟩,_⟩:=id I.loc;obtain⟨w,i⟩:=u.any h I.free (by simp);exact I.step (ch:=[]) (λ_ z=>nomatch z) (λb o _ c _ e n=>u.keep b o e n c (by simp)) (λb o _ c _ e n=>u.slot b o e n c (by simp)) (λb o _ e n=>u.free b o e n (by simp)) (λb o _ e=>u.there b o e (by simp)) u.xb u.CV u.ED (λq j=>by
  obtain⟨p,f,g,a,l⟩:=j;rw[h]at a;cases a;exact⟨_,f,g,i,l⟩) d I.bare
def Inv.call(I:Inv X pins σ H s)(u:Un (frs X.stack) ch H H' s.heap h')(h:HOk X.prog X.w H' h')(w:AllBare g')
  (f:∀b∈ch,(b∈X.ex\/X.s₀.heap.objs.size<=b)/\b≠X.env.locals/\(∀x c,X.env.cells.lookup x=some c->c≠b)/\∀p∈X.pn++pins,p.1≠b):
  Inv X pins σ H' { s with heap:=h',gens:=g',drawn:=d',toks:=t' }:=by
 obtain⟨m,⟨o,E,C,l,r⟩,_⟩:=id I.loc;obtain⟨D,g⟩:=u.any l I.free λz=>(f _ z).2.1 rfl;exact I.step f (λb o g v a e n=>u.keep b o e n (λz=>(T6.mp (I.bC b z)).elim g v) a) (λb o _ _ a e n=>u.any e n a) (λb o a e n=>u.free b o e n a) (λb o a e=>u.there b o e a) u.xb u.CV u.ED (λB q=>by
  obtain⟨A,i,j,d,y⟩:=q;rw[l]at d;cases d;exact⟨_,i,j,g,y⟩) h w
def Inv.turned(I:Inv X pins σ H s)(k:∀b o,b≠it->s.heap.get? b=some o->h'.get? b=some o)(l:H it=none)(f:it≠X.env.locals)
  (B:it∈X.ex\/X.s₀.heap.objs.size<=it) (w:∀x c,X.env.cells.lookup x=some c->c≠it) (y:∀p∈X.pn++pins,p.1≠it):Inv X pins σ H { s with heap:=h',toks:=t' }:=by
 have d:∀b u,H b=some u->b≠it:=λb u e z=>by rw[z,l]at e;cases e
 refine I.step (ch:=[it]) (λb h=>?_) (λb o _ _ a e _=>k b o (λz=>a (by simp[z])) e) (λb o _ _ a e _=>⟨o.slots,k b o (λz=>a (by simp[z])) e⟩) (λ_ _ _ _ n=>n)
  (λb o a e=>⟨o,k b o (λz=>a (by simp[z])) e⟩) (λ_ _ e=>e) (λ_ _ _ e=>e) (λb C e=>⟨#[],by rw[e];simp⟩) (λm g=>?_) (λb u e=>?_) I.bare
 .have e:=by simpa using h
  subst e;exact⟨B,f,w,y⟩
 .obtain⟨o,A,j,i,r⟩:=g;exact⟨o,A,j,k _ o (Ne.symm f) i,r⟩
 .refine(I.hok b u e).sR (λc v a q=>k c v ?_ q) (λ_ q=>q) λ_ _ q=>q;rcases a with z|z
  .rw[z];exact d b u e
  .exact d c _ z
def Inv.tok(I:Inv X pins σ H s)(t:Nat):Inv X pins σ H { s with toks:=t }:=I.un Un.refl I.hok
def Inv.kept(I:Inv X pins σ H s)(k:∀b u,s.heap.get? b=some u->h'.get? b=some u):Inv X pins σ H { s with heap:=h',toks:=t' }:=I.un (Un.kept k) (I.hok.kept k)
def Inv.laid(I:Inv X pins σ H s)(k:∀b u,s.heap.get? b=some u->h'.get? b=some u)(hp:`g<=a)(new:qu X.prog X.w (upd H a o) h' a o):
  Inv X pins σ (upd H a o) { s with heap:=h',toks:=t' }:=I.un (Un.laid k hp (I.hok.fresh hp)) (I.hok.laid k hp new)
def Inv.write(I:Inv X pins σ H s)(c:Mut (H x))(he:e=x\/H e=some (.own x))(k:∀b u,b≠e->s.heap.get? b=some u->h'.get? b=some u)(a:∃u,h'.get? e=some u)
  (new:qu X.prog X.w (upd H x o) h' x o):Inv X pins σ (upd H x o) { s with heap:=h',toks:=t' }:=I.un (Un.write c he k a) (I.hok.write c he k a new)
def Inv.cF(I:Inv X pins σ H s)(h:∀p∈pins',s.heap.get? p.1=some p.2/\H p.1=none/\p.1≠X.env.locals/\p.1∉X.fs/\∀v,p.2.data≠.cell v):Inv X pins' σ H s:=
 ⟨I.ok,I.os,I.bare,I.base,I.loc,I.cell,I.free,I.VD,λp hp=>(a0o.mp hp).elim (λz=>I.pin p (a1h _ z)) (h p),I.hok,I.len⟩
def m5{N:RS}(d:N.Nodup){i j:Nat}{x:Str}(a:N[i]?=some x)(b:N[j]?=some x):i=j:=by obtain⟨g,c⟩:=R8.mp a;obtain⟨f,e⟩:=R8.mp b;exact(List.getElem_inj d).mp (c.trans e.symm)
def fc(I:Inv X pins σ H s)(hN:X.N.Nodup)(T:X.N[i]?=some x)(B:Loc X.env.scope x)(r:RelV v u)
  (h:∀s',Inv X pins (σ.set i (some v)) H s'->(∃a,Heap.SameBut a s.heap s'.heap/\(a=X.env.locals\/X.env.cells.lookup x=some a))->Q () s') (hf:X.fn x=true\/X.env.scope.names.lookup x=some .local:=by first|exact .inl rfl|exact .inr rfl|assumption):wpAny M A (storeName X.env x u) Q E s:=by
 obtain⟨m,hn,hl⟩:=id I.loc;have N:(X.env.scope.kind == .class||(X.env.scope.kind == .module&&X.env.locals != X.env.globals))=false:=by rw[I.ok.kind];rfl
 have G:i<σ.length:=by rw[I.len];exact(R8.mp T).1
 have cne:=I.cne;have g:∀{a:Addr}{h':Heap},(∃o,s.heap.get? a=some o/\H a=none)->Heap.SameBut a s.heap h'->HOk X.prog X.w H h':=λ{a h'} ha f b ob e=>by
  obtain⟨_,_,C⟩:=ha;refine(I.hok b ob e).sR (λc U w q=>(f.2 c ?_).trans q) (λ_ q=>q) λ_ _ q=>q
  rintro rfl
  rcases w with rfl|w
  .rw[C]at e;cases e
  .rw[C]at w;cases w
 rcases B with F|F
 .refine wpAny_storeName_local F hn (λh' hn' f=>?_) N;obtain⟨oL,_,_,hoL,_⟩:=id hn;refine h _ ⟨I.ok,I.os,I.bare,⟨λb o e n J B=>?_,λb o e n J B=>?_,I.base.free,λb o e B=>?_,I.base.xb,I.base.CV,I.base.ED⟩,⟨_,hn',λj y v' l D e3=>?_⟩,λy c e=>?_,I.free,I.VD,λp hp=>?_,g ⟨oL,hoL,I.free⟩ f,by simpa using I.len⟩ ⟨_,f,.inl rfl⟩
  .exact(f.2 b (a0e (T7 (S9 e) I.ok.above))).trans (I.base.keep b o e n J B)
  .obtain⟨sl,l⟩:=I.base.slot b o e n J B;exact⟨sl,(f.2 b (a0e (T7 (S9 e) I.ok.above))).trans l⟩
  .obtain⟨o',l⟩:=I.base.there b o e B;exact⟨o',(f.2 b (a0e (T7 (S9 e) I.ok.above))).trans l⟩
  .by_cases K:j=i
   .subst K;rw[T]at l;cases l;rw[a0j G]at D;cases D;exact⟨u,r,.inl ⟨F,by simp⟩⟩
   .rw[T8 (Ne.symm K)]at D;obtain⟨Z,r',q⟩:=hl j y v' l D e3;refine⟨Z,r',?_⟩;rcases q with⟨k,e⟩|⟨k,c,e,z⟩
    .refine .inl ⟨k,?_⟩;have:y≠x:=λe=>K (m5 hN l (e▸T));simp[this,e]
    .exact .inr ⟨k,c,e,z.sameBut f (cne y c e)⟩
  .obtain⟨U,z⟩:=I.cell y c e;exact⟨U,z.sameBut f (cne y c e)⟩
  .obtain⟨e,n,Y,nf,d⟩:=I.pin p hp;exact⟨(f.2 p.1 Y).trans e,n,Y,nf,d⟩
 .have L:X.fn x=true:=by
   rcases hf with z|z
   .exact z
   .rw[z]at F;cases F
  obtain⟨c,w⟩:=I.ok.has x (.inl F);obtain⟨U,z⟩:=I.cell x c w;refine wpAny_storeName_cell I.ok.kind F w z (λh' O f=>?_);obtain⟨oc,S,R⟩:=id z;refine h { s with heap:=h' } ⟨I.ok,I.os,I.bare,⟨λb o e n J B=>?_,λb o e n J B=>?_,I.base.free,λb o e B=>?_,I.base.xb,I.base.CV,I.base.ED⟩,⟨m,hn.sameBut f (Ne.symm (cne x c w)),λj y v' l D e3=>?_⟩,λy W e=>?_,I.free,I.VD,λp hp=>?_,g ⟨oc,S,I.VD x c w⟩ f,by simpa using I.len⟩ ⟨c,f,.inr w⟩
  .exact(f.2 b (a0e (T7 (S9 e) (I.ok.cab x c L w)))).trans (I.base.keep b o e n J B)
  .obtain⟨sl,l⟩:=I.base.slot b o e n J B;exact⟨sl,(f.2 b (a0e (T7 (S9 e) (I.ok.cab x c L w)))).trans l⟩
  .obtain⟨o',l⟩:=I.base.there b o e B;exact⟨o',(f.2 b (a0e (T7 (S9 e) (I.ok.cab x c L w)))).trans l⟩
  .by_cases K:j=i
   .subst K;rw[T]at l;cases l;rw[a0j G]at D;cases D;exact⟨u,r,.inr ⟨.inl F,c,w,O⟩⟩
   .rw[T8 (Ne.symm K)]at D;obtain⟨Z,r',q⟩:=hl j y v' l D e3;refine⟨Z,r',?_⟩;rcases q with q|⟨k,W,e,z'⟩
    .exact .inl q
    .refine .inr ⟨k,W,e,z'.sameBut f ?_⟩
     rintro rfl
     exact K (m5 hN l (I.ok.inj _ _ _ e w▸T))
  .by_cases P:W=c
   .subst P;exact⟨_,O⟩
   .obtain⟨w2,z2⟩:=I.cell y W e;exact⟨w2,z2.sameBut f P⟩
  .obtain⟨e,n,Y,nf,d⟩:=I.pin p hp;refine⟨(f.2 p.1 ?_).trans e,n,Y,nf,d⟩;intro q;rw[q,S]at e;have q':=a0y e;exact d U `c
def cG(I:Inv X pins σ H s)(c:X.N.Nodup)(d:X.N[i]?=some x)(b:Loc X.env.scope x)(r:RelV v u)
  (h:∀a,Inv X pins (σ.set i (some v)) H a->Q () a) (hf:X.fn x=true\/X.env.scope.names.lookup x=some .local:=by first|exact .inl rfl|exact .inr rfl|assumption):wpAny M A (storeName X.env x u) Q E s:=
 fc I c d b r (λa e _=>h a e) hf
def Inv.Hz(I:Inv X pins σ H s)(l:s'.os=s.os)(u:Un (frs X.stack) ch H H' s.heap s'.heap)(d:HOk X.prog X.w H' s'.heap)(j:AllBare s'.gens)
  (a:∀b∈ch,(b∈X.ex\/X.s₀.heap.objs.size<=b)/\b≠X.env.locals/\(∀x c,X.env.cells.lookup x=some c->c≠b)/\∀p∈X.pn++pins,p.1≠b):Inv X pins σ H' s':=by
 obtain⟨h',h,f,g,i⟩:=s';have e:=l;subst e;exact I.call u d j a
end
abbrev XK:=Value->Option Addr->Hp->Prop
abbrev St:=List (Option V)
abbrev VK:=V->Hp->Prop
abbrev TE:=St->Hp->VK->Prop
abbrev TT:=St->Hp->(Bool->Hp->Prop)->Prop
abbrev TA:=St->Hp->(List V->Hp->Prop)->Prop
structure Ends where
 nx:St->Hp->Prop
 rt:VK
 bk:St->Hp->Prop:=λ_ _=>False
 ct:St->Hp->Prop:=λ_ _=>False
abbrev TS:=Ends->St->Hp->Prop
def EP(X:Cx)(pins:RT)(σ:St)(Q:VK)(u:Value)(b:RZ):Prop:=∃v a,Inv X pins σ a b/\RelV v u/\Q v a
def TP(X:Cx)(pins:RT)(σ:St)(Q:Bool->Hp->Prop)(b:Bool)(c:RZ):Prop:=∃a,Inv X pins σ a c/\Q b a
def AP(X:Cx)(pins:RT)(σ:St)(Q:List V->Hp->Prop)(us:Sa)(c:RZ):Prop:=∃a b,Inv X pins σ b c/\Vals a us/\Q a b
def SP(X:Cx)(pins:RT)(D:Ends)(f:Flow)(c:RZ):Prop:=
 match f with
 |.next=>∃a b,Inv X pins a b c/\D.nx a b
 |.brk=>∃a b,Inv X pins a b c/\D.bk a b
 |.cont=>∃a b,Inv X pins a b c/\D.ct a b
 |.ret u=>∃v a b,Inv X pins a b c/\RelV v u/\D.rt v b
def PE(X:Cx)(e:Sf)(t:TE):Prop:=
 ∀(a:RT)(s:RZ)(b:St)(H:Hp)(Q:VK),Inv X a b H s->t b H Q->wpAny (Ts X) X.A (eval e X.env) (EP X a b Q) X.xe s
def PT(X:Cx)(e:Sf)(t:TT):Prop:=
 ∀(a:RT)(s:RZ)(b:St)(H:Hp)(Q:Bool->Hp->Prop),Inv X a b H s->t b H Q->wpAny (Ts X) X.A (isTrue e X.env (eval e X.env)) (TP X a b Q) X.xe s
def PW(X:Cx)(e:Sf)(t:TT):Prop:=
 ∀(b:Sem Value)(a:RT)(s:RZ)(c:St)(H:Hp)(Q:Bool->Hp->Prop),Inv X a c H s->t c H Q->wpAny (Ts X) X.A (isTrue e X.env b) (TP X a c Q) X.xe s
def PW.pt(h:PW X e t):PT X e t:=h _
def PA(X:Cx)(es:Sd)(t:TA):Prop:=
 ∀(b:Pos)(a:RT)(s:RZ)(c:St)(H:Hp)(Q:List V->Hp->Prop),Inv X a c H s->t c H Q->wpAny (Ts X) X.A (spliced (backTo b (starEach es X.env))) (AP X a c Q) X.xe s
def PS(X:Cx)(st:SN)(t:TS):Prop:=
 ∀(a:RT)(s:RZ)(b:St)(H:Hp)(D:Ends),Inv X a b H s->t D b H->wpAny (Ts X) X.A (exec st X.env) (SP X a D) X.xe s
def PSs(X:Cx)(st:SE)(t:TS):Prop:=
 ∀(a:RT)(s:RZ)(b:St)(H:Hp)(D:Ends),Inv X a b H s->t D b H->wpAny (Ts X) X.A (execs st X.env) (SP X a D) X.xe s
def thn{b:Type}{t:Sem b}{Q c:b->Shared->Prop}(h:wpAny M A t Q E s)(d:∀a s,Q a s->c a s):wpAny M A t c E s:=a0G h d λ_ _ x=>x
section
variable {X:Cx}
def pH(i:Nat):TE:=λa H Q=>∃v,a[i]?=some (some v)/\Q v H
def tC(v:V):TE:=λ_ H Q=>Q v H
def HB(z:X.N[i]?=some x)(y:Vis X.env.scope x)(g:(x==("__debug__":Str))=false:=by decide)(j:(x==("__classdict__":Str))=false:=by decide):PE X (.Name x pos) (pH i):=by
 intro f s p H Q I h;obtain⟨v,e,h⟩:=h;obtain⟨m,w,q⟩:=I.loc;obtain⟨u,r,l⟩:=q i x v z e y;have d:EP X f p Q u s:=⟨v,H,I,r,h⟩;rcases l with⟨b,o⟩|⟨b,c,n,a⟩
 .exact wpAny_Name (a3k I.ok.kind b w o d) g
 .rcases b with b|b
  .exact wpAny_Name (a3v I.ok.kind b n a d) g
  .exact wpAny_Name (wpAny_loadName_free I.ok.kind b n a d j) g
def HD{i j pos}:PE X (.Constant (.int i) j pos) (tC (.int i)):=λ_ _ _ H _ I h=>wpAny_Constant_int ⟨.int i,H,I.tok _,⟨_,rfl⟩,h⟩
def Y1{b j pos}:PE X (.Constant (.bool b) j pos) (tC (.bl b)):=λ_ _ _ H _ I h=>Constant_bool ⟨.bl b,H,I,rfl,h⟩
def fe{j pos}:PE X (.Constant .none j pos) (tC .non):=λ_ _ _ H _ I h=>Constant_none ⟨.non,H,I,rfl,h⟩
def KJ{x j pos}:PE X (.Constant (.str x) j pos) (tC (.str x)):=λ_ _ _ H _ I h=>Calls.Constant_str ⟨.str x,H,I.tok _,⟨_,rfl⟩,h⟩
def Gl(X:Cx)(x:Str):Prop:=X.env.kindOf x=some .globalImplicit
def X9(I:Inv X pins σ H s)(b:Gl X x)(a:X.mg x=some u)(h:Q u s)
  (c:(x==("__debug__":Str))=false:=by decide):wpAny (Ts X) X.A (eval (.Name x pos) X.env) Q E s:=
 a2u I.ok.kind b (Calls.loadGlobal_global (by rw[I.ok.glob];exact I.mod.glob.keeps I.bk) a h) c
def bD(I:Inv X pins σ H s)(b:Gl X x)(d:X.mg x=none)(g:bootBuiltins x=some u)(h:Q u s)
  (c:x≠"__name__":=by decide) (e:(x==("__debug__":Str))=false:=by decide):wpAny (Ts X) X.A (eval (.Name x pos) X.env) Q E s:=by
 obtain⟨i,f,a⟩:=I.mod.blt;exact a2u I.ok.kind b (Calls.loadGlobal_builtin (by rw[I.ok.glob];exact I.mod.glob.keeps I.bk) d (by rw[I.ok.blt];exact f.keeps I.bk) ((a x c).trans g) h) e
def zR(a:Gl X x)(b:X.mg x=some u)(r:RelV v u)(c:(x==("__debug__":Str))=false:=by decide):PE X (.Name x pos) (tC v):=
 λ_ _ _ H _ I h=>X9 I a b ⟨v,H,I,r,h⟩ c
def EG(a:Gl X x)(c:X.mg x=none)(e:bootBuiltins x=some u)(r:RelV v u)(b:x≠"__name__":=by decide)(d:(x==("__debug__":Str))=false:=by decide):PE X (.Name x pos) (tC v):=
 λ_ _ _ H _ I h=>bD I a c e ⟨v,H,I,r,h⟩ b d
variable {a b:Sf}{ta tb:TE}{pos:Pos}
def XF(b:Sf)(h:op≠.In)(c:op≠.NotIn):behindInMarks op b=false:=by
 have d:(op==CmpOp.In)=false:=by cases op<;>first|rfl|exact absurd rfl h
 have e:(op==CmpOp.NotIn)=false:=by cases op<;>first|rfl|exact absurd rfl c
 cases b<;>simp[behindInMarks,d,e]
def tB(t:TE):TT:=λe H Q=>t e H λx d=>∃c,x=.bl c/\Q c d
def HF(h:PE X e t)(he:∀c,isTrue e X.env c=(do let v<-c;standAt e.pos;holding [v] (truthy v)):=by intro _;rfl):PT X e (tB t):=by intro f s n H Q I m;refine isTrue_plain (thn (h f s n H _ I m) λv o ⟨x,i,j,g,l⟩=>?_) (he _);obtain⟨d,rfl,q⟩:=l;cases g;exact a2B ⟨i,j,q⟩
variable {tA tB':TT}{rest:Sd}
def Rc(t u:TT):TT:=λe H Q=>t e H λc d=>if c=true then u e d Q else Q false d
def tOr(t u:TT):TT:=λe H Q=>t e H λc d=>if c=true then Q true d else u e d Q
def Rf(t:TT):TT:=λe H Q=>t e H λc d=>Q (!c) d
def pw_and1(g:PT X a tA):PW X (.BoolOp .And [a] pos) tA:=by
 intro j d s f H Q I h;refine isTrue_and (thn (g d s f H Q I h) λc i e=>?_);cases c with
 |true=>exact isTrue_and_nil e
 |false=>exact e
def pw_or1(g:PT X a tA):PW X (.BoolOp .Or [a] pos) tA:=by
 intro j d s f H Q I h;refine isTrue_or (thn (g d s f H Q I h) λc i e=>?_);cases c with
 |false=>exact isTrue_or_nil e
 |true=>exact e
def pw_and(n:PT X a tA)(m:PW X (.BoolOp .And (b::rest) pos) tB'):PW X (.BoolOp .And (a::b::rest) pos) (Rc tA tB'):=by
 intro l d s e H Q I h;refine isTrue_and (thn (n d s e H _ I h) λc j ⟨g,f,i⟩=>?_);cases c with
 |true=>exact m l d j e g Q f i
 |false=>exact⟨g,f,i⟩
def pw_or(n:PT X a tA)(m:PW X (.BoolOp .Or (b::rest) pos) tB'):PW X (.BoolOp .Or (a::b::rest) pos) (tOr tA tB'):=by
 intro l d s e H Q I h;refine isTrue_or (thn (n d s e H _ I h) λc j ⟨g,f,i⟩=>?_);cases c with
 |true=>exact⟨g,f,i⟩
 |false=>exact m l d j e g Q f i
def HI(g:PT X a tA):PT X (.UnaryOp .Not a pos) (Rf tA):=by intro d s e H Q I h;exact isTrue_not (g d s e H (λc f=>Q (!c) f) I h)
def NV(ta tb:TE):TE:=λe H Q=>ta e H λx d=>∃c,x=.bl c/\if c=true then tb e d Q else Q (.bl false) d
def C1{op}(h:PE X a t):PE X (.BoolOp op [a] pos) t:=λc s e H Q I d=>BoolOp_one (h c s e H Q I d)
def C2(m:PE X a ta)(n:PE X (.BoolOp .And (b::rest) pos) tb):PE X (.BoolOp .And (a::b::rest) pos) (NV ta tb):=by
 intro d s i H Q I h;refine BoolOp_and (thn (m d s i H _ I h) λv j ⟨x,f,g,l,e⟩=>?_);obtain⟨c,rfl,e⟩:=e;cases l;refine a2B ?_;cases c with
 |true=>exact n d j i f Q g e
 |false=>exact⟨.bl false,f,g,rfl,e⟩
end
def SqL(K:Sg)(H:Hp)(a:Addr)(xs:Sh):Prop:=
 Rd H a (.lst xs)\/
  ∃(o:Obj)(b:SJ)(n:Nat),K.lookup a=some o/\o.cls=.type "list"/\o.dict=none/\o.data=.seq b n/\b.size<=sizeLine/\Vals xs b.toList
def SqT(K:Sg)(H:Hp)(a:Addr)(xs:Sh):Prop:=
 Rd H a (.tup xs)\/
  ∃(o:Obj)(b:SJ)(n:Nat),K.lookup a=some o/\o.cls=.type "tuple"/\o.data=.seq b n/\b.size<=sizeLine/\Vals xs b.toList
def Rg:Value->Option V
 |.none=>some .non
 |.bool b=>some (.bl b)
 |.int i _=>some (.int i)
 |.str x _=>some (.str x)
 |.bytes b _=>some (.byt b)
 |.float b _=>some (.flt b)
 |.ref a=>some (.ref a)
 |.type n=>some (.ty n)
 |_=>none
def RelV.abs(r:RelV x u):Rg u=some x:=by
 cases x with
 |non=>cases r;rfl
 |bl _=>cases r;rfl
 |int _=>obtain⟨t,rfl⟩:=r;rfl
 |str _=>obtain⟨t,rfl⟩:=r;rfl
 |byt _=>obtain⟨t,rfl⟩:=r;rfl
 |flt _=>obtain⟨t,rfl⟩:=r;rfl
 |ref _=>cases r;rfl
 |ty _=>cases r;rfl
def RelV.inj(r:RelV x u)(q:RelV y u):x=y:=a0y (r.abs.symm.trans q.abs)
theorem Vals.inj:∀{c a:Sh}{b:Sa},Vals c b->Vals a b->c=a
 |_,_,_,.nil,.nil=>rfl
 |_,_,_,.cons r t,.cons d e=>by rw[r.inj d,Vals.inj t e]
def SqL.of{K:Sg}(h:H a=some (.lst xs)):SqL K H a xs:=.inl (.inl h)
def SqT.of{K:Sg}(h:H a=some (.tup xs)):SqT K H a xs:=.inl (.inl h)
def Inv.list(I:Inv X pins σ H s)(h:SqL X.K H a xs):∃b:List Value,Vals xs b/\PlainL s.heap a b.toArray/\xs.length<=sizeLine:=by
 rcases h with h|⟨o,b,n,g,f,d,c,hz,r⟩
 .obtain⟨z,b,n,r,e⟩:=h.ok I.hok;exact⟨b,r,⟨_,n,e,rfl,rfl,rfl⟩,z⟩
 .refine⟨b.toList,r,⟨o,n,I.kIn a o g,f,d,by simpa using c⟩,?_⟩;have e:=r.length;simp only[Array.length_toList]at e;omega
def Inv.tuple(I:Inv X pins σ H s)(h:SqT X.K H a xs):∃b:List Value,Vals xs b/\IsTup s.heap a b.toArray/\xs.length<=sizeLine:=by
 rcases h with h|⟨o,b,n,f,d,c,hz,r⟩
 .obtain⟨z,b,r,p⟩:=h.ok I.hok;exact⟨b,r,p,z⟩
 .refine⟨b.toList,r,⟨o,I.kIn a o f,d,n,by simpa using c⟩,?_⟩;have e:=r.length;simp only[Array.length_toList]at e;omega
def Inv.AZ(I:Inv X pins σ H s)(h:SqL X.K H a xs)(h':SqL X.K H a ys):xs=ys:=by
 obtain⟨c,r,⟨o,n,e,_,_,d⟩,_⟩:=I.list h;obtain⟨b,i,⟨j,l,f,_,_,g⟩,_⟩:=I.list h';rw[e]at f;cases f;rw[d]at g;injection g with d1 _
 have:c=b:=by simpa using a0K Array.toList d1
 subst this;exact r.inj i
def Inv.ff(I:Inv X pins σ H s)(h:SqT X.K H a xs)(h':SqT X.K H a ys):xs=ys:=by
 obtain⟨c,r,⟨o,e,_,n,d⟩,_⟩:=I.tuple h;obtain⟨b,i,⟨j,f,_,l,g⟩,_⟩:=I.tuple h';rw[e]at f;cases f;rw[d]at g;injection g with d1 _
 have:c=b:=by simpa using a0K Array.toList d1
 subst this;exact r.inj i
abbrev Cx.eY(X:Cx)(E:RX):Cx:={ X with xe:=E }
abbrev Cx.nox(X:Cx):Cx:=X.eY λ_ _=>False
def Cx.Ok.eY{X:Cx}(ok:X.Ok)(E:RX):(X.eY E).Ok:=
 ⟨ok.mod,ok.kind,ok.glob,ok.blt,ok.above,ok.inj,ok.has,ok.cab,ok.hd,ok.frames,ok.stk,ok.exf,ok.bs,ok.bsz,ok.Hc,ok.Hd,ok.iH,ok.frf⟩
def Cx.Ok.Yt{X:Cx}{E:RX}(ok:(X.eY E).Ok):X.Ok:=
 ⟨ok.mod,ok.kind,ok.glob,ok.blt,ok.above,ok.inj,ok.has,ok.cab,ok.hd,ok.frames,ok.stk,ok.exf,ok.bs,ok.bsz,ok.Hc,ok.Hd,ok.iH,ok.frf⟩
def Inv.eY(I:Inv X pins σ H s)(E:RX):Inv (X.eY E) pins σ H s:=⟨I.ok.eY E,I.os,I.bare,I.base,I.loc,I.cell,I.free,I.VD,I.pin,I.hok,I.len⟩
def Inv.Yt(I:Inv (X.eY E) pins σ H s):Inv X pins σ H s:=⟨I.ok.Yt,I.os,I.bare,I.base,I.loc,I.cell,I.free,I.VD,I.pin,I.hok,I.len⟩
def SP.Yt(h:SP (X.eY E) pins D f s'):SP X pins D f s':=by
 cases f with
 |next=>obtain⟨a,b,I,q⟩:=h;exact⟨a,b,I.Yt,q⟩
 |brk=>obtain⟨a,b,I,q⟩:=h;exact⟨a,b,I.Yt,q⟩
 |cont=>obtain⟨a,b,I,q⟩:=h;exact⟨a,b,I.Yt,q⟩
 |ret u=>obtain⟨v,a,b,I,r,q⟩:=h;exact⟨v,a,b,I.Yt,r,q⟩
section
variable {X:Cx}{st:SN}{rest:SE}{t u:TS}{e:Sf}{te:TE}{pos:Pos}
def NW:TS:=λD a H=>D.nx a H
def NX(t u:TS):TS:=λD a H=>t { D with nx:=u D } a H
def sU:PSs X [] NW:=λ_ _ a H _ I h=>a1N ⟨a,H,I,h⟩
def XG(g:PS X st t)(d:PSs X rest u):PSs X (st::rest) (NX t u):=by
 intro a s j H D I h;refine wpAny_execs_cons (thn (g a s j H { D with nx:=u D } I h) λf c q=>?_);cases f with
 |next=>obtain⟨b,l,i,q⟩:=q;exact d a c b l D i q
 |ret v=>exact q
 |brk=>exact q
 |cont=>exact q
def j4(b:PS X st t):PSs X [st] t:=by
 intro a s c H D I h;refine wpAny_execs_cons (thn (b a s c H D I h) λf d q=>?_);cases f with
 |next=>exact a1N q
 |ret v=>exact q
 |brk=>exact q
 |cont=>exact q
def Inv.quiet(I:Inv X pins σ H s):interactive X.env=false:=by simp[interactive,I.ok.kind]
def NY(te:TE):TS:=λD a H=>te a H λ_ b=>D.nx a b
def Y6(he:PE X e te)(c:swapsWith e none pos.line X.env=pure false:=by rfl):PS X (.Expr e pos) (NY te):=by intro a s b H D I h;exact wpAny_Expr_any (thn (he a s b H _ I h) λv i ⟨x,d,f,j,g⟩=>⟨b,d,f,g⟩) I.quiet c
def Rh(te:TE):TS:=λD a H=>te a H D.rt
def m6(he:PE X e te):PS X (.Return (some e) pos) (Rh te):=by intro a s b H D I h;exact wpAny_Return_some (thn (he a s b H _ I h) λv i ⟨x,f,d,c,g⟩=>⟨x,b,f,d,c,g⟩)
def Ri(c:TT)(t u:TS):TS:=λD a H=>c a H λb d=>if b=true then t D a d else u D a d
def HJ(o:PT X c tc)(n:PSs X a t)(p:PSs X b u):PS X (.If c a b pos) (Ri tc t u):=by
 intro f s g H D I h;refine wpAny_If (thn (o f s g H _ I h) λd i ⟨l,j,m⟩=>?_);cases d with
 |true=>exact n f i g l D j m
 |false=>exact p f i g l D j m
end
abbrev TG:=V->St->Hp->(St->Hp->Prop)->Prop
abbrev TGs:=List V->St->Hp->(St->Hp->Prop)->Prop
def PG(X:Cx)(a:Sf)(t:TG):Prop:=
 ∀(b:RT)(s:RZ)(d:St)(H:Hp)(v:V)(u:Value)(Q:St->Hp->Prop),Inv X b d H s->RelV v u->t v d H Q->
  wpAny (Ts X) X.A (assign a X.env u) (λ_ f=>∃c e,Inv X b c e f/\Q c e) X.xe s
def PGs(X:Cx)(ts:Sd)(t:TGs):Prop:=
 ∀(a:RT)(s:RZ)(e:St)(H:Hp)(c:Sh)(d:Sa)(Q:St->Hp->Prop),Inv X a e H s->Vals c d->t c e H Q->
  wpAny (Ts X) X.A (assignInOrder ((assignEach ts X.env).map (·.2)) d) (λ_ g=>∃b f,Inv X a b f g/\Q b f) X.xe s
abbrev Pj:=V->V->V->Hp->(Hp->Prop)->Prop
def Pk(X:Cx)(t:Pj):Prop:=
 ∀(a:RT)(s:RZ)(d:St)(H:Hp)(o i v:V)(b c u:Value)(Q:Hp->Prop),Inv X a d H s->RelV o b->RelV i c->RelV v u->t o i v H Q->
  wpAny (Ts X) X.A (setItem b c u) (λ_ f=>∃e,Inv X a d e f/\Q e) X.xe s
abbrev TIp:=V->V->Hp->VK->Prop
def PIp(X:Cx)(c:Operator)(t:TIp):Prop:=
 ∀(a:RT)(s:RZ)(b:St)(H:Hp)(x y:V)(v u:Value)(Q:VK),Inv X a b H s->RelV x v->RelV y u->t x y H Q->
  wpAny (Ts X) X.A (inplaceOp c v u) (EP X a b Q) X.xe s
section
variable {X:Cx}{pos:Pos}
def iP(i:Nat):TG:=λv a H Q=>Q (a.set i (some v)) H
def sV(c:X.N.Nodup)(d:X.N[i]?=some x)(b:Loc X.env.scope x)(hf:X.fn x=true\/X.env.scope.names.lookup x=some .local:=by first|exact .inl rfl|exact .inr rfl|assumption):PG X (.Name x pos) (iP i):=by intro a s g H v u Q I r h;exact wpAny_assign_Name (cG I c d b r (λf e=>⟨_,H,e,h⟩) hf)
def Rj:TGs:=λa b H Q=>a=[]/\Q b H
def NZ(t:TG)(u:TGs):TGs:=λb c H Q=>∃v r,b=v::r/\t v c H λa d=>u r a d Q
def EH:PGs X [] Rj:=by intro a s b H c d Q I r h;obtain⟨e,h⟩:=h;subst e;cases r;exact assignInOrder_nil ⟨b,H,I,h⟩
def A4(o:PG X e t)(l:PGs X es u)
  (i:(assignEach (e::es) X.env).map (·.2)=assign e X.env::(assignEach es X.env).map (·.2):=by rfl):PGs X (e::es) (NZ t u):=by
 intro a s c H p q Q I r h;obtain⟨v,w,d,h⟩:=h;subst d;cases r with
 |cons r n=>rw[i];exact assignInOrder_cons (thn (o a s c H _ _ _ I r h) λ_ f ⟨b,m,j,g⟩=>(l a f b m _ _ Q j n g))
def Rk(K:Sg)(n:Nat)(t:TGs):TG:=λv c H Q=>∃a b,v=.ref a/\SqT K H a b/\b.length=n/\t b c H Q
def HK(y:X.calm=true)(h:PGs X es t)
  (w:(assignEach es X.env).length=n:=by rfl) (f:(assignEach es X.env).findIdx? (·.1)=none:=by rfl):PG X (.Tuple es k pos) (Rk X.K n t):=by
 intro c s g H v u Q I r d;obtain⟨a,A,m,x,p,d⟩:=d;subst m;cases r;obtain⟨B,i,q,hz⟩:=I.tuple x;refine assign_Tuple_tuple (I.ok.hd y) q (by simp[w,<- p,i.length]) f λl j=>?_;have z:=I.kept (t':=s.toks) λb o e=>j b o (a0e (S9 e)) e;exact h c _ g H A _ Q z (by simpa using i) d
def Rl(b f:TE)(t:Pj):TG:=λv a H Q=>b a H λo d=>f a d λi c=>t o i v c λe=>Q a e
def HL(m:PE X o to)(E:PE X i ti)(A:Pk X t)
  (l:∀v,assign (.Subscript o i pos) X.env v=(do
   let b<-holding [v] (eval o X.env)
   let c<-holding [v,b] (eval i X.env)
   standAt pos
   holding [v,b,c] (setItem b c v)
   release [v,b,c] []):=by intro _;rfl):PG X (.Subscript o i pos) (Rl to ti t):=by
 intro a s d H v u Q I r h;refine u8 (a0N (thn (m a s d H _ I h) λb p ⟨x,C,B,z,q⟩=>?_));refine u8 (a0N (thn (E a p d C _ B q) λc s2 ⟨y,e,D,j,n⟩=>?_));exact u8 (a1L (u8 (a0N (thn (A a s2 d e x y v b c u _ D z j r n) λ_ F ⟨f,g,w⟩=>(wpAny_release ⟨d,f,g,w⟩)))))
def Hh(c:TE)(g:TG):TS:=λD a H=>c a H λx b=>g x a b D.nx
def HN(he:PE X e te)(n:PG X tg g)(i:swapsWithSole [tg] e pos.line X.env=pure false:=by rfl)(m:swappedStores [tg] e X.env=pure none:=by rfl)
  (o:(assignEach [tg] X.env).map (·.2)=[assign tg X.env]:=by rfl):PS X (.Assign [tg] e pos) (Hh te g):=by
 intro a s b H D I h;refine wpAny_Assign_stores (thn (he a s b H _ I h) λv c ⟨x,j,l,f,d⟩=>?_) i m;rw[o];exact thn (n a c b j x v _ l f d) λ_ s2 q=>q
def sW(o:X.N.Nodup)(n:X.N[i]?=some x)(b:Loc X.env.scope x)(he:PE X e te)(g:swapsWith e (some (.Name x pos')) pos.line X.env=pure false:=by rfl)(hf:X.fn x=true\/X.env.scope.names.lookup x=some .local:=by first|exact .inl rfl|exact .inr rfl|assumption):
  PS X (.Assign [.Name x pos'] e pos) (Hh te (iP i)):=by
 intro a s c H D I h;exact wpAny_Assign_Name (thn (he a s c H _ I h) λv p ⟨y,l,j,f,d⟩=>(cG j o n b f (λs2 m=>⟨_,l,m,d⟩) hf)) g
def Rm(i:Nat)(d:TE)(e:TIp):TS:=λD a H=>∃x,a[i]?=some (some x)/\d a H λy c=>e x y c λz b=>D.nx (a.set i (some z)) b
def HP(T:X.N.Nodup)(q:X.N[i]?=some x)(j:Loc X.env.scope x)(he:PE X e te)(F:PIp X op ti)(hf:X.fn x=true\/X.env.scope.names.lookup x=some .local:=by first|exact .inl rfl|exact .inr rfl|assumption):
  PS X (.AugAssign (.Name x pos') op e pos) (Rm i te ti):=by
 intro a s o H D I h;obtain⟨v,J,h⟩:=h;obtain⟨m,N,L⟩:=I.loc;have n:Vis X.env.scope x:=by rcases j with k|k;exact .inl k;exact .inr (.inl k)
 obtain⟨u,r,l⟩:=L i x v q J n;refine wpAny_AugAssign_Name ?_;have p:wpAny (Ts X) X.A (eval e X.env) (λw g=>wpAny (Ts X) X.A (inplaceOp op u w) (λr f=>wpAny (Ts X) X.A (storeName X.env x r) (λ_=>SP X a D .next) X.xe f) X.xe g) X.xe s:=by refine thn (he a s o H _ I h) λw K ⟨y,Q,R,P,M⟩=>?_;exact thn (F a K o Q v y u w _ R r P M) λz s2 ⟨U,A,S,E,G⟩=>(cG S T q j E (λW C=>⟨_,A,C,G⟩) hf)
 rcases l with⟨b,B⟩|⟨b,c,O,d⟩
 .exact a3k I.ok.kind b N B p
 .rcases b with b|b
  .exact a3v I.ok.kind b O d p
  .rcases j with k|k
   .have:X.env.scope.names.lookup x=some .free:=b;rw[k]at this;cases this
   .have:X.env.scope.names.lookup x=some .free:=b;rw[k]at this;cases this
def ipI(f:Int->Int->Int):TIp:=λx y H Q=>∃i j,x=.int i/\y=.int j/\Q (.int (f i j)) H
def HQ:PIp X .Add (ipI λi j=>i+j):=by intro a s f H x y v u Q I e b h;obtain⟨i,j,c,d,q⟩:=h;subst c;subst d;obtain⟨t,rfl⟩:=e;obtain⟨g,rfl⟩:=b;exact iadd_int ⟨.int _,H,I.tok _,⟨_,rfl⟩,q⟩
def C3(c:TT)(tb:TS):TS:=λD a H=>∃W:Nat->St->Hp->Prop,(∃m,W m a H)/\∀m a H,W m a H->
 c a H λb e=>if b=true then ∃N:St->Hp->Prop,(∀d g,N d g->∃f,f<m/\W f d g)/\tb { D with nx:=N,ct:=N,bk:=D.nx } a e else D.nx a e
def A5(hp:PassesOwn (Ts X) X.A X.env X.xe)(J:PT X c tc)(C:PSs X body tb):PS X (.While c body [] pos) (C3 tc tb):=by
 intro a s E H D I h;obtain⟨W,⟨K,M⟩,i⟩:=h;refine wpAny_While (codeAny_whileLoop (λn G=>∃j x,Inv X a j x G/\W n j x) ?_ K ⟨E,H,I,M⟩)
 rintro n F ⟨e,y,L,B⟩
 refine a1e hp (thn (J a F e y _ L (i n e y B)) λb s2 ⟨w,z,l⟩=>?_);cases b with
 |true=>
  obtain⟨N,A,l⟩:=l;refine a1e hp (thn (C a s2 e w _ z l) λf O m=>?_);cases f with
  |next=>obtain⟨d,g,q,r⟩:=m;obtain⟨p,o,u⟩:=A d g r;exact⟨p,o,d,g,q,u⟩
  |cont=>obtain⟨d,g,q,r⟩:=m;obtain⟨p,o,u⟩:=A d g r;exact⟨p,o,d,g,q,u⟩
  |brk=>exact m
  |ret v=>exact m
 |false=>exact a1N ⟨e,w,z,l⟩
end
structure It where
 go:Nat->Hp->Prop
 yld:Nat->Hp->V->Hp->Prop
 stop:Nat->Hp->Prop
def pJ(X:Cx)(pins:RT)(H:Hp)(b:Addr):Prop:=
 H b=none/\b≠X.env.locals/\b∉X.fs/\(b∈X.ex\/X.s₀.heap.objs.size<=b)/\(∀x c,X.env.cells.lookup x=some c->c≠b)/\∀p∈X.pn++pins,p.1≠b
def Inv.Hi(I:Inv X pins σ H s)(a:`g<=b)(d:H' b=none):pJ X pins H' b:=by
 refine⟨d,a1B (T7 I.lt a),I.Rb a,.inr (a0l I.sz a),λx c e z=>?_,λp hp z=>?_⟩
 .obtain⟨v,q⟩:=I.cell x c e;exact absurd (T7 q.lt `c) (a0Q _)
 .exact absurd (T7 (S9 (I.pin p hp).1) `c) (a0Q _)
structure Turn(P:Sl)(w:So)(K:Sg)(tg:Sf)(J:It)(fp:SH)(it:Addr)(tn:Nat->Heap->Prop):Prop where
 mem:it∈fp
 obj:∀i h,tn i h->∀b∈fp,∃o,h.get? b=some o/\∀v,o.data≠.cell v
 keep:∀i h h',tn i h->(∀b∈fp,∀o,h.get? b=some o->h'.get? b=some o)->tn i h'
 item:∀(X:Cx),X.prog=P->X.w=w->X.K=K->X.calm=true->∀(i:Nat)(pins:RT)(s:RZ)(σ:St)(H:Hp)(E:RX),Inv X pins σ H s->(∀b∈fp,pJ X pins H b)->tn i s.heap->J.go i H->
  wpAny (model P w) X.A (pyNext (.ref it)) (λr s1=>∃u,r=some u/\
   wpAny (model P w) X.A (letOwnedTupleGo tg (.ref it) u) (λ_ s2=>∃x H',Inv X pins σ H' s2/\RelV x u/\J.yld i H x H'/\tn (i+1) s2.heap/\∀b∈fp,H' b=none) E s1) E s
 done:∀(X:Cx),X.prog=P->X.w=w->X.K=K->X.calm=true->∀(i:Nat)(pins:RT)(s:RZ)(σ:St)(H:Hp)(E:RX),Inv X pins σ H s->(∀b∈fp,pJ X pins H b)->tn i s.heap->J.stop i H->
  wpAny (model P w) X.A (pyNext (.ref it)) (λr s1=>r=none/\Inv X pins σ H s1) E s
 self:∀(A:Su)(i:Nat)(s:RZ)(Q:RX)(E:RX),tn i s.heap->Q (.ref it) s->wpAny (model P w) A (pyIter (.ref it)) Q E s
abbrev TI:=St->Hp->(It->Hp->Prop)->Prop
def PIE(X:Cx)(pins:RT)(σ:St)(g:Sf)(R:It->Hp->Prop)(a:Value)(s2:RZ):Prop:=
 ∃(e:Addr)(d:SH)(f:Nat->Heap->Prop)(J:It)(c:Hp),a=.ref e/\Inv X pins σ c s2/\Turn X.prog X.w X.K g J d e f/\f 0 s2.heap/\(∀b∈d,pJ X pins c b)/\R J c
def PI(X:Cx)(e f:Sf)(d:TI):Prop:=
 ∀(a:RT)(s:RZ)(b:St)(H:Hp)(R:It->Hp->Prop),Inv X a b H s->d b H R->
  wpAny (Ts X) X.A (eval f X.env) (λv c=>wpAny (Ts X) X.A (pyIter v) (PIE X a b e R) X.xe c) X.xe s
def EI(e:s.heap.get? it=some o)(d:o.cls=.type n)(c:o.data=.fields vs)
    (b:["enumerate","zip","dict_itemiterator","dict_reverseitemiterator","odict_iterator","itertools.zip_longest","itertools.pairwise"].contains n=false) (a:Q () s):wpAny M A (letOwnedTupleGo tg (.ref it) u) Q E s:=by
  cases tg<;>first
    |exact T1 a
    | (cases u<;>first
        |exact T1 a
        | (refine u8 (a3l e ?_)
           rw[d,c];show wpAny M A (if(["enumerate","zip","dict_itemiterator","dict_reverseitemiterator","odict_iterator","itertools.zip_longest","itertools.pairwise"].contains n&&vs[0]?==some (rawInt _))=true then _ else _) Q E s;rw[if_neg `c];exact T1 a))
def Itl(K:Sg)(a:Addr):It:=
 ⟨λi H=>∃b x,SqL K H a b/\b[i]?=some x,λi H x c=>c=H/\∀b,SqL K H a b->b[i]?=some x,λi H=>∃b,SqL K H a b/\b.length<=i⟩
def Itt(K:Sg)(a:Addr):It:=
 ⟨λi H=>∃b x,SqT K H a b/\b[i]?=some x,λi H x c=>c=H/\∀b,SqT K H a b->b[i]?=some x,λi H=>∃b,SqT K H a b/\b.length<=i⟩
def Itr(a:Int)(n:Nat):It:=⟨λi _=>i<n,λi H x b=>b=H/\x=.int (a+i),λi _=>n<=i⟩
def sX{P:Sl}{w:So}{K:Sg}{R:Sf}(a l:Addr):Turn P w K R (Itl K a) [l] l (λi h=>h.IsListIter l a i)where
 mem:=by simp
 obj:=λi h f b j=>by
  have e:b=l:=by simpa using j
  subst e;obtain⟨o,e,c,d⟩:=f;exact⟨o,e,λv z=>by rw[d]at z;cases z⟩
 keep:=λi h n f k=>f.at λo e=>k l (by simp) o e
 item:=by intro X hP B F O i g s N H E I hf f J;subst hP B F;obtain⟨W,x,q,r⟩:=J;obtain⟨L,C,p,hz⟩:=I.list q;obtain⟨u,Q,Y⟩:=C.get r;obtain⟨G,A,Z,M,D,y⟩:=hf l (by simp);refine wpAny_pyNext_list_item f p.isList (x:=u) (by simpa using Q) λn m sb=>?_;have U:=I.turned (t':=s.toks) (λb o j e=>(sb.2 b j).trans e) G A M D y;obtain⟨o,e,c,d⟩:=id m;exact⟨u,rfl,EI e c d `b ⟨x,H,U,Y,⟨rfl,λys S=>by rw[I.AZ S q];exact r⟩,m,λb j=>(hf b j).1⟩⟩
 done:=by intro X hP B F O i g s N H E I hf f J;subst hP B F;obtain⟨W,q,r⟩:=J;obtain⟨L,C,p,hz⟩:=I.list q;obtain⟨G,A,Z,M,D,y⟩:=hf l (by simp);have hl:=C.length;exact wpAny_pyNext_list_end (I.ok.hd O) f p.isList (by simp;omega) λn T=>⟨rfl,I.turned (t':=s.toks) (λb o j e=>T b o j e) G A M D y⟩
 self:=λ_ _ _ _ _ f h=>wpAny_pyIter_listiter f h
def pK{P:Sl}{w:So}{K:Sg}{R:Sf}(a l:Addr):Turn P w K R (Itt K a) [l] l (λi h=>h.IsTupleIter l a i)where
 mem:=by simp
 obj:=λi h f b j=>by
  have e:b=l:=by simpa using j
  subst e;obtain⟨o,e,c,d⟩:=f;exact⟨o,e,λv z=>by rw[d]at z;cases z⟩
 keep:=λi h q f k=>f.at λo e=>k l (by simp) o e
 item:=by intro X hP C G O i g s N H E I hf f L;subst hP C G;obtain⟨W,x,r,y⟩:=L;obtain⟨m,D,p,hz⟩:=I.tuple r;obtain⟨u,Q,Y⟩:=D.get y;obtain⟨J,B,Z,M,F,A⟩:=hf l (by simp);refine wpAny_pyNext_tuple_item f p (x:=u) (by simpa using Q) λq n sb=>?_;have U:=I.turned (t':=s.toks) (λb o j e=>(sb.2 b j).trans e) J B M F A;obtain⟨o,e,c,d⟩:=id n;exact⟨u,rfl,EI e c d `b ⟨x,H,U,Y,⟨rfl,λys S=>by rw[I.ff S r];exact y⟩,n,λb j=>(hf b j).1⟩⟩
 done:=by intro X hP C G O i g s N H E I hf f L;subst hP C G;obtain⟨W,r,y⟩:=L;obtain⟨m,D,p,hz⟩:=I.tuple r;obtain⟨J,B,Z,M,F,A⟩:=hf l (by simp);have hl:=D.length;exact wpAny_pyNext_tuple_end (I.ok.hd O) f p (by simp;omega) λq T=>⟨rfl,I.turned (t':=s.toks) (λb o j e=>T b o j e) J B M F A⟩
 self:=λ_ _ _ _ _ f h=>wpAny_pyIter_tupleiter f h
def pL{P:Sl}{w:So}{K:Sg}{F:Sf}(d:Addr)(l:Int)(n:Nat):Turn P w K F (Itr l n) [d] d (λi h=>IsRangeIter h d (l+(i:Nat)*1) ((n:Int)-(i:Nat)) 1)where
 mem:=by simp
 obj:=λi h a b f=>by
  have e:b=d:=by simpa using f
  subst e;exact⟨_,a,λv z=>by
   have L:=z;cases L⟩
 keep:=λi h j a k=>k d (by simp) _ a
 item:=by intro X hP r x p i c s C H E I hf a A;subst hP r x;obtain⟨y,q,N,B,u,m⟩:=hf d (by simp);have W:=Walks.range (prog:=X.prog) (w:=X.w) (I.ok.hd p) d l 1 n;refine W.item i s _ _ A a λv j D M g kk=>?_;obtain⟨t,rfl⟩:=M;have J:Inv X c C H { s with heap:=j,toks:=D }:=I.turned (λb o f e=>kk b o `c e) y q B u m;refine⟨_,rfl,EI g rfl rfl `b ⟨.int (l+i),H,J,⟨t,?_⟩,⟨rfl,rfl⟩,g,λb f=>(hf b f).1⟩⟩;rw[Int.mul_one]
 done:=by intro X hP r x p i c s C H E I hf a A;obtain⟨y,q,N,B,u,m⟩:=hf d (by simp);exact wpAny_pyNext_range_end (I.ok.hd p) a (by have:n<=i:=A;omega) λj G=>⟨rfl,I.turned (λb o f e=>G b o f e) y q B u m⟩
 self:=λ_ _ _ _ _ a h=>wpAny_pyIter_rangeiter a h
section
variable {X:Cx}{tg:Sf}
def A6{pins:RT}{σ:St}{H:Hp}{s:RZ}{R:It->Hp->Prop}{E:RX}{a c:Int}{t u v:Tok}{tk:Nat}(I:Inv X pins σ H s)(l:-(2 ^ 62)<=a)(h:a<2 ^ 62)(i:-(2 ^ 62)<=c)(j:c<2 ^ 62)
  (q:R (Itr a (c-a).toNat) H):wpAny (Ts X) X.A (pyIter (.ref `g)) (PIE X pins σ tg R) E { s with heap:=s.heap.push { cls:=.type "range",data:=.fields #[.int a t,.int c u,.int 1 v] },toks:=tk }:=by
 refine wpAny_pyIter_range (IsRange.new ..) (small_one l h i j) ?_;have d:Inv X pins σ H { s with heap:=s.heap.push { cls:=.type "range",data:=.fields #[.int a t,.int c u,.int 1 v] },toks:=tk }:=I.kept λb o e=>S4 _ e;refine⟨(s.heap.push { cls:=.type "range",data:=.fields #[.int a t,.int c u,.int 1 v] }).objs.size,[(s.heap.push { cls:=.type "range",data:=.fields #[.int a t,.int c u,.int 1 v] }).objs.size],_,_,H,rfl,
  d.kept λb o e=>S4 _ e,pL _ a (c-a).toNat,?_,λb m=>?_,q⟩
 .have f:a+((0:Nat):Int)*1=a:=by simp
  have g:(((c-a).toNat:Nat):Int)-((0:Nat):Int)=Builtin.Range.rangeSize a c 1:=by rw[rangeSize_one];split<;>omega
  rw[f,g];exact a0k _ rfl
 .have e:b=(s.heap.push { cls:=.type "range",data:=.fields #[.int a t,.int c u,.int 1 v] }).objs.size:=by simpa using m
  subst e;exact d.Hi (S0 _) (d.hok.fresh (S0 _))
def N4(d:TA):TI:=λc H R=>d c H λb a=>∃j:Int,b=[.int j]/\-(2 ^ 62)<=j/\j<2 ^ 62/\R (Itr 0 j.toNat) a
def sY(o:Gl X "range")(d:X.mg "range"=none)(g:PA X [a] ta)(m:starEach [a] X.env=[(false,eval a X.env)]:=by rfl):PI X tg (.Call (.Name "range" p) [a] [] pos) (N4 ta):=by
 intro b s f H R I h;refine Call_ (bD I o d boot_range (a1G (thn (g pos b s f H _ I h) λy v ⟨w,x,n,l,c⟩=>?_) m rfl));obtain⟨j,e,c,i,q⟩:=c;subst e;cases l with
 |cons r u=>cases u;obtain⟨t,rfl⟩:=r;exact call_range_1 (A6 n `a `a c i `c)
def NC(j:TI)(g:TG)(tb:TS):TS:=λD a H=>j a H λJ h=>∃W:Nat->Nat->St->Hp->Prop,(∃m,W 0 m a h)/\∀i m a H,W i m a H->
 (J.stop i H/\D.nx a H)\/(J.go i H/\∃N:St->Hp->Prop,(∀b c,N b c->∃e,e<m/\W (i+1) e b c)/\∀x c,J.yld i H x c->g x a c λd f=>tb { D with nx:=N,ct:=N,bk:=D.nx } d f)
def fg(a:SH)(h:Heap):List (Addr×Obj):=a.filterMap λb=>(h.get? b).map λo=>(b,o)
def Q8(a:b∈fp)(e:h.get? b=some o):(b,o)∈fg fp h:=a3B.mpr ⟨b,a,by rw[e];rfl⟩
def sZ(hp:p∈fg fp h):p.1∈fp/\h.get? p.1=some p.2:=by
 obtain⟨b,c,e⟩:=a3B.mp hp;cases q:h.get? b with
 |none=>rw[q]at e;cases e
 |some o=>rw[q]at e;have a:=a0y e;subst a;exact⟨c,q⟩
def Inv.pinned(I:Inv X pins σ H s)(hf:∀b∈fp,pJ X pins H b)(i:∀b∈fp,∃o,s.heap.get? b=some o/\∀v,o.data≠.cell v):Inv X (pins++fg fp s.heap) σ H s:=
 I.cF λp hp=>(a0o.mp hp).elim (λz=>I.pin p (a0m _ z)) λz=>by obtain⟨c,e⟩:=sZ z;obtain⟨f,g,h,_⟩:=hf p.1 c;obtain⟨o,a,d⟩:=i p.1 c;rw[e]at a;cases a;exact⟨e,f,g,h,d⟩
def Inv.wy(I:Inv X (pins++pl) σ H s):Inv X pins σ H s:=I.cF λp hp=>I.pin p (a0m _ (a1h _ hp))
def s_(hp:PassesOwn (Ts X) X.A X.env X.xe)(hc:X.calm=true)(hi:PI X tg qI wi)(hg:PG X tg g)(j:PSs X body tb)
  (hs:∀x,foldedSetIterable qI X.env x=pure x:=by intro _;rfl):PS X (.For tg qI body [] pos) (NC wi g tb):=by
 intro a s σ H D I h;refine wpAny_For (thn (hi a s σ H _ I h) λv s1 h1=>thn h1 λitv s2 h2=>?_) hs;obtain⟨it,E,tn,J,H2,e,I2,T,Q,f2,W,⟨m0,w0⟩,K⟩:=h2;subst e
 -- what stays true of the iterator's objects through the loop
 have l:∀{A:Hp},(∀b∈E,A b=none)->∀b∈E,pJ X a A b:=λhn b j=>⟨hn b j,(f2 b j).2⟩;refine codeAny_forLoop_any (λn s'=>∃i p A,Inv X a p A s'/\tn i s'.heap/\(∀b∈E,A b=none)/\W i n p A) ?_ m0 ⟨0,σ,H2,I2,Q,λb j=>(f2 b j).1,w0⟩
 rintro n s3 ⟨i,q,O,Z,L,F,w3⟩
 rcases K i n q O w3 with⟨M,qn⟩|⟨go,N,hN,step⟩
 .refine a1e hp (thn (T.done X rfl rfl rfl hc i a s3 q O X.xe Z (l F) L M) λr s4 ⟨U,I4⟩=>?_);subst U;exact a1N ⟨q,O,I4,qn⟩
 .refine a1e hp (thn (T.item X rfl rfl rfl hc i a s3 q O X.xe Z (l F) L go) λr s4 ⟨u,U,h4⟩=>?_);subst U;refine a1e hp (thn h4 λ_ s5 ⟨x,H5,I5,r5,y5,C,R⟩=>?_);have P:=I5.pinned (l R) (T.obj _ _ C);refine a1e hp (thn (hg _ s5 q H5 x u _ P r5 (step x H5 y5)) λ_ s6 ⟨Y,H6,I6,q6⟩=>?_);refine a1e hp (thn (j _ s6 Y H6 _ I6 q6) λf S B=>?_);have z:∀{c:St}{w:Hp},Inv X (a++fg E s5.heap) c w S->N c w->∃m,m<n/\∃i p A,Inv X a p A S/\tn i S.heap/\(∀b∈E,A b=none)/\W i m p A:=λ{c w} y G=>by obtain⟨m',hm,w7⟩:=hN c w G;refine⟨m',hm,i+1,c,w,y.wy,T.keep _ _ _ C λb j o e=>(y.pin (b,o) (a0m _ (a0m _ (Q8 j e)))).1,λb j=>?_,w7⟩;obtain⟨o,e,d⟩:=T.obj _ _ C b j;exact(y.pin (b,o) (a0m _ (a0m _ (Q8 j e)))).2.1
  cases f with
  |next=>obtain⟨c,w,y,G⟩:=B;exact z y G
  |cont=>obtain⟨c,w,y,G⟩:=B;exact z y G
  |brk=>obtain⟨c,w,y,B⟩:=B;exact⟨c,w,y.wy,B⟩
  |ret v=>obtain⟨x7,c,w,y,r7,B⟩:=B;exact⟨x7,c,w,y.wy,r7,B⟩
end
abbrev R2:=V->V->Hp->VK->Prop
def OpR(X:Cx)(f:Value->Value->Sem Value)(r:R2):Prop:=
 ∀(a:RT)(s:RZ)(b:St)(H:Hp)(x y:V)(v u:Value)(Q:VK),Inv X a b H s->RelV x v->RelV y u->r x y H Q->
  wpAny (Ts X) X.A (f v u) (EP X a b Q) X.xe s
def UnR(X:Cx)(f:Value->Sem Value)(r:V->Hp->VK->Prop):Prop:=
 ∀(a:RT)(s:RZ)(b:St)(H:Hp)(x:V)(v:Value)(Q:VK),Inv X a b H s->RelV x v->r x H Q->
  wpAny (Ts X) X.A (f v) (EP X a b Q) X.xe s
def ZZ(X:Cx)(f:Value)(r:List V->Hp->VK->Prop):Prop:=
 ∀(a:RT)(s:RZ)(c:St)(H:Hp)(d:Sh)(b:Sa)(Q:VK),Inv X a c H s->Vals d b->r d H Q->
  wpAny (Ts X) X.A (call f b) (EP X a c Q) X.xe s
def tOp(r:R2)(d tb:TE):TE:=λa H Q=>d a H λx c=>tb a c λy b=>r x y b Q
def tUn(r:V->Hp->VK->Prop)(c:TE):TE:=λb H Q=>c b H λx a=>r x a Q
def rI(C:Int->Int->Prop)(g:Int->Int->V):R2:=λx y H Q=>∃i j,x=.int i/\y=.int j/\C i j/\Q (g i j) H
def rI0(g:Int->Int->V):R2:=λx y H Q=>∃i j,x=.int i/\y=.int j/\Q (g i j) H
def rU(g:Int->V):V->Hp->VK->Prop:=λx H Q=>∃i,x=.int i/\Q (g i) H
section
variable {X:Cx}{a b:Sf}{ta tb:TE}{pos:Pos}
def N5(w:PE X a ta)(q:PE X b tb){pins:RT}{s:RZ}{σ:St}{H:Hp}{R:V->V->Hp->Prop}(I:Inv X pins σ H s)
  (h:ta σ H λx i=>tb σ i λy d=>R x y d) {Q:RX}{f:Value->Value->Sem Value}
  (hf:∀v u s2 x y d,Inv X pins σ d s2->RelV x v->RelV y u->R x y d->wpAny (Ts X) X.A (f v u) Q X.xe s2):
  wpAny (Ts X) X.A (eval a X.env) (λv e=>wpAny (Ts X) X.A (eval b X.env) (λu g=>wpAny (Ts X) X.A (f v u) Q X.xe g) X.xe e) X.xe s:=by
 refine thn (w pins s σ H _ I h) λv l ⟨x,i,n,m,o⟩=>?_;exact thn (q pins l σ i _ n o) λu s2 ⟨y,d,p,r,j⟩=>(hf v u s2 x y d p m r j)
def HU(j:OpR X (binaryOp op) r)(i:PE X a ta)(f:PE X b tb):PE X (.BinOp a op b pos) (tOp r ta tb):=by intro d s g H Q I h;exact wpAny_BinOp (N5 i f I h λv u s2 x y e l n m q=>j d s2 g e x y v u Q l n m q)
def N6(n:UnR X (unaryOp op) r)(m:PE X a ta):PE X (.UnaryOp op a pos) (tUn r ta):=by intro d s e H Q I h;exact UnaryOp_ (thn (m d s e H _ I h) λv f ⟨x,i,j,g,l⟩=>n d f e i x v Q j g l)
def opI{f:Value->Value->Sem Value}{C:Int->Int->Prop}{g:Int->Int->Int}
  (d:∀(i j:Int)(t u:Tok)(s:RZ)(Q:RX)(E:RX),C i j->Q (.int (g i j) s.toks) { s with toks:=s.toks+1 }->wpAny (Ts X) X.A (f (.int i t) (.int j u)) Q E s):
  OpR X f (rI C λi j=>.int (g i j)):=by
 intro e s p H x y v u Q I o n h;obtain⟨i,j,rfl,rfl,m,q⟩:=h;obtain⟨t,rfl⟩:=o;obtain⟨l,rfl⟩:=n;exact d i j t l s _ _ m ⟨.int (g i j),H,I.tok _,⟨_,rfl⟩,q⟩
def Pl{f:Value->Value->Sem Value}{g:Int->Int->Int}
  (d:∀(i j:Int)(t u:Tok)(s:RZ)(Q:RX)(E:RX),Q (.int (g i j) s.toks) { s with toks:=s.toks+1 }->wpAny (Ts X) X.A (f (.int i t) (.int j u)) Q E s):
  OpR X f (rI0 λi j=>.int (g i j)):=by
 intro e s o H x y v u Q I n m h;obtain⟨i,j,rfl,rfl,q⟩:=h;obtain⟨t,rfl⟩:=n;obtain⟨l,rfl⟩:=m;exact d i j t l s _ _ ⟨.int (g i j),H,I.tok _,⟨_,rfl⟩,q⟩
def ND{f:Value->Value->Sem Value}{g:Int->Int->Bool}
  (d:∀(i j:Int)(t u:Tok)(s:RZ)(Q:RX)(E:RX),Q (.bool (g i j)) s->wpAny (Ts X) X.A (f (.int i t) (.int j u)) Q E s):
  OpR X f (rI0 λi j=>.bl (g i j)):=by
 intro e s o H x y v u Q I n m h;obtain⟨i,j,rfl,rfl,q⟩:=h;obtain⟨t,rfl⟩:=n;obtain⟨l,rfl⟩:=m;exact d i j t l s _ _ ⟨.bl (g i j),H,I,rfl,q⟩
def Hj(i j:Int):Prop:=0<j/\j<1073741824
def HW(i j:Int):Prop:=0<=j/\j<=1000000/\i.natAbs<2 ^ 64
def C4(i j:Int):Prop:=(-(2 ^ 64)<i/\i<2 ^ 64)\/(-(2 ^ 64)<j/\j<2 ^ 64)
def C4.ok(h:C4 i j):IntMulOk i j:=by
 rcases h with⟨e,d⟩|⟨e,d⟩
 .exact .of_left (intBits_le_64 e d)
 .exact .of_right (intBits_le_64 e d)
def HY:OpR X (binaryOp .Add) (rI0 λi j=>.int (i+j)):=Pl λ_ _ _ _ _ _ _ q=>add_int q
def ZJ:OpR X (binaryOp .Sub) (rI0 λi j=>.int (i-j)):=Pl λ_ _ _ _ _ _ _ q=>sub_int q
def HZ:OpR X (binaryOp .Mult) (rI C4 λi j=>.int (i*j)):=opI λ_ _ _ _ _ _ _ d q=>mul_int q d.ok
def EJ:OpR X (binaryOp .FloorDiv) (rI Hj λi j=>.int (i / j)):=opI λi j _ _ _ _ _ d q=>by have f:=d.1;have e:=d.2;exact floordiv_int `a `c (.inl (PyProof.noPylong_small `a))
def H_:OpR X (binaryOp .Mod) (rI (λ_ j=>0<j) λi j=>.int (i % j)):=opI λi j _ _ _ _ _ d q=>by have e:=d;exact mod_int' `a `c
def EK:OpR X (binaryOp .Mod) (rI (λ_ j=>j≠0) λi j=>.int (i.fmod j)):=opI λ_ _ _ _ _ _ _ d q=>mod_int' d q
def tf:OpR X (binaryOp .Pow) (rI HW λi j=>.int (i ^ j.toNat)):=opI λ_ _ _ _ _ _ _ d q=>pow_int_small d.1 d.2.1 d.2.2 q
def unI{f:Value->Sem Value}{g:Int->Int}
  (d:∀(i:Int)(t:Tok)(s:RZ)(Q:RX)(E:RX),Q (.int (g i) s.toks) { s with toks:=s.toks+1 }->wpAny (Ts X) X.A (f (.int i t)) Q E s):
  UnR X f (rU λi=>.int (g i)):=by
 intro e s l H x v Q I j h;obtain⟨i,rfl,q⟩:=h;obtain⟨t,rfl⟩:=j;exact d i t s _ _ ⟨.int (g i),H,I.tok _,⟨_,rfl⟩,q⟩
def bE:UnR X (unaryOp .USub) (rU λi=>.int (-i)):=unI λ_ _ _ _ _ q=>neg_int q
end
section
variable {X:Cx}{a b c:Sf}{ta tb:TE}{pos:Pos}
def tw(I:Inv X pins σ H s)(q:Q (.bl k) H)(e:k=k'):EP X pins σ Q (.bool k') s:=by subst e;exact⟨.bl k,H,I,rfl,q⟩
def pM:OpR X (compareOp .Lt) (rI0 λi j=>.bl (decide (i<j))):=ND λ_ _ _ _ _ _ _ q=>lt_int q
def EL:OpR X (compareOp .LtE) (rI0 λi j=>.bl (decide (i<=j))):=ND λ_ _ _ _ _ _ _ q=>le_int q
def Ji:OpR X (compareOp .Gt) (rI0 λi j=>.bl (decide (j<i))):=ND λ_ _ _ _ _ _ _ q=>gt_int q
def Ia:OpR X (compareOp .GtE) (rI0 λi j=>.bl (decide (j<=i))):=ND λ_ _ _ _ _ _ _ q=>ge_int q
def tx:OpR X (compareOp .In) (λx y H Q=>∃i j,x=.str i/\y=.str j/\Q (.bl (!(Builtin.Str.occurrences j i 0 j.length 1).isEmpty)) H):=by intro d s l H x y v u Q I e f h;obtain⟨i,j,rfl,rfl,q⟩:=h;obtain⟨t,rfl⟩:=e;obtain⟨g,rfl⟩:=f;exact in_str (tw I q rfl)
def tD:OpR X (compareOp .Is) (λx y H Q=>y=.non/\Q (.bl (decide (x=.non))) H):=by
 intro e s g H x y v u Q I d f h;obtain⟨rfl,q⟩:=h;cases f;refine is_none_gen (tw I q ?_);cases x<;>first
  | (cases d;rfl)
  | (obtain⟨t,rfl⟩:=d;rfl)
def EO:OpR X (compareOp .IsNot) (λx y H Q=>y=.non/\Q (.bl (!decide (x=.non))) H):=by
 intro e s g H x y v u Q I d f h;obtain⟨rfl,q⟩:=h;cases f;refine isnot_none_gen (tw I q ?_);cases x<;>first
  | (cases d;rfl)
  | (obtain⟨t,rfl⟩:=d;rfl)
def OpR.or(h:OpR X f r)(h':OpR X f r'):OpR X f (λx y H Q=>r x y H Q\/r' x y H Q):=by
 intro d s i H x y v u Q I e g q;rcases q with q|q
 .exact h d s i H x y v u Q I e g q
 .exact h' d s i H x y v u Q I e g q
def yH(b:Sf)(h:op≠.In:=by decide)(d:op≠.NotIn:=by decide):behindInMarks op b=false:=by
 have e:(op==CmpOp.In)=false:=by cases op<;>first|rfl|exact absurd rfl h
 have f:(op==CmpOp.NotIn)=false:=by cases op<;>first|rfl|exact absurd rfl d
 cases b<;>simp[behindInMarks,e,f]
def tE(l:OpR X (compareOp op) r)(j:PE X a ta)(g:PE X b tb)(f:behindInMarks op b=false):PE X (.Compare a [op] [b] pos) (tOp r ta tb):=by intro d s i H Q I h;exact wpAny_Compare1 (N5 j g I h λv u s2 x y e m o n q=>l d s2 i e x y v u Q m o n q) f
def Ib(t:TE):TT:=λd H Q=>t d H λx e=>∃k,x=.bl k/\Q k e
def cH(p:OpR X (compareOp op) r)(o:PE X a ta)(m:PE X b tb)(j:behindInMarks op b=false):PT X (.Compare a [op] [b] pos) (Ib (tOp r ta tb)):=by
 intro d s f H Q I h;refine wpAny_isTrue_Compare1 (thn (o d s f H _ I h) λv w ⟨x,D,E,C,A⟩=>thn (m d w f D _ E A) λu s2 ⟨y,g,F,n,q⟩=>
  thn (p d s2 f g x y v u _ F C n q) λc J ⟨z,i,l,G,k,e,B⟩=>?_) j
 subst e;cases G;exact a2B ⟨i,l,B⟩
def fh:(sizeLine:Nat)<2 ^ 63:=by decide
def pN:OpR X (binaryOp .Add) (λx y H Q=>∃i j,x=.str i/\y=.str j/\i.length+j.length<=sizeLine/\Q (.str (i++j)) H):=by intro d s m H x y v u Q I e g h;obtain⟨i,j,rfl,rfl,hz,q⟩:=h;obtain⟨t,rfl⟩:=e;obtain⟨f,rfl⟩:=g;exact add_str (λf l=>⟨.str (i++j),H,I.tok _,⟨_,rfl⟩,q⟩) hz
def vals1(r:Vals [x] us):∃u,us=[u]/\RelV x u:=by
 cases r with
 |cons e d=>cases d;exact⟨_,rfl,e⟩
def vals2(r:Vals [x,y] us):∃u d,us=[u,d]/\RelV x u/\RelV y d:=by
 cases r with
 |cons e h=>
  cases h with
  |cons g f=>cases f;exact⟨_,_,rfl,e,g⟩
def tF(g:X.calm=true):ZZ X (.builtin "max") (λf H Q=>∃i j,f=[.int i,.int j]/\Q (.int (if j>i then j else i)) H):=by
 intro e s m H f v Q I r h;obtain⟨i,j,rfl,q⟩:=h;obtain⟨u,p,rfl,⟨t,rfl⟩,⟨n,rfl⟩⟩:=vals2 r;refine max_two_ints (I.ok.hd g) λl o k=>⟨_,H,I.kept k,?_,q⟩;by_cases d:j>i
 .rw[if_pos d,if_pos d];exact⟨_,rfl⟩
 .rw[if_neg d,if_neg d];exact⟨_,rfl⟩
def Pn(K:Sg)(x:V)(H:Hp)(n:Nat):Prop:=
 match x with
 |.str y=>y.length<=sizeLine/\n=y.length
 |.byt y=>y.size<=sizeLine/\n=y.size
 |.ref p=>(∃d,SqL K H p d/\n=d.length)\/∃d,SqT K H p d/\n=d.length
 |_=>False
def A7:ZZ X (.builtin "len") (λd H Q=>∃x n,d=[x]/\Pn X.K x H n/\Q (.int n) H):=by
 intro v s z H d C Q I r h;obtain⟨x,n,rfl,e,q⟩:=h;obtain⟨u,rfl,j⟩:=vals1 r;have B:=a0I;cases x with
 |str y=>obtain⟨t,rfl⟩:=j;obtain⟨w,g⟩:y.length<=sizeLine/\n=y.length:=e;subst g;exact len_str `a ⟨.int _,H,I.tok _,⟨_,rfl⟩,q⟩
 |byt y=>obtain⟨t,rfl⟩:=j;obtain⟨w,g⟩:y.size<=sizeLine/\n=y.size:=e;subst g;exact PySem.W.len_bytes `a ⟨.int _,H,I.tok _,⟨_,rfl⟩,q⟩
 |ref p=>
  cases j;have g:=e;rcases g with⟨d,i,g⟩|⟨d,i,g⟩
  .subst g;obtain⟨m,l,o,hz⟩:=I.list i;have f:=l.length;exact Calls.call_len_list o.isList `c ⟨.int d.length,H,I.tok _,⟨_,by simp only[List.size_toArray];rw[f]⟩,q⟩
  .subst g;obtain⟨m,l,o,hz⟩:=I.tuple i;have f:=l.length;exact len_tuple o `c ⟨.int d.length,H,I.tok _,⟨_,by simp only[List.size_toArray];rw[f]⟩,q⟩
 |_=>exact e.elim
end
structure ER(h:Heap)(x dx C:Addr)(mA:RU):Prop where
 obj:h.get? x=some (PySem.W.instObj C dx)
 ns:h.Ns1 dx mA
 ne:dx≠x
def X_{h:Heap}{g:Addr}{f:RU}(n:h.Ns1 g f):∃d,h.get? g=some d/\∀b,PySem.W.lookIn b d=some (f b):=by
 obtain⟨o,i,u,m,l,p,_,j⟩:=n;refine⟨o,m,λb=>?_⟩;have e:=j b;unfold nsFind findBy at e;rw[<- a3C]at e;unfold PySem.W.lookIn;rw[l];dsimp only;split
 .rename_i y q;rw[q]at e;exact a0K some e
 .rename_i q;rw[q]at e;have a:i.toList.any (·.refKey)=false:=by rw[List.any_eq_false];intro y r;obtain⟨z,t,c⟩:=p y (a3m.mp r);simp[DictEntry.refKey,c]
  have s:¬i.toList.any (·.refKey)=true:=by rw[a];exact a0c
  rw[if_neg s];exact a0K some e
def ER.look(I:ER h x dx C mA):∃b,PySem.W.InstAt h x (PySem.W.instObj C dx) C (some b)/\∀a,PySem.W.lookIn a b=some (mA a):=
 let⟨b,ho,hl⟩:=X_ I.ns
 ⟨b,⟨I.obj,rfl,rfl,ho⟩,hl⟩
section
variable {prog:Sl}{w:So}{A:Su}{E:RX}{s:RZ}{K:Sg}{x dx C f:Addr}{mA:RU}{name:Str}{v:Value}
def get_map(X:K.In s.heap)(I:ER s.heap x dx C mA)(d:PySem.W.plainGet K C name=true)(c:PySem.W.hasDictIn K C=true)
  (e:PySem.W.findIn K (.ref C) name=some none) (g:mA name=some v) (a:PySem.W.handedIn v=true) (h:Q v { s with toks:=s.toks+1 }):
  wpAny (model prog w) A (getAttr (.ref x) name expr) Q E s:=by
 obtain⟨i,J,b⟩:=I.look;exact PySem.W.get_value X J (a2o d).1 (PySem.W.findObj_own c e rfl (by rw[b,g])) a h
def A8(X:K.In s.heap)(I:ER s.heap x dx C mA)(a:PySem.W.plainGet K C name=true)
  (hf:PySem.W.findIn K (.ref C) name=some (some (.ref f))) (d:PySem.W.isFn K (.ref f)=true) (e:mA name=none) (h:Q (.ref f,[.ref x]) s):
  wpAny (model prog w) A (getMethod (.ref x) name pl) Q E s:=by
 obtain⟨b,J,c⟩:=I.look;exact PySem.W.method_fn X J (a2o a).1 (a2o a).2 hf (a0t.mp d) (by show(PySem.W.lookIn name b).map (·.isSome)=some false;rw[c,e];rfl) h
def ES(X:K.In s.heap)(I:ER s.heap x dx C mA)
  (z:PySem.W.findIn K (.ref C) "__setattr__"=some (some (.builtin "object.__setattr__"))) (hp:PySem.W.plainOver K C=true) (p:PySem.W.takerIn K C name=some none) (o:PySem.W.hasDictIn K C=true)
  (B:PySem.Within mA ns) (hsz:ns.length<=sizeLine)
  (h:∀e,ER e x dx C (λy=>if y=name then some v else mA y)->Heap.SameBut dx s.heap e->Q () { s with heap:=e,toks:=s.toks+2 }):
  wpAny (model prog w) A (setAttr (.ref x) name v) Q E s:=by
 obtain⟨F,J,G⟩:=I.look;refine PySem.W.set_plain X J z (PySem.W.osa_open X J hp p λb=>?_);obtain⟨cd,u,g⟩:=PySem.W.any_some o;have m:=I.obj;refine u8 (T1 (u8 (u8 (a1C m (u8 (PySem.W.Looks.here (PySem.W.looks_clsIn X u) ?_))))));rw[g];refine T1 (u8 (T1 (u8 ?_)));refine a3D I.ns λe d c=>?_;obtain⟨D,n,q,l,i,j⟩:=d.count (a2C name v B);exact u8 (a2I l (by rw[i];exact a2J (a0l j (by rw[R4];omega))) (T1 (h _ ⟨(c.2 _ (Ne.symm I.ne)).trans I.obj,d,I.ne⟩ c)))
def A9(X:K.In s.heap)(b:PySem.W.makesIn K C=true)
  (c:PySem.W.findIn K (.ref C) "__init__"=some (some (.ref f))) (hf:PySem.W.typeIn K (.ref f)=some (.type "function"))
  (h:codeAny (model prog w) (A.under (.builtin "type.__call__" ⟨.ref C::vs,kw⟩)) (.call (.ref f) ⟨.ref (`g+1)::vs,kw⟩) (PySem.W.InitBack (`g+1) R)
   { s with heap:=(s.heap.push PySem.W.emptyDict).push (PySem.W.instObj C `g) }):
  codeAny (model prog w) A (.call (.ref C) ⟨vs,kw⟩) R s:=by
 obtain⟨i,g,d,t,e⟩:=s;exact PySem.W.make_core (PySem.W.makes_of X b) (PySem.W.looks_findIn X c) (λa=>PySem.W.bind_fn X a hf) (.inl rfl) h
end
def KN(f:Str)(v:V):List (Str×V)->List (Str×V)
 |[]=>[(f,v)]
 | (g,x)::r=>if g=f then(g,v)::r else(g,x)::KN f v r
theorem Ke(f g:Str)(v:V):∀fs:List (Str×V),(KN f v fs).lookup g=if g=f then some v else fs.lookup g
 |[]=>by
  show List.lookup g [(f,v)]=_;by_cases h:g=f
  .have a:=a0t.mpr h;simp only[List.lookup,a,if_pos h]
  .have a:=a0C.mpr h;simp only[List.lookup,a,if_neg h]
 | (k,x)::r=>by
  have c:=Ke f g v r;rw[show KN f v ((k,x)::r)=(if k=f then(k,v)::r else(k,x)::KN f v r)from rfl];by_cases b:k=f
  .rw[if_pos b];by_cases h:g=k
   .have a:=a0t.mpr h;simp only[List.lookup,a,if_pos (h.trans b)]
   .have a:=a0C.mpr h;simp only[List.lookup,a,if_neg (λe:g=f=>h (e.trans b.symm))]
  .rw[if_neg b];by_cases h:g=k
   .have a:=a0t.mpr h;simp only[List.lookup,a,if_neg (λe:g=f=>b (h.symm.trans e))]
   .have a:=a0C.mpr h;simp only[List.lookup,a];exact c
theorem Y7(f:Str)(v:V):∀fs:List (Str×V),f∈(KN f v fs).map (·.1)/\∀g,g∈fs.map (·.1)->g∈(KN f v fs).map (·.1)
 |[]=>⟨by simp[KN],λg h=>by simp at h⟩
 | (k,x)::r=>by
  obtain⟨c,b⟩:=Y7 f v r;rw[show KN f v ((k,x)::r)=(if k=f then(k,v)::r else(k,x)::KN f v r)from rfl];by_cases a:k=f
  .subst a;exact⟨by simp,λg h=>by simpa using h⟩
  .rw[if_neg a];refine⟨?_,λg h=>?_⟩
   .exact R9 _ c
   .rcases T6.mp h with e|e
    .exact T6.mpr (.inl e)
    .exact R9 _ (b g e)
theorem Kf(f:Str)(v:V):∀fs:List (Str×V),(KN f v fs).length<=fs.length+1
 |[]=>by simp[KN]
 | (k,x)::r=>by
  have b:=Kf f v r;rw[show KN f v ((k,x)::r)=(if k=f then(k,v)::r else(k,x)::KN f v r)from rfl];by_cases a:k=f
  .rw[if_pos a,R4,R4];omega
  .rw[if_neg a,R4,R4];omega
def XE.some_of(r:XE (some v) o):∃u,o=some u/\RelV v u:=by
 cases o with
 |none=>exact r.elim
 |some u=>exact⟨u,rfl,r⟩
def XE.none_of(r:XE none o):o=none:=by
 cases o with
 |none=>rfl
 |some u=>exact r.elim
def tH(r:RelV v u):PySem.W.handedIn u=true:=by
 cases v with
 |non=>cases r;rfl
 |bl b=>cases r;rfl
 |int i=>obtain⟨t,e⟩:= r;cases e;rfl
 |str x=>obtain⟨t,e⟩:= r;cases e;rfl
 |byt b=>obtain⟨t,e⟩:= r;cases e;rfl
 |flt b=>obtain⟨t,e⟩:= r;cases e;rfl
 |ref a=>cases r;rfl
 |ty n=>cases r;rfl
def cI(c:HOk P w H h)(e:H a=some (.ins C dx fs)):∃b,ER h a dx C b/\(∀f,XE (fs.lookup f) (b f))/\PySem.Within b (fs.map (·.1))/\fs.length<=1000/\H dx=some (.own a):=by obtain⟨d,z,g,ob,b,n,r,q⟩:= (c a _ e);exact⟨b,⟨ob,n,g⟩,r,q,z,d⟩
structure Cls(K:Sg)(C:Addr):Prop where
 pg:PySem.W.plainGet K C Str.empty=true
 hd:PySem.W.hasDictIn K C=true
 po:PySem.W.plainOver K C=true
 sa:PySem.W.findIn K (.ref C) "__setattr__"=some (some (.builtin "object.__setattr__"))
def Cls.get{K:Sg}{C:Addr}(c:Cls K C)(f:Str):PySem.W.plainGet K C f=true:=c.pg
def vm(K:Sg)(C:Addr)(f:Str):Prop:=PySem.W.findIn K (.ref C) f=some none
def vm.N7{K:Sg}{C:Addr}{f:Str}(n:vm K C f):PySem.W.takerIn K C f=some none:=by unfold PySem.W.takerIn;rw[show PySem.W.findIn K (.ref C) f=some none from n];rfl
structure Meth(K:Sg)(C:Addr)(m:Str)(f:Addr):Prop where
 at_:PySem.W.findIn K (.ref C) m=some (some (.ref f))
 fn:PySem.W.isFn K (.ref f)=true
 kp:PySem.W.keepIn K (.ref f)=true
def pO(I:Inv X pins σ H s)(e:H a=some (.ins C dx fs))(c:Cls X.K C)(n:vm X.K C f)(l:fs.lookup f=some v)
  (h:∀u g,Inv X pins σ H g->RelV v u->Q u g):wpAny (Ts X) A (getAttr (.ref a) f b) Q E s:=by
 obtain⟨i,O,r,_,_,_⟩:=cI I.hok e;obtain⟨u,j,d⟩:=XE.some_of (v:=v) (o:=i f) `c;exact get_map I.kIn O (c.get f) c.hd n j (tH d) (h u _ (I.tok _) d)
def bF(I:Inv X pins σ H s)(e:H a=some (.ins C dx fs))(c:Cls X.K C)(k:Meth X.K C m g)(l:fs.lookup m=none)
  (h:Q (.ref g,[.ref a]) s):wpAny (Ts X) A (getMethod (.ref a) m pl) Q E s:=by
 obtain⟨b,O,r,_,_,_⟩:=cI I.hok e;have d:b m=none:=XE.none_of `c;exact A8 I.kIn O (c.get m) k.at_ k.fn d h
def pP(I:Inv X pins σ H s)(e:H a=some (.ins C dx fs))(c:Cls X.K C)(n:vm X.K C f)(G:fs.length<1000)(B:RelV y u)
  (h:∀l,Inv X pins σ (upd H a (.ins C dx (KN f y fs))) l->Q () l):wpAny (Ts X) A (setAttr (.ref a) f u) Q E s:=by
 obtain⟨j,O,r,m,_,i⟩:=cI I.hok e;have hz:(fs.map (·.1)).length<=sizeLine:=by rw[f8,a0I];omega
 refine ES I.kIn O c.sa c.po n.N7 c.hd m hz λp d F=>h _ ?_;have v:∃o,p.get? dx=some o:=let⟨o,_,_,e',_⟩:=d.ns;⟨o,e'⟩
 refine I.write (by rw[e];exact True.intro) (.inr i) (λb q w z=>(F.2 b w).trans z) v ?_;refine⟨by rw[zm O.ne];exact i,?_,O.ne,d.obj,_,d.ns,λg=>?_,λg D=>?_⟩
 .have:=Kf f y fs;omega
 .rw[Ke];by_cases q:g=f
  .rw[if_pos q,if_pos q];exact B
  .rw[if_neg q,if_neg q];exact r g
 .by_cases q:g=f
  .rw[q];exact(Y7 f y fs).1
  .refine(Y7 f y fs).2 g (m g λz=>D ?_);show(if g=f then some u else j g)=none;rw[if_neg q];exact z
def Inv.made(I:Inv X pins σ H s):Inv X pins σ (upd (upd H s.heap.objs.size (.own (`g+1))) (`g+1) (.ins C s.heap.objs.size []))
  { s with heap:=(s.heap.push PySem.W.emptyDict).push (PySem.W.instObj C `g) }:=by
 have c:(s.heap.push PySem.W.emptyDict).get? `g=some PySem.W.emptyDict:=a0k s.heap rfl;have f:=by
  have:=a0k (s.heap.push PySem.W.emptyDict) (o:=PySem.W.instObj C `g) rfl
  rwa [a1k]at this
 have i:(s.heap.push PySem.W.emptyDict).Ns s.heap.objs.size (λ_=>none):=⟨PySem.W.emptyDict,#[],_,c,rfl,(λe h=>absurd h (by simp)),λ_=>rfl⟩;have g:=I.laid (o:=.own (`g+1)) (t':=s.toks) (λb u q=>S4 _ q) (S0 _) ⟨_,c⟩;refine g.laid (λb u q=>S4 _ q) (a2g (a1k _ _)) ?_;have d:`g≠`g+1:=a0e (a0L _);refine⟨by rw[zm d,zj],a0A _,d,f,λ_=>none,(Heap.Ns1.of_empty i).at λo q=>S4 _ q,λ_=>True.intro,λy j=>absurd rfl j⟩
def ET(b:attributeBase e f env (eval e env)=eval e env)
  (h:wpAny (model prog w) A (eval e env) (λo a=>wpAny (model prog w) A (getAttr o f true) Q E a) E s):wpAny (model prog w) A (eval (.Attribute e f pos) env) Q E s:=
 Attribute_any_ h (by rw[arm_eval_Attribute,b])
def Rn(K:Sg)(e:TE)(f:Str):TE:=λd H Q=>e d H λx b=>∃a C c fs v,x=.ref a/\b a=some (.ins C c fs)/\Cls K C/\vm K C f/\fs.lookup f=some v/\Q v b
def Ro(K:Sg)(h g:TE)(f:Str):TS:=λD b H=>g b H λy e=>h b e λx c=>∃a C d fs,x=.ref a/\c a=some (.ins C d fs)/\Cls K C/\vm K C f/\fs.length<1000/\
 D.nx b (upd c a (.ins C d (KN f y fs)))
def C5(he:PE X e ta)(d:attributeBase e f X.env (eval e X.env)=eval e X.env):PE X (.Attribute e f pos) (Rn X.K ta f):=by intro b s g H Q I h;refine ET d (thn (he b s g H _ I h) λu z ⟨x,o,m,w,a,C,A,fs,v,i,j,c,n,l,q⟩=>?_);subst i;obtain rfl:u=Value.ref a:=w;exact pO m j c n l λy s2 p r=>⟨v,o,p,r,q⟩
def C6(g:PE X o ta)(E:PE X value tv)(v:swapsWith value (some (.Attribute o f pos')) pos.line X.env=pure false):PS X (.Assign [.Attribute o f pos'] value pos) (Ro X.K ta tv f):=by intro b s d H D I h;refine a2e (thn (E b s d H _ I h) λu j ⟨y,w,z,B,q⟩=>thn (g b j d w _ z q) λp s2 ⟨x,G,A,F,a,C,K,fs,i,r,c,n,l,m⟩=>?_) v;subst i;obtain rfl:p=Value.ref a:=F;exact pP A r c n l B λJ e=>⟨d,_,e,m⟩
section
variable {H:Hp}
inductive sE(K:Sg)(H:Hp):V->Value->Prop where
 |non:sE K H .non (.type "NoneType")
 |bl (x:Bool):sE K H (.bl x) (.type "bool")
 |int (i:Int):sE K H (.int i) (.type "int")
 |str (x:Str):sE K H (.str x) (.type "str")
 |flt (x:UInt64):sE K H (.flt x) (.type "float")
 |lst {a:Addr}{xs:Sh}(e:H a=some (.lst xs)):sE K H (.ref a) (.type "list")
 |frz {a:Addr}{o:Obj}{xs:Sh}(e:H a=some (.frz o (.lst xs))):sE K H (.ref a) (.type "list")
 |tup {a:Addr}{xs:Sh}(e:H a=some (.tup xs)):sE K H (.ref a) (.type "tuple")
 |dK {a:Addr}{kvs:Sk}(e:H a=some (.dK kvs)):sE K H (.ref a) (.type "dict")
 |dT {a:Addr}{kvs:S_}(e:H a=some (.dT kvs)):sE K H (.ref a) (.type "dict")
 |ins {a C dx:Addr}{fs:Sy}(e:H a=some (.ins C dx fs)) (cl:Cls K C) (ha:PySem.W.findIn K (.ref C) "__class__"=some (some (.builtin "object.__class__")))
   (hn:PySem.W.specialIn K (.builtin "object.__class__") "__get__"=some (some (.builtin "getset_descriptor.__get__"))) (htk:PySem.W.takesIn K (.builtin "object.__class__")=some true)
   (hm:PySem.W.mroIn K C (.type "object")=some true):sE K H (.ref a) (.ref C)
end
structure vB(k:Nat)(A:Su):Prop where
 hd:A.handled=none
 dp:A.depth+3*k+5<recursionLimit
 un:A.units+16*k+200<cLine
def vB.mono(r:vB k A)(h:j<=k):vB j A:=⟨r.hd,by have:=r.dp;omega,by have:=r.un;omega⟩
def vB.deeper(r:vB (k+1) A)(env:Env):vB k (A.deeper env):=
 ⟨r.hd,by have:=r.dp;show A.depth+1+3*k+5<_;omega,by have:=r.un;show A.units+3+16*k+200<_;omega⟩
def vB.in1(r:vB (k+1) A):vB k A.in1:=
 ⟨r.hd,by have:=r.dp;show A.depth+3*k+5<_;omega,by have:=r.un;show A.units+1+16*k+200<_;omega⟩
def pQ{A:Su}{C:Addr}{us:Sa}{a:SR}:(A.under (.builtin "type.__call__" ⟨.ref C::us,a⟩)).depth=A.depth+1:=rfl
def pR{A:Su}{C:Addr}{us:Sa}{a:SR}:(A.under (.builtin "type.__call__" ⟨.ref C::us,a⟩)).units=A.units+1:=rfl
def vB.make(r:vB (k+1) A)(C:Addr)(us:Sa)(a:SR):vB k (A.under (.builtin "type.__call__" ⟨.ref C::us,a⟩)):=
 ⟨r.hd,by have:=r.dp;rw[pQ];omega,by have:=r.un;rw[pR];omega⟩
def vB.depth(r:vB k A):A.depth<recursionLimit:=by have:=r.dp;omega
def vB.units(r:vB k A):A.units+64<cLine:=by have:=r.un;omega
def N8:TA:=λ_ H Q=>Q [] H
def Ic(e:TE)(tr:TA):TA:=λa H Q=>e a H λx c=>tr a c λd b=>Q (x::d) b
section
variable {X:Cx}{e:Sf}{es:Sd}{te:TE}{t:TA}{pos:Pos}
def Ws:PA X [] N8:=λ_ _ _ _ H Q I h=>Calls.spliced_nil ⟨[],H,I,.nil,h⟩
def wY(g:PE X e te)(d:PA X es t)(n:starEach (e::es) X.env=(false,eval e X.env)::starEach es X.env:=by rfl):PA X (e::es) (Ic te t):=by intro pos a s b H Q I h;rw[n];exact a3E (thn (g a s b H _ I h) λu j ⟨x,o,p,m,l⟩=>(thn (d pos a j b o _ p l) λv s2 ⟨r,c,q,f,i⟩=>⟨x::r,c,q,.cons m f,i⟩))
def Po(t:TA):TE:=λc H Q=>t c H λb a=>b.length<=sizeLine/\∀p,a p=none->Q (.ref p) (upd a p (.tup b))
def Rp(t:TA):TE:=λc H Q=>t c H λb a=>b.length<=sizeLine/\∀p,a p=none->Q (.ref p) (upd a p (.lst b))
def fj{x1}(h:PA X es t):PE X (.Tuple es x1 pos) (Po t):=by intro a s j H Q I i;refine wpAny_Tuple_spliced (thn (h pos a s j H _ I i) λg c ⟨l,d,f,r,z,q⟩=>⟨by rw[<- r.length];exact z,?_⟩);have hf:=f.hok.fresh (S0 _);refine⟨.ref c.heap.objs.size,upd d c.heap.objs.size (.tup l),f.laid (λb u e=>S4 _ e) (S0 _) ?_,rfl,q _ hf⟩;exact⟨z,g,r,⟨_,a0k _ rfl,rfl,_,rfl⟩⟩
def C7(h:PA X es t):PE X (.List es pos) (Rp t):=by intro a s j H Q I i;refine wpAny_List_spliced (thn (h pos a s j H _ I i) λg c ⟨l,d,f,r,z,q⟩=>⟨by rw[<- r.length];exact z,?_⟩);have hf:=f.hok.fresh (S0 _);refine⟨.ref c.heap.objs.size,upd d c.heap.objs.size (.lst l),f.laid (λb u e=>S4 _ e) (S0 _) ?_,rfl,q _ hf⟩;exact⟨z,g,0,r,a0k _ rfl⟩
end
abbrev Sp:=List V->Hp->VK->XK->Prop
abbrev CXT:=List Env->Hp->Shared->XK->Value->Shared->Prop
structure AN(P:Sl)(w:So)(K:Sg)(mg:RU)(base:Heap)(A:Su)(outer:List Env)(s:RZ)(H:Hp):Prop where
 frames:A.frames=some outer
 mod:Mod K mg base
 bs:∀b o,base.get? b=some o->s.heap.get? b=some o/\H b=none
 bsz:base.objs.size<=s.heap.objs.size
 iH:s.heap.FunFrames base outer
 frf:∀b∈frs outer,H b=none
 hok:HOk P w H s.heap
 bare:AllBare s.gens
def CE(a:List Env)(P:Sl)(w:So)(H:Hp)(s:RZ)(Q:VK)(u:Value)(b:RZ):Prop:=
 ∃v c,b.os=s.os/\AllBare b.gens/\Un (frs a) [] H c s.heap b.heap/\HOk P w c b.heap/\RelV v u/\Q v c
def CR(CX:CXT)(a:List Env)(P:Sl)(w:So)(H:Hp)(s:RZ)(Q:VK)(E:XK)(r:Result)(b:RZ):Prop:=
 match r with
 |.ok (.ret u)=>CE a P w H s Q u b
 |.ok _=>False
 |.error e=>CX a H s E e b
structure y_(P:Sl)(w:So)(K:Sg)(mg:RU)(base:Heap)(CX:CXT)(k:Nat)(f:Addr)(fd:Sq)(ps:RS)(sp:Sp):Prop where
 len:∀vs H Q E,sp vs H Q E->vs.length=ps.length
 run:∀(A:Su)(outer:List Env)(s:RZ)(H:Hp)(args:Args)(us:Sa)(vs:Sh) (Q:VK) (E:XK),vB k A->AN P w K mg base A outer s H->BindsTo s fd args (ps.zip us)->Vals vs us->sp vs H Q E->
  codeAny (model P w) A (.call (.ref f) args) (CR CX outer P w H s Q E) s
def y_.imp{P:Sl}{w:So}{K:Sg}{e:RU}{a:Heap}{CX:CXT}{k:Nat}{f:Addr}{fd:Sq}{ps:RS}{sp d:Sp}(F:y_ P w K e a CX k f fd ps sp)
  (h:∀c H Q E,d c H Q E->sp c H Q E):y_ P w K e a CX k f fd ps d:=
 ⟨λc H Q E q=>F.len c H Q E (h _ _ _ _ q),λA b s H args m c Q E l j i n g=>F.run A b s H args m c Q E l j i n (h _ _ _ _ g)⟩
def AN.make{P:Sl}{w:So}{K:Sg}{c:RU}{b:Heap}{A:Su}{a:List Env}{s:RZ}{H:Hp}(e:AN P w K c b A a s H)(C:Addr)(us:Sa)(d:SR):
  AN P w K c b (A.under (.builtin "type.__call__" ⟨.ref C::us,d⟩)) a s H:=⟨by first|exact e.frames|(simpa[Around.under,Code.envs,Code.isFrame,pushEnvs]using e.frames),e.mod,e.bs,e.bsz,e.iH,e.frf,e.hok,e.bare⟩
def Inv.tI(I:Inv X pins σ H s):AN X.prog X.w X.K X.mg X.base X.A X.stack s H:=
 ⟨I.ok.frames,I.ok.mod,I.bs,a0l I.ok.bsz I.sz,I.stack,I.cE,I.hok,I.bare⟩
def Inv.after(I:Inv X pins σ H s)(h:CE X.stack X.prog X.w H s Q u s'):EP X pins σ Q u s':=by obtain⟨v,j,f,a,un,c,r,q⟩:=h;obtain⟨i,g,d,t,e⟩:=s';obtain rfl:e=s.os:=f;exact⟨v,j,I.call un c a (λb z=>absurd z (by simp)),r,q⟩
def N9(sp:Sp)(dvs:Sh)(E:XK)(t:TA):TE:=λc H Q=>t c H λb a=>sp (b++dvs) a Q E
def N_(C:Addr)(sp:Sp)(dvs:Sh)(E:XK)(t:TA):TE:=λe H Q=>t e H λd b=>∀x a,b x=none->b a=none->a≠x->
 sp (.ref x::(d++dvs)) (upd (upd b a (.own x)) x (.ins C a [])) (λv c=>v=.non/\Q (.ref x) c) E
def Binds(K:Sg)(fd:Sq)(ps:RS)(b:Sa):Prop:=
 ∀(s:RZ)(a:Sa),K.In s.heap->(a++b).length=ps.length->BindsTo s fd ⟨a,[]⟩ (ps.zip (a++b))
def Binds.all{K:Sg}{fd:Sq}{ps:RS}(h:∀a:List Value,a.length=ps.length->bindArgs fd ⟨a,[]⟩=pure (ps.zip a)):Binds K fd ps []:=λs a _ b=>by rw[a0i]at b ⊢;exact .of_eq (h a b)
def Passes(CX:CXT)(X:Cx)(E:XK):Prop:=∀(a:RT)(c:St)(H:Hp)(s:RZ)(e:Value)(b:RZ),Inv X a c H s->CX X.stack H s E e b->X.xe e b
section
variable {X:Cx}{CX:CXT}{k:Nat}{f C:Addr}{fd:Sq}{ps:RS}{sp:Sp}{dvs:Sh}{ds:Sa}{E:XK}{x:Str}{p pos:Pos}{e:Sf}{es:Sd}{t:TA}
def tJ(F:y_ X.prog X.w X.K X.mg X.base CX k f fd ps sp)(j:vB k X.A)(l:Binds X.K fd ps ds)(i:Vals dvs ds)(c:Passes CX X E)
  (I:Inv X pins σ H s) (r:Vals vs us) (h:sp (vs++dvs) H Q E):wpAny (Ts X) X.A (call (.ref f) us) (EP X pins σ Q) X.xe s:=by
 have b:=r.append i;have d:(us++ds).length=ps.length:=by rw[<- b.length];exact F.len _ _ _ _ h
 refine a1H (a1D (F.run X.A X.stack s H ⟨us,[]⟩ (us++ds) (vs++dvs) Q E j I.tI (l s us I.kIn d) b h) λr g a=>?_);cases r with
 |error e=>exact c pins σ H s e g I a
 |ok fl=>
  cases fl with
  |ret u=>exact I.after a
  |next=>exact False.elim a
  |brk=>exact False.elim a
  |cont=>exact False.elim a
def iQ(F:y_ X.prog X.w X.K X.mg X.base CX k f fd ps sp)(j:vB k X.A)(w:Gl X x)(g:X.mg x=some (.ref f))(v:PySem.W.keepIn X.K (.ref f)=true)(l:Binds X.K fd ps ds)(i:Vals dvs ds)(d:Passes CX X E)
  (n:PA X (e::es) t) (b:(x==("__debug__":Str))=false:=by decide) (he:starEach (e::es) X.env=(false,eval e X.env)::starEach es X.env:=by rfl) (hpl:(backTo pos (starEach es X.env)).any (·.1)=false:=by rfl):
  PE X (.Call (.Name x p) (e::es) [] pos) (N9 sp dvs E t):=by
 intro a s u H Q I h;refine a09 (X9 I w g ?_ b);refine a1R I.ok.mod.kin v (thn (n pos a s u H _ I h) λB y ⟨z,A,c,r,q⟩=>⟨c.kIn,?_⟩) he hpl;exact tJ F j l i d c r q
structure Mk(K:Sg)(C f:Addr):Prop where
 makes:PySem.W.makesIn K C=true
 init:PySem.W.findIn K (.ref C) "__init__"=some (some (.ref f))
 fn:PySem.W.isFn K (.ref f)=true
 kp:PySem.W.keepIn K (.ref C)=true
def A_(M:Mk X.K C f)(F:y_ X.prog X.w X.K X.mg X.base CX k f fd ps sp)(n:vB (k+1) X.A)(w:Binds X.K fd ps ds)(l:Vals dvs ds)
  (i:Passes CX X E) (I:Inv X pins σ H s) (r:Vals vs us)
  (h:∀x b,H x=none->H b=none->b≠x->sp (.ref x::(vs++dvs)) (upd (upd H b (.own x)) x (.ins C b [])) (λv j=>v=.non/\Q (.ref x) j) E):
  wpAny (Ts X) X.A (call (.ref C) us) (EP X pins σ Q) X.xe s:=by
 have g:=h (`g+1) s.heap.objs.size (I.hok.fresh (a0Y _)) (I.hok.fresh (S0 _)) (a0e (a0L _));have c:=Inv.made (C:=C) I;have d:Vals (V.ref (`g+1)::(vs++dvs)) (Value.ref (`g+1)::(us++ds)):=.cons rfl (r.append l);have y:=by have e:=d.length;rw[F.len _ _ _ _ g]at e;exact e.symm
 refine a1H (A9 I.kIn M.makes M.init (a0t.mp M.fn) (a1D (F.run _ X.stack _ _ ⟨Value.ref (`g+1)::us,[]⟩ (Value.ref (`g+1)::(us++ds)) _ _ E (n.make C us [])
  (c.tI.make C us []) (w _ (Value.ref (`g+1)::us) c.kIn y) d g) λr z a=>?_))
 cases r with
 |error e=>exact i pins σ _ _ e z c a
 |ok fl=>
  cases fl with
  |ret u=>obtain⟨v,A,q,D,ev,B⟩:=c.after a;subst ev;exact⟨D,⟨V.ref (`g+1),A,q,rfl,B⟩⟩
  |next=>exact False.elim a
  |brk=>exact False.elim a
  |cont=>exact False.elim a
def tK(M:Mk X.K C f)(F:y_ X.prog X.w X.K X.mg X.base CX k f fd ps sp)(j:vB (k+1) X.A)(v:Gl X x)(g:X.mg x=some (.ref C))(l:Binds X.K fd ps ds)(i:Vals dvs ds)(d:Passes CX X E)
  (n:PA X (e::es) t) (b:(x==("__debug__":Str))=false:=by decide) (he:starEach (e::es) X.env=(false,eval e X.env)::starEach es X.env:=by rfl) (hpl:(backTo pos (starEach es X.env)).any (·.1)=false:=by rfl):
  PE X (.Call (.Name x p) (e::es) [] pos) (N_ C sp dvs E t):=by
 intro a s u H Q I h;refine a09 (X9 I v g ?_ b);refine a1R I.ok.mod.kin M.kp (thn (n pos a s u H _ I h) λA w ⟨y,z,c,r,q⟩=>⟨c.kIn,?_⟩) he hpl;exact A_ M F j l i d c r q
end
def PK(X:Cx)(c:List Keyword)(t:TA):Prop:=
 ∀(b:Pos)(a:RT)(s:RZ)(d:St)(H:Hp)(Q:List V->Hp->Prop),Inv X a d H s->t d H Q->wpAny (Ts X) X.A (evalAll ((backToKw b (keywordEach c X.env)).map (·.2))) (AP X a d Q) X.xe s
section
variable {X:Cx}{x:Str}{pos kpos:Pos}{e:Sf}{kws:List Keyword}{te:TE}{t:TA}{nm:Option Str}
def Ie:PK X [] N8:=λ_ _ _ _ H Q I h=>wpAny_evalAll_nil ⟨[],H,I,.nil,h⟩
def EU(i:PE X e te)(d:PK X kws t):PK X (⟨nm,e,kpos⟩::kws) (Ic te t):=by intro pos a s b H Q I h;exact wpAny_evalAll_cons (u8 (thn (i a s b H _ I h) λu l ⟨x,r,w,q,n⟩=>u8 (a1L (T1 (thn (d pos a l b r _ w n) λA s2 ⟨z,c,y,g,j⟩=>⟨x::z,c,y,.cons q g,j⟩)))))
end
structure zy(N P:RS)(sc:Scope):Prop where
 kind:sc.kind=.function
 co:sc.isCoroutine=false
 gen:sc.isGenerator=false
 nd:N.Nodup
 pre:N.take P.length=P
 par:∀x∈P,sc.names.lookup x=some .local\/sc.names.lookup x=some .cell
 Nt:∀y∈sc.names,y.2≠.free
theorem fk{a:SX}{x:Str}:∀{binds:SR}{m:RU},(∀v,(x,v)∉binds)->bindL a binds m x=m x
 |[],_,_=>rfl
 | (n,v)::r,m,h=>by
  unfold bindL;rw[fk λw b=>h w (R9 _ b)];split
  .have:x≠n:=by rintro rfl;exact h v v4
   simp[this]
  .rfl
theorem fm{a:SX}{x:Str}:∀{binds:SR}{m:RU},(∀v,(x,v)∉binds)->bindC a binds m x=m x
 |[],_,_=>rfl
 | (n,v)::r,m,h=>by
  unfold bindC;rw[fm λw b=>h w (R9 _ b)];split
  .rfl
  .have:x≠n:=by rintro rfl;exact h v v4
   simp[this]
theorem fo{a:SX}{x:Str}{v:Value}:∀{P:RS}{b:Sa}{i:Nat}{m:RU},P.Nodup->P[i]?=some x->b[i]?=some v->a x=some .local->
  bindL a (P.zip b) m x=some v
 |[],_,_,_,_,h,_,_=>by simp at h
 |_::_,[],_,_,_,_,h,_=>by simp at h
 |p::P,w::b,0,m,e,d,c,f=>by simp at d c;subst d;subst c;show bindL a ((p,w)::P.zip b) m p=_;unfold bindL;rw[fk λv g=>(a0U.mp e).1 (a2h g).1,if_pos f];simp
 |p::P,w::b,i+1,m,e,d,c,f=>by unfold bindL;exact fo (i:=i) (a0U.mp e).2 (by simpa using d) (by simpa using c) f
theorem fq{a:SX}{x:Str}{v:Value}:∀{P:RS}{b:Sa}{i:Nat}{m:RU},P.Nodup->P[i]?=some x->b[i]?=some v->a x≠some .local->
  bindC a (P.zip b) m x=some v
 |[],_,_,_,_,h,_,_=>by simp at h
 |_::_,[],_,_,_,_,h,_=>by simp at h
 |p::P,w::b,0,m,e,d,c,f=>by simp at d c;subst d;subst c;show bindC a ((p,w)::P.zip b) m p=_;unfold bindC;rw[fm λv g=>(a0U.mp e).1 (a2h g).1,if_neg f];simp
 |p::P,w::b,i+1,m,e,d,c,f=>by unfold bindC;exact fq (i:=i) (a0U.mp e).2 (by simpa using d) (by simpa using c) f
def start(N:RS)(vs:Sh):St:=vs.map some++List.replicate (N.length-vs.length) none
def pT(CX:CXT)(P:Sl)(w:So)(K:Sg)(h:RU)(d:Heap)(N:RS)(c:Str)(b:Scope)(f:Addr)(cd:Value)(A:Su)(a:List Env)(s:RZ)(H:Hp)(E:XK):Cx where
 prog:=P
 w:=w
 K:=K
 mg:=h
 base:=d
 A:=A.deeper (envOfC c b s.heap.objs.size f cd)
 N:=N
 s₀:=s
 H₀:=H
 env:=envOfC c b s.heap.objs.size f cd
 outer:=a
 stack:=envOfC c b s.heap.objs.size f cd::a
 ex:=[]
 calm:=true
 fn:=λ_=>true
 pn:=[]
 xe:=λe j=>wpAny (model P w) (A.deeper (envOfC c b s.heap.objs.size f cd)) (leaving (envOfC c b s.heap.objs.size f cd) e) (λ_ g=>CX a H s E e g) (λi g=>CX a H s E i g) j
def m7{sc:Scope}{n:Nat}{x:Str}(h:sc.names.lookup x=some .cell):∃c,(cellsFrom n sc.names []).lookup x=some c:=by have q:=a26 sc.names n [] (.inl h);exact a0O.mp q
def tL{CX:CXT}{P:Sl}{w:So}{K:Sg}{I:RU}{m:Heap}{N ps:RS}{j:Str}{d:Scope}{f:Addr}{cd:Value}{A:Su}{g:List Env}{s M:RZ}{H:Hp}{E:XK}{us:Sa}{vs:Sh}
  (S:zy N ps d) (Q:A.handled=none) (o:AN P w K I m A g s H) (U:vs.length=ps.length) (r:Vals vs us)
  (x:InCallC s s.heap.objs.size (bindL (envOfC j d s.heap.objs.size f cd).kindOf (ps.zip us) λ_=>none) (cellsFrom (`g+1) d.names []) (bindC (envOfC j d s.heap.objs.size f cd).kindOf (ps.zip us) λ_=>none) M):
  Inv (pT CX P w K I m N j d f cd A g s H E) [] (start N vs) H M:=by
 have O:=by have:=a0K List.length S.pre;rw[a0x]at this;omega
 obtain⟨G,W,rfl,L⟩:=x.done;have B:∀b:Addr,b∉(pT CX P w K I m N j d f cd A g s H E).ex:=λb z=>absurd (show b∈([]:List Addr)from z) (by simp);refine⟨⟨o.mod,S.kind,rfl,rfl,S0 _,λy z c G l=>?_,λy C=>?_,λy c _ h=>?_,λ_=>Q,Around.frames_deeper o.frames,.inr ⟨rfl,rfl⟩,λb z=>absurd z (B b),o.bs,o.bsz,λb _ _=>B b,λb z=>absurd z (B b),o.iH,o.frf⟩,
  rfl,o.bare,Un.kept L,⟨_,x.toInCall.ns,λi y v G l X=>?_⟩,λy c h=>⟨_,x.cell y c h⟩,o.hok.fresh (S0 _),λy c h=>?_,λp hp=>absurd (show p∈([]:List (Addr×Obj))from hp) (by simp),o.hok.kept L,?_⟩
 .exact name_of_addr x.apart (a1o G) (a1o l)
 .have C:=C;rcases C with C|C
  .exact m7 C
  .exact absurd rfl (S.Nt _ (a1o C))
 .exact a2f (x.above y c (a1o h))
 .have F:i<vs.length:=by
   unfold start at l;by_cases F:i<vs.length
   .exact F
   .rw[a0b `c]at l;rw[a06]at l;split at l<;>cases l
  have R:vs[i]?=some v:=by
   unfold start at l;rw[a0a `c,a0d]at l;cases e:vs[i]? with
   |none=>rw[e]at l;cases l
   |some a=>rw[e]at l;cases l;rfl
  obtain⟨u,J,T⟩:=r.get R;have hp:ps[i]?=some y:=by rw[<- S.pre,List.getElem?_take_of_lt `a];exact G
  have D:ps.Nodup:=by rw[<- S.pre];exact S.nd.sublist (a2D _ _)
  refine⟨u,T,?_⟩;rcases S.par y (a0H hp)with k|k
  .exact .inl ⟨k,fo D hp J k⟩
  .obtain⟨c,e⟩:=m7 k;refine .inr ⟨.inl k,c,e,?_⟩;have q:=x.cell y c e;rw[fq D hp J (by show d.names.lookup y≠_;rw[k];decide)]at q;exact q
 .exact o.hok.fresh (a2f (x.above y c (a1o h)))
 .unfold start;show _=N.length;rw[R7,f8,a04];omega
def Oa{CX:CXT}{P:Sl}{w:So}{K:Sg}{L:RU}{i:Heap}{k:Nat}{f:Addr}{z d:Str}{h:Arguments}{j:SE}{a:Scope}{X kV G Y g ct oc:Value}{an od:SK}
  {M:SI}{N ps:RS}{sp:Sp}(lk:K.lookup f=some ⟨oc,od,.func (PySem.W.fnOf z d h j a X kV G Y an g ct),M⟩) (W:PySem.W.codeIn K g d=true) (S:zy N ps a)
  (len:∀l H Q E,sp l H Q E->l.length=ps.length)
  (sD:∀(A:Su)(c:List Env)(s:RZ)(H:Hp)(l:Sh)(Q:VK)(E:XK),vB k (A.deeper (envOfC d a s.heap.objs.size f g))->sp l H Q E->
   ∃t,PSs (pT CX P w K L i N d a f g A c s H E) j t/\t { nx:=λ_ p=>Q .non p,rt:=Q } (start N l) H):
  y_ P w K L i CX (k+1) f (PySem.W.fnOf z d h j a X kV G Y an g ct) ps sp:=by
 refine⟨len,λA c s H args us l Q E R F hb r hsp=>?_⟩;have hl:=len _ _ _ _ hsp;have KX:=F.mod.kin.keeps λb o e=>(F.bs b o e).1;have O:=F.mod.nolimit.keeps λb o e=>(F.bs b o e).1;have B:∀y∈ps.zip us,a.names.lookup y.1=some .local\/(a.names.lookup y.1=some .cell/\((cellsFrom (`g+1) a.names []).lookup y.1).isSome=true):=λ⟨n,v⟩ hy=>by
  rcases S.par n (a2h hy).1 with q|q
  .exact .inl q
  .exact .inr ⟨q,a26 _ _ _ (.inl q)⟩
 refine codeAny_call_function R.depth (KX _ _ lk) rfl S.co S.gen rfl (PySem.W.codeRec_of KX W) (hb _ _ _ _ ?_);refine wpAny_newFunctionEnv_cells S.kind B λenv he Z x=>?_;subst he;refine⟨O.keeps x.toInCall.keep,codeAny_func ?_⟩;obtain⟨t,ht,hq⟩:=sD A c s H l Q E (R.deeper _) hsp;have I:Inv (pT CX P w K L i N d a f g A c s H E) [] (start N l) H Z:=tL S R.hd F hl r x;refine a0G (ht [] Z (start N l) H _ I hq) (λfl T C=>?_) λe T C=>C;have D:∀{m:St}{p:Hp}{v:V}{u:Value},Inv (pT CX P w K L i N d a f g A c s H E) [] m p T->RelV v u->Q v p->CE c P w H s Q u T:=
  λ{m p v u} J U q=>⟨v,p,J.os,J.bare,J.base,J.hok,U,q⟩
 cases fl with
 |ret u=>obtain⟨v,m,p,J,U,q⟩:=C;exact D J U q
 |next=>obtain⟨m,p,J,q⟩:=C;exact D (v:=V.non) J rfl q
 |brk=>obtain⟨_,_,_,q⟩:=C;exact False.elim q
 |cont=>obtain⟨_,_,_,q⟩:=C;exact False.elim q
section
variable {X:Cx}{x:Str}{p pos:Pos}{e:Sf}{es:Sd}{t:TA}{id T:String}{r:List V->Hp->VK->Prop}
def tCB(r:List V->Hp->VK->Prop)(t:TA):TE:=λc H Q=>t c H λb a=>r b a Q
def m8(m:ZZ X (.builtin id) r)(v:Gl X x)(d:X.mg x=none)(u:bootBuiltins x=some (.builtin id))(f:PA X (e::es) t)(l:x≠"__name__":=by decide)(b:(x==("__debug__":Str))=false:=by decide)
  (he:starEach (e::es) X.env=(false,eval e X.env)::starEach es X.env:=by rfl) (hpl:(backTo pos (starEach es X.env)).any (·.1)=false:=by rfl):PE X (.Call (.Name x p) (e::es) [] pos) (tCB r t):=by
 intro a s c H Q I h;exact a09 (bD I v d u (PyProof.Rows.callWith_builtin1 (thn (f pos a s c H _ I h) λw g ⟨i,o,q,n,j⟩=>m a g c o i w Q q n j) he hpl) l b)
def tM(m:ZZ X (.type T) r)(v:Gl X x)(d:X.mg x=none)(u:bootBuiltins x=some (.type T))(f:PA X (e::es) t)(l:x≠"__name__":=by decide)(b:(x==("__debug__":Str))=false:=by decide)
  (he:starEach (e::es) X.env=(false,eval e X.env)::starEach es X.env:=by rfl) (hpl:(backTo pos (starEach es X.env)).any (·.1)=false:=by rfl):PE X (.Call (.Name x p) (e::es) [] pos) (tCB r t):=by
 intro a s c H Q I h;exact a09 (bD I v d u (a1G (thn (f pos a s c H _ I h) λw g ⟨i,o,q,n,j⟩=>m a g c o i w Q q n j) he hpl) l b)
end
end L2
namespace HT
open PySem PyProof.Rows
section
def sIx(n d:Nat):Option Int->Nat
 |none=>d
 |some v=>if v<0 then(v+(n:Int)).toNat else min v.toNat n
end
end HT
namespace L2
open PySem PySem.Spec PyProof.Rows
abbrev TO:=St->Hp->(Option Int->Hp->Prop)->Prop
def PO(X:Cx)(e:SY)(t:TO):Prop:=
 ∀(a:RT)(s:RZ)(b:St)(H:Hp)(Q:Option Int->Hp->Prop),Inv X a b H s->t b H Q->
  wpAny (Ts X) X.A (evalPart e X.env) (λu d=>∃o c,Inv X a b c d/\IsPart u o/\Q o c) X.xe s
def EV:TO:=λ_ H Q=>Q none H
def Ob(t:TE):TO:=λb H Q=>t b H λx a=>∃i,x=.int i/\Q (some i) a
section
variable {X:Cx}{e:Sf}{te:TE}{lo hi:SY}{tl th:TO}{pos p2:Pos}
def EW:PO X none EV:=by intro a s b H Q I h;exact T1 ⟨none,H,I,.none,h⟩
def EX(h:PE X e te):PO X (some e) (Ob te):=by intro a s j H Q I g;refine thn (h a s j H _ I g) λu l ⟨x,d,c,b,f⟩=>?_;obtain⟨i,rfl,q⟩:=f;obtain⟨t,rfl⟩:=b;exact⟨some i,d,c,.int i t,q⟩
def SlR(X:Cx)(r:V->Option Int->Option Int->Hp->VK->Prop):Prop:=
 ∀(a:RT)(s:RZ)(f:St)(H:Hp)(x:V)(v b c:Value)(lo hi:SQ) (d:Addr) (Q:VK),Inv X a f H s->RelV x v->s.heap.IsSliceOf d b c .none->IsPart b lo->IsPart c hi->r x lo hi H Q->
  ∃T id,typeLookup (.type T) "__getitem__"=pure (some (.builtin id))/\s.TypeIs v T/\wpAny (Ts X) X.A (getItem v (.ref d)) (EP X a f Q) X.xe s
def SlR.or(h:SlR X r)(h':SlR X r'):SlR X (λx lo hi H Q=>r x lo hi H Q\/r' x lo hi H Q):=by
 intro a s j H x v b f lo hi i Q I g d l c q;rcases q with q|q
 .exact h a s j H x v b f lo hi i Q I g d l c q
 .exact h' a s j H x v b f lo hi i Q I g d l c q
def tSl(r:V->Option Int->Option Int->Hp->VK->Prop)(te:TE)(tl th:TO):TE:=λa H Q=>te a H λx c=>tl a c λl b=>th a b λu d=>r x l u d Q
def m9(o:SlR X r)(he:PE X e te)(y:PO X lo tl)(m:PO X hi th):PE X (.Subscript e (.Slice lo hi none p2) pos) (tSl r te tl th):=by intro a s d H Q I h;refine Subscript_ (thn (he a s d H _ I h) λv w ⟨x,E,F,D,A⟩=>?_);refine wpAny_Slice (thn (y a w d E _ F A) λf s2 ⟨l,j,G,M,p⟩=>thn (m a s2 d j _ G p) λg c ⟨u,i,n,B,C⟩=>?_);refine T1 ?_;have L:Inv X a d i { c with heap:=c.heap.push { cls:=.type "slice",data:=.fields #[f,g,.none] } }:=n.kept λb ob q=>S4 _ q;obtain⟨T,id,J,z,K⟩:=o a { c with heap:=c.heap.push { cls:=.type "slice",data:=.fields #[f,g,.none] } } d i x v f g l u c.heap.objs.size Q L D (Heap.IsSliceOf.new ..) M B C;exact tail_any z J K rfl
def C8(xs:Sh)(lo hi:SQ):List V:=(xs.drop (HT.sIx xs.length 0 lo)).take (HT.sIx xs.length xs.length hi-HT.sIx xs.length 0 lo)
def iR(xs:Sh)(lo hi:SQ):(C8 xs lo hi).length<=xs.length:=by unfold C8;rw[a0x,a0D];omega
end
def ixN(n:Nat)(i:Int):Option Nat:=if 0<=i then(if i<n then some i.toNat else none)else if -(n:Int)<=i then some (i+n).toNat else none
def atI{a:Type}(xs:List a)(i:Int):Option a:=(ixN xs.length i).bind λj=>xs[j]?
def tN(h:ixN n i=some j):seqIndex? i n=some j/\j<n/\-(n:Int)<=i/\i<n:=by
 unfold ixN at h;by_cases b:0<=i
 .rw[if_pos b]at h;by_cases a:i<n
  .rw[if_pos a]at h;have e:=a0y h;exact⟨by rw[a3K b a,e],`d,`d,a⟩
  .rw[if_neg a]at h;cases h
 .rw[if_neg b]at h;by_cases a:-n<=i
  .rw[if_pos a]at h;have e:=a0y h;exact⟨by rw[a3F `a a,e],`d,a,`d⟩
  .rw[if_neg a]at h;cases h
def iS{a:Type}{xs:List a}{v:a}(h:atI xs i=some v):∃j,seqIndex? i xs.length=some j/\xs[j]?=some v/\j<xs.length/\-(xs.length:Int)<=i/\i<xs.length:=by
 unfold atI at h;cases e:ixN xs.length i with
 |none=>rw[e]at h;cases h
 |some j=>rw[e]at h;obtain⟨f,b,c,d⟩:=tN e;exact⟨j,f,h,b,c,d⟩
def Ua(b:Sf):Prop:=∀o i,subscripted b false o i=operate [o,i] (getItem o i)
def IxR(X:Cx)(r:R2):Prop:=
 ∀(c a:Sf)(b:RT)(s:RZ)(d:St)(H:Hp)(x y:V)(v u:Value) (Q:VK),Inv X b d H s->RelV x v->RelV y u->r x y H Q->
  subscripted a false v u=operate [v,u] (getItem v u)->wpAny (Ts X) X.A (subscriptTail c a v u) (EP X b d Q) X.xe s
def MtR(X:Cx)(id:String)(r:V->List V->Hp->VK->Prop):Prop:=
 ∀(a:RT)(s:RZ)(c:St)(H:Hp)(x:V)(d:Sh)(v:Value) (b:Sa) (Q:VK),Inv X a c H s->RelV x v->Vals d b->r x d H Q->
  wpAny (Ts X) X.A (call (.builtin id) (v::b)) (EP X a c Q) X.xe s
section
variable {X:Cx}{a b:Sf}{ta tb:TE}{pos:Pos}
def IxR.or(h:IxR X r)(h':IxR X r'):IxR X (λx y H Q=>r x y H Q\/r' x y H Q):=by
 intro d c e s j H x y v u Q I g i q f;rcases q with q|q
 .exact h d c e s j H x y v u Q I g i q f
 .exact h' d c e s j H x y v u Q I g i q f
def EY(e:IxR X r)(i:PE X a ta)(f:PE X b tb)(j:Ua b):PE X (.Subscript a b pos) (tOp r ta tb):=by intro c s g H Q I h;exact Subscript_ (N5 i f I h λv u s2 x y d l n m q=>e a b c s2 g d x y v u Q l n m q (j _ _))
def Pp(K:Sg):R2:=λx y H Q=>∃p c i v,x=.ref p/\y=.int i/\SqL K H p c/\atI c i=some v/\Q v H
def Pq(K:Sg):R2:=λx y H Q=>∃p c i v,x=.ref p/\y=.int i/\SqT K H p c/\atI c i=some v/\Q v H
def Pr:R2:=λx y H Q=>∃z i c,x=.str z/\y=.int i/\z.length<=sizeLine/\atI z.cps.toList i=some c/\Q (.str ⟨#[c]⟩) H
def EZ:IxR X (Pp X.K):=by
 intro f m c s A H x y v u Q I O N h C;obtain⟨p,S,i,z,rfl,rfl,L,E,q⟩:=h;cases O;obtain⟨t,rfl⟩:=N;obtain⟨n,r,o,hz⟩:=I.list L;obtain⟨j,e,M,R,F,K⟩:=iS E;obtain⟨w,B,g⟩:=r.get M;have G:=r.length;have P:=fh;have d:EP X c A Q w s:=⟨z,H,I,g,q⟩;by_cases D:0<=i
 .have l:=by rw[a3K D K]at e;exact a0y e
  exact item_listR o.isList D `a `c d C
 .have l:(i+n.toArray.size).toNat=j:=by rw[a3F `a F]at e;rw[T4,<- G];exact a0y e
  exact a27 o.isList.typeIs slot_list_getitem.lookup
   (wpAny_getItem_list_neg o.isList `a `c `a `c ⟨rfl,d⟩) C
def Ig:IxR X (Pq X.K):=by
 intro d g c s l H x y v u Q I G F h D;obtain⟨p,P,i,z,rfl,rfl,C,n,q⟩:=h;cases G;obtain⟨t,rfl⟩:=F;obtain⟨J,r,m,hz⟩:=I.tuple C;obtain⟨j,K,E,O,L,N⟩:=iS n;obtain⟨w,A,f⟩:=r.get E;have o:=r.length;have M:=fh;have e:EP X c l Q w s:=⟨z,H,I,f,q⟩;exact a27 m.typeIs slot_tuple_getitem.lookup
  (getItem_tuple (j:=j) m `a `a `c `c ⟨rfl,e⟩) D
def Y8:IxR X Pr:=by
 intro d e f s D H x y v u Q I C B h w;obtain⟨z,i,c,rfl,rfl,hz,l,q⟩:=h;obtain⟨t,rfl⟩:=C;obtain⟨F,rfl⟩:=B;obtain⟨j,g,A,G,m,r⟩:=iS l;have n:z.cps.toList.length=z.length:=by simp[Str.length]
 rw[n]at g m r;have E:=fh;exact tail_any (typeIs_str s z t) slot_str_getitem.lookup (getItem_str (by
  have o:decide (i < -(2 ^ 63:Int))=false:=S7 `a;have p:decide (i ≥ 2 ^ 63)=false:=S7 `a;rw[o,p,Bool.or_false]) `c ⟨.str ⟨#[c]⟩,H,I.tok _,⟨_,rfl⟩,q⟩) w
def rIx(K:Sg):R2:=λx y H Q=>Pp K x y H Q\/Pq K x y H Q\/Pr x y H Q
def C9:IxR X (rIx X.K):=EZ.or (Ig.or Y8)
def pV(its:Sa)(n j:Nat)(u:Value):Obj.mapSeq (·.setIfInBounds j u) { cls:=.type "list",data:=.seq its.toArray n }={ cls:=.type "list",data:=.seq (its.set j u).toArray n }:=by simp[Obj.mapSeq]
def Inv.lst(I:Inv X pins σ H s)(h:H p=some (.lst xs)):
  ∃(c:Sa)(n:Nat),Vals xs c/\s.heap.get? p=some { cls:=.type "list",data:=.seq c.toArray n }/\xs.length<=sizeLine:=by
 obtain⟨z,c,n,r,e⟩:=I.hok p _ h;exact⟨c,n,r,e,z⟩
def Inv.Ih{pins:RT}{σ:St}{H:Hp}{s:RZ}{p:Addr}{xs ys:Sh}{its its':Sa}{n c:Nat}{f:Obj->Obj}(I:Inv X pins σ H s)(h:H p=some (.lst xs))
  (g:s.heap.get? p=some { cls:=.type "list",data:=.seq its.toArray n }) (hf:f { cls:=.type "list",data:=.seq its.toArray n }={ cls:=.type "list",data:=.seq its'.toArray c }) (r:Vals ys its') (hz:ys.length<=sizeLine) (t:Nat):
  Inv X pins σ (upd H p (.lst ys)) { s with heap:=s.heap.update p f,toks:=t }:=by
 have e:(s.heap.update p f).get? p=some { cls:=.type "list",data:=.seq its'.toArray c }:=by rw[a0V f g (by rw[hf]<;>rfl),hf]
 exact I.write (x:=p) (e:=p) (by rw[h];trivial) (.inl rfl) (λb u d q=>(a0r _ _ (Ne.symm d)).trans q) ⟨_,e⟩ ⟨hz,its',c,r,e⟩
def Oc:V->V->V->Hp->(Hp->Prop)->Prop:=λo i v H Q=>∃p c k j,o=.ref p/\i=.int k/\H p=some (.lst c)/\ixN c.length k=some j/\Q (upd H p (.lst (c.set j v)))
def set_list:Pk X Oc:=by
 intro c s A H o i v G F u Q I z B D h;obtain⟨p,E,k,j,rfl,rfl,hp,C,q⟩:=h;cases z;obtain⟨t,rfl⟩:=B;obtain⟨d,n,r,f,hz⟩:=I.lst hp;obtain⟨e,K,w,m⟩:=tN C;have l:=r.length;have J:=fh;have y:=
  I.Ih hp f (pV d n j u) (r.set D j) `c s.toks
 by_cases x:0<=k
 .have g:=by rw[a3K x m]at e;exact a0y e
  exact PySem.W.ki_setAt f x `a `c `c
 .have g:(k+d.toArray.size).toNat=j:=by rw[a3F `a w]at e;rw[T4,<- l];exact a0y e
  exact PySem.W.ki_setBack f `a `c `a `c
def ft(d c:SQ)(n:Nat):(sliceBounds d c none n).1=((HT.sIx n 0 d:Nat):Int)/\(sliceBounds d c none n).2.1=((HT.sIx n n c:Nat):Int)/\(sliceBounds d c none n).2.2=1:=by
 refine⟨?_,?_,rfl⟩
 .cases d with
  |none=>simp[sliceBounds,HT.sIx]
  |some i=>
   simp only[sliceBounds,HT.sIx,Option.getD_none,if_true];by_cases h:i<0
   .simp only[h,if_true]<;>omega
   .simp only[h,if_false]<;>omega
 .cases c with
  |none=>simp[sliceBounds,HT.sIx]
  |some i=>
   simp only[sliceBounds,HT.sIx,Option.getD_none,if_true];by_cases h:i<0
   .simp only[h,if_true]<;>omega
   .simp only[h,if_false]<;>omega
def cJ(its:Sa)(c d:SQ):slicePick its.toArray c d none=((its.drop (HT.sIx its.length 0 c)).take (HT.sIx its.length its.length d-HT.sIx its.length 0 c)).toArray:=by obtain⟨g,e,f⟩:=ft c d its.toArray.size;unfold slicePick;rw[g,e,f];simp only[sliceRange_one,pick_run]<;>rfl
def Rq(K:Sg):V->Option Int->Option Int->Hp->VK->Prop:=λx d e H Q=>∃a c,x=.ref a/\SqL K H a c/\∀p,H p=none->Q (.ref p) (upd H p (.lst (C8 c d e)))
def tO:SlR X (Rq X.K):=by intro g s w H x v z A e f y Q I n m u l h;obtain⟨a,c,rfl,j,q⟩:=h;cases n;obtain⟨p,r,i,hz⟩:=I.list j;have d:=r.length;refine⟨"list",_,slot_list_getitem.lookup,i.isList.typeIs,?_⟩;refine wpAny_getItem_list_slice i.isList m u l .none (by simp) ?_ `c;rw[cJ,<- d];refine⟨.ref `g,_,I.laid (λb ob q=>S4 _ q) (S0 _) ?_,rfl,q _ (I.hok.fresh (S0 _))⟩;exact⟨a0l (iR c e f) hz,_,0,(r.drop (HT.sIx c.length 0 e)).take (HT.sIx c.length c.length f-HT.sIx c.length 0 e),a0k _ rfl⟩
def Xd:V->Bool
 |.non=>true
 |.bl _=>true
 |.int _=>true
 |.str _=>true
 |_=>false
def eqV:V->V->Bool
 |.non,.non=>true
 |.bl a,.bl b=>a==b
 |.bl a,.int b=>(if a then 1 else 0)==b
 |.int a,.bl b=>a==(if b then 1 else 0)
 |.int a,.int b=>a==b
 |.str a,.str b=>a==b
 |_,_=>false
def C_(f:RelV y u)(c:RelV x v)(g:Xd y=true)(e:Xd x=true):SeqAt.EqAt A s u v (eqV y x):=by
 cases y with
 |non=>
  cases f;cases x with
  |non=>cases c;exact SeqAt.EqAt.same _
  |bl b=>cases c;exact SeqAt.EqAt.none_bool b
  |int b=>obtain⟨t,rfl⟩:=c;exact SeqAt.EqAt.none_int b t
  |str b=>obtain⟨t,rfl⟩:=c;exact SeqAt.EqAt.none_str b t
  |_=>exact absurd e a0c
 |bl a=>
  cases f;cases x with
  |non=>cases c;exact SeqAt.EqAt.bool_none a
  |bl b=>cases c;exact SeqAt.EqAt.bool_bool a b
  |int b=>obtain⟨t,rfl⟩:=c;exact SeqAt.EqAt.bool_int a b t
  |str b=>obtain⟨t,rfl⟩:=c;exact SeqAt.EqAt.bool_str a b t
  |_=>exact absurd e a0c
 |int a=>
  obtain⟨d,rfl⟩:=f;cases x with
  |non=>cases c;exact SeqAt.EqAt.int_none a d
  |bl b=>cases c;exact SeqAt.EqAt.int_bool a d b
  |int b=>obtain⟨t,rfl⟩:=c;exact SeqAt.EqAt.int_int a d b t
  |str b=>obtain⟨t,rfl⟩:=c;exact a3z a d b t
  |_=>exact absurd e a0c
 |str a=>
  obtain⟨d,rfl⟩:=f;cases x with
  |non=>cases c;exact SeqAt.EqAt.str_none a d
  |bl b=>cases c;exact SeqAt.EqAt.str_bool a d b
  |int b=>obtain⟨t,rfl⟩:=c;exact a3A a d b t
  |str b=>obtain⟨t,rfl⟩:=c;exact SeqAt.EqAt.str_str a d b t
  |_=>exact absurd e a0c
 |_=>exact absurd g a0c
def eqU(x:V)(u:Value):Bool:=match u with
 |.none=>eqV .non x
 |.bool b=>eqV (.bl b) x
 |.int i _=>eqV (.int i) x
 |.str z _=>eqV (.str z) x
 |_=>false
def Dc(r:RelV y u)(f:Xd y=true):eqU x u=eqV y x:=by
 cases y with
 |non=>cases r;rfl
 |bl b=>cases r;rfl
 |int i=>obtain⟨t,rfl⟩:=r;rfl
 |str z=>obtain⟨t,rfl⟩:=r;rfl
 |_=>exact absurd f a0c
theorem Ub{x:V}:∀{c:Sh}{d:Sa},Vals c d->c.all Xd=true->d.any (eqU x)=c.any λy=>eqV y x
 |_,_,.nil,_=>rfl
 |y::c,u::d,.cons r t,f=>by rw[a16,a2K]at f;rw[a0E,a0E,Dc r f.1,Ub t f.2]
theorem KO{A:Su}{s:RZ}{x:V}{v:Value}(g:RelV x v)(h:Xd x=true):∀{e:Sh}{d:Sa},Vals e d->e.all Xd=true->∀u∈d,SeqAt.EqAt A s u v (eqU x u)
 |_,_,.nil,_=>λu c=>by cases c
 |y::e,u::d,.cons r t,f=>λi c=>by
  rw[a16,a2K]at f;rcases T6.mp c with rfl|c
  .rw[Dc r f.1];exact C_ r g f.1 h
  .exact KO g h t f.2 i c
def inV(x:V)(xs:Sh):Bool:=xs.any λy=>eqV y x
def rIn(K:Sg)(d:Bool):R2:=λx y H Q=>∃p c,y=.ref p/\(SqL K H p c\/SqT K H p c)/\Xd x=true/\c.all Xd=true/\Q (.bl (if d then !inV x c else inV x c)) H
def tQ:OpR X (compareOp .In) (rIn X.K false):=by
 intro g s m H x y v u Q I i l h;obtain⟨p,n,rfl,d,j,fs,q⟩:=h;cases l;rcases d with d|d
 .obtain⟨c,r,f,hz⟩:=I.list d;refine SeqAt.in_listAt (eqU x) f.isList (λw e=>KO i j r fs w `c) ⟨.bl _,H,I,rfl,?_⟩;rw[show c.toArray.any (eqU x)=c.any (eqU x) by simp,Ub r fs];exact q
 .obtain⟨c,r,f,hz⟩:=I.tuple d;refine SeqAt.in_tupleAt (eqU x) f (λw e=>KO i j r fs w `c) ⟨.bl _,H,I,rfl,?_⟩;rw[show c.toArray.any (eqU x)=c.any (eqU x) by simp,Ub r fs];exact q
def fu:OpR X (compareOp .NotIn) (rIn X.K true):=by
 intro g s m H x y v u Q I i l h;obtain⟨p,n,rfl,d,j,fs,q⟩:=h;cases l;rcases d with d|d
 .obtain⟨c,r,f,hz⟩:=I.list d;refine SeqAt.notIn_listAt (eqU x) f.isList (λw e=>KO i j r fs w `c) ⟨.bl _,H,I,rfl,?_⟩;rw[show c.toArray.any (eqU x)=c.any (eqU x) by simp,Ub r fs];exact q
 .obtain⟨c,r,f,hz⟩:=I.tuple d;refine SeqAt.notIn_tupleAt (eqU x) f (λw e=>KO i j r fs w `c) ⟨.bl _,H,I,rfl,?_⟩;rw[show c.toArray.any (eqU x)=c.any (eqU x) by simp,Ub r fs];exact q
def fv:OpR X (compareOp .NotIn) (λx y H Q=>∃i j,x=.str i/\y=.str j/\Q (.bl (!(!(Builtin.Str.occurrences j i 0 j.length 1).isEmpty))) H):=by intro c s g H x y v u Q I d e h;obtain⟨i,j,rfl,rfl,q⟩:=h;obtain⟨t,rfl⟩:=d;obtain⟨f,rfl⟩:=e;exact notIn_str ⟨.bl _,H,I,rfl,q⟩
def ZZ.or(h:ZZ X f r)(h':ZZ X f r'):ZZ X f (λd H Q=>r d H Q\/r' d H Q):=by
 intro c s g H d e Q I rs q;rcases q with q|q
 .exact h c s g H d e Q I rs q
 .exact h' c s g H d e Q I rs q
def fB:ZZ X (.type "list") (λD H Q=>∃p f,D=[.ref p]/\(SqL X.K H p f\/SqT X.K H p f)/\∀l,H l=none->Q (.ref l) (upd H l (.lst f))):=by
 intro j s E H D G Q I r h;obtain⟨p,f,rfl,v,q⟩:=h;obtain⟨u,rfl,F⟩:=vals1 r;cases F;have w:∀(c:Sa),Vals f c->f.length<=sizeLine->∀(d:Heap)(g:Nat),(∀b C,s.heap.get? b=some C->d.get? b=some C)->
   d.get? `g=some { cls:=.type "list",dict:=none,data:=.seq c.toArray g,slots:=#[] }->EP X j E Q (.ref `g) { s with heap:=d }:=λc i hz d g x e=>
  ⟨.ref `g,_,I.laid x (S0 _) (show qu X.prog X.w _ d _ (.lst f)from⟨hz,c,g,i,e⟩),rfl,q _ (I.hok.fresh (S0 _))⟩
 rcases v with v|v
 .obtain⟨c,i,B,hz⟩:=I.list v;have m:=i.length;obtain⟨o,z,A,n,y⟩:=B.isList;exact call_list_seq p (.inl rfl) z A y (λd g x e=>w c i hz d g x e) `c
 .obtain⟨c,i,B,hz⟩:=I.tuple v;have m:=i.length;obtain⟨o,z,A,n,y⟩:=B;exact call_list_seq p (.inr rfl) z A y (λd g x e=>w c i hz d g x e) `c
def tyV(K:Sg)(T:String)(x:V)(H:Hp):Prop:=match x with
 |.str _=>T="str"
 |.int _=>T="int"
 |.ref p=>(T="list" /\ ∃d,SqL K H p d)\/(T="tuple" /\ ∃o,K.lookup p=some o/\o.cls=.type "tuple"/\o.dict=none)\/
   (T="dict"/\((∃c,H p=some (.dK c))\/∃c,H p=some (.dT c)))\/(T="set" /\ ∃S n,H p=some (.set S n))
 |_=>False
def Dd(I:Inv X pins σ H s)(r:RelV x v)(g:tyV X.K T x H):
  s.TypeIs v T/\∀a,v=.ref a->∃ob,s.heap.get? a=some ob/\ob.dict=none:=by
 cases x with
 |str z=>obtain⟨t,rfl⟩:=r;cases g;exact⟨typeIs_str s z t,λ_ e=>nomatch e⟩
 |int i=>obtain⟨t,rfl⟩:=r;cases g;exact⟨typeIs_int s i t,λ_ e=>nomatch e⟩
 |ref p=>
  cases r;rcases g with⟨rfl,y,q⟩|⟨rfl,o,d,u,h⟩|⟨rfl,d⟩|⟨rfl,S,n,d⟩
  .obtain⟨w,_,m,_⟩:=I.list q;refine⟨m.isList.typeIs,λa e=>?_⟩;cases e;obtain⟨o,n,e,c,h,_⟩:=m;exact⟨o,e,h⟩
  .refine⟨⟨o,I.kIn p o d,u⟩,λa e=>?_⟩;cases e;exact⟨o,I.kIn _ o d,h⟩
  .have z:∃o,s.heap.get? p=some o/\o.ExactDict:=by
    rcases d with⟨l,d⟩|⟨l,d⟩
    .obtain⟨_,_,_,_,o,_,_,e,f,_⟩:=I.hok p _ d;exact⟨o,e,f⟩
    .obtain⟨_,_,_,_,o,_,_,e,f,_⟩:=I.hok p _ d;exact⟨o,e,f⟩
   obtain⟨o,e,f⟩:=z;refine⟨⟨o,e,f.1⟩,λa j=>?_⟩;cases j;exact⟨o,e,f.2.1⟩
  .obtain⟨o,_,_,_,e,f,_⟩:=I.hok p _ d;refine⟨⟨o,e,f.1⟩,λa j=>?_⟩;cases j;exact⟨o,e,f.2.1⟩
 |_=>exact False.elim g
def Rr(K:Sg)(T:String)(r:V->List V->Hp->VK->Prop)(d:TE):TE:=λe H Q=>d e H λx c=>tyV K T x c/\r x [] c Q
def tBM(K:Sg)(T:String)(r:V->List V->Hp->VK->Prop)(e:TE)(t:TA):TE:=λd H Q=>e d H λx c=>tyV K T x c/\t d c λg f=>r x g f Q
variable {o e:Sf}{es:Sd}{to:TE}{t:TA}{name:Str}{jm ZW:Pos}{T id:String}{r:V->List V->Hp->VK->Prop}
def Ii(l:PlainAttrs T)(d:Slot T name id)(f:typeOf (.builtin id)=pure (.type "method_descriptor"))(n:MtR X id r)(p:PE X o to)
  (m:attributeBase o name X.env (eval o X.env)=eval o X.env:=by rfl) (A:(jm.endLine==ZW.line)=true:=by rfl):PE X (.Call (.Attribute o name jm) [] [] ZW) (Rr X.K T r to):=by
 intro c s g H Q I h;refine wpAny_Call_method0_late m A (thn (p c s g H _ I h) λv q ⟨x,y,j,i,u,w⟩=>?_);obtain⟨B,z⟩:=Dd j i u;exact⟨T,id,l,d,f,B,z,a14 rfl (PySem.evalArgs_none (n c q g y x [] v [] Q j i .nil w))⟩
def tR(p:PlainAttrs T)(f:Slot T name id)(i:typeOf (.builtin id)=pure (.type "method_descriptor"))(u:MtR X id r)(z:PE X o to)(y:PA X (e::es) t)
  (q:attributeBase o name X.env (eval o X.env)=eval o X.env:=by rfl)
  (F:((backTo ZW (starEach (e::es) X.env)).all (λx=>!x.1)&&(backToKw ZW (keywordEach [] X.env)).all (λx=>x.1.isSome)
   && decide ((e::es).length+([]:List Keyword).length+(if([]:List Keyword).isEmpty then 0 else 1)<30))=true:=by rfl)
  (M:(jm.endLine==ZW.line)=true:=by rfl) (G:starEach (e::es) X.env=(false,eval e X.env)::starEach es X.env:=by rfl) (d:(backTo ZW (starEach es X.env)).any (·.1)=false:=by rfl):
  PE X (.Call (.Attribute o name jm) (e::es) [] ZW) (tBM X.K T r to t):=by
 intro c s g H Q I h;refine wpAny_Call_method_late q F M rfl (thn (z c s g H _ I h) λv B ⟨x,J,m,l,D,E⟩=>?_);obtain⟨O,K⟩:=Dd m l D;refine⟨T,id,p,f,i,O,K,?_⟩;have j:=y ZW c B g J _ m E;rw[G]at j ⊢;refine a14 `c (a3n ?_);exact thn j λN s2 ⟨C,n,L,w,A⟩=>u c s2 g n x C v N Q L l w A
end
def MtM(X:Cx)(id:String)(r:V->List V->Hp->VK->Prop):Prop:=
 ∀(a:RT)(s:RZ)(c:St)(H:Hp)(x:V)(d:Sh)(v:Value) (b:Sa) (Q:VK),Inv X a c H s->RelV x v->Vals d b->r x d H Q->
  wpAny (Ts X) X.A (call (.builtin id) (v::b)) (EP X a c Q) X.xe s
def Vals.one:∀{x:V}{a:Sa},Vals [x] a->∃u,a=[u]/\RelV x u
 |_,_,.cons r .nil=>⟨_,rfl,r⟩
def Vals.two:∀{x y:V}{a:Sa},Vals [x,y] a->∃u v,a=[u,v]/\RelV x u/\RelV y v
 |_,_,_,.cons r (.cons q .nil)=>⟨_,_,rfl,r,q⟩
def Vals.zero:∀{a:Sa},Vals [] a->a=[]
 |_,.nil=>rfl
theorem Vals.eraseIdx:∀{a:Sh}{b:Sa}(i:Nat),Vals a b->Vals (a.eraseIdx i) (b.eraseIdx i)
 |_,_,_,.nil=>.nil
 |_,_,0,.cons _ t=>t
 |_,_,i+1,.cons r t=>.cons r (Vals.eraseIdx i t)
def Vals.reverse(h:Vals xs us):Vals xs.reverse us.reverse:=by
 induction h with
 |nil=>exact .nil
 |cons r t a=>rw[a1Y,a1Y];exact Vals.append a (.cons r .nil)
theorem Vals.rep{xs:Sh}{us:Sa}(h:Vals xs us):∀k:Nat,Vals (List.replicate k xs).flatten (List.replicate k us).flatten
 |0=>.nil
 |k+1=>by exact Vals.append h (Vals.rep h k)
theorem fC{a:Type}:∀(l:List a)(i:Nat),(l.eraseIdx i).length<=l.length
 |[],_=>S0 _
 |_::_,0=>a0Y _
 |_::r,i+1=>a07 (fC r i)
theorem foldl_rep(its:Sa):∀(k:Nat)(a:Sa),
  List.foldl (λd c=>d++c) a.toArray (List.replicate k its.toArray)=(a++(List.replicate k its).flatten).toArray
 |0,a=>by simp
 |k+1,a=>by
  have e:a.toArray++its.toArray=(a++its).toArray:=by simp
  have b:(a++its)++(List.replicate k its).flatten=a++(List.replicate (k+1) its).flatten:=by rw[a01,a0u,a0n]
  rw[<- b,<- foldl_rep its k (a++its),<- e,a01,a1v]
def Inv.Ij{its its':Sa}{n:Nat}{f:Array Value->Array Value}{t':Nat}(I:Inv X pins σ H s)(b:H l=some (.lst xs))
  (e:s.heap.get? l=some { cls:=.type "list",data:=.seq its.toArray n }) (hf:f its.toArray=its'.toArray) (d:Vals ys its') (hz:ys.length<=sizeLine):
  Inv X pins σ (upd H l (.lst ys)) { s with heap:=s.heap.update l (Obj.mapSeq f),toks:=t' }:=by
 have q:=PySem.IsL.update e f;rw[hf]at q;exact I.write (x:=l) (e:=l) (by rw[b];exact trivial) (.inl rfl) (λg u c a=>(a0r s.heap (Obj.mapSeq f) (Ne.symm c)).trans a) ⟨_,q⟩ ⟨hz,its',_,d,q⟩
def Inv.Od(I:Inv X pins σ H s)(a:Vals ys its)(hz:ys.length<=sizeLine):
  Inv X pins σ (upd H s.heap.objs.size (.lst ys)) { s with heap:=s.heap.push { cls:=.type "list",data:=.seq its.toArray },toks:=t' }:=
 I.laid (λ_ _ q=>S4 _ q) (S0 _) ⟨hz,its,0,a,a0k _ rfl⟩
def Inv.fresh(I:Inv X pins σ H s):H `g=none:=I.hok.fresh (S0 _)
def Inv.Ba(I:Inv X pins σ H s)(b:H l=some (.lst xs)):xs.length<=sizeLine/\∃(a:Sa)(n:Nat),Vals xs a/\xs.length=a.length/\s.heap.get? l=some { cls:=.type "list",data:=.seq a.toArray n }:=by obtain⟨z,a,n,r,e⟩:=I.hok l _ b;exact⟨z,a,n,r,r.length,e⟩
def m_(h:n<=sizeLine):Builtin.List.listTooLong n=false:=by exact S7 `a
section
variable {X:Cx}
def E8:V->List V->Hp->VK->Prop:=λx b H Q=>∃l a y,x=.ref l/\b=[y]/\H l=some (.lst a)/\a.length<sizeLine/\Q .non (upd H l (.lst (a++[y])))
def Uc:MtM X "list.append" E8:=by intro b s i H x m v p Q I g d h;obtain⟨l,o,y,rfl,rfl,c,hz,q⟩:=h;cases g;obtain⟨u,rfl,f⟩:=d.one;obtain⟨z,a,n,r,j,e⟩:=I.Ba c;refine a1X F.slot_list_append ⟨_,e,rfl⟩ F.entry_list_append (F.args_list_append_2 _ _) (PySem.list_append l a.toArray n u `c) ⟨e,?_⟩;refine⟨.non,_,I.Ij c e (by simp) (r.append (.cons f .nil)) ?_,rfl,q⟩;rw[R7,a0g];omega
def E9:V->List V->Hp->VK->Prop:=λx d H Q=>∃l b c a,x=.ref l/\d=[.ref b]/\H l=some (.lst c)/\H b=some (.lst a)/\c.length+a.length<=sizeLine/\Q .non (upd H l (.lst (c++a)))
def tT:MtM X "list.extend" E9:=by
 intro g s B H x D v G Q I A w h;obtain⟨l,b,E,J,rfl,rfl,i,hB,hz,q⟩:=h;cases A;obtain⟨u,rfl,y⟩:=w.one;cases y;obtain⟨z,c,n,r,C,e⟩:=I.Ba i;obtain⟨z2,a,p,m,j,o⟩:=I.Ba hB;have f:c.toArray.size+a.toArray.size<=sizeLine:=by rw[T4,T4];omega
 have d:¬(!c.toArray.isEmpty&&Builtin.List.listTooLong (c.toArray.size+a.toArray.size))=true:=by rw[m_ f,a2s];exact a0c
 refine a1X F.slot_list_extend ⟨_,e,rfl⟩ F.entry_list_extend (F.args_list_extend_2 _ _)
  (AutoSeq1.list_extend_list_list_0 l c.toArray n b a.toArray p d `a `a) ⟨e,o,?_⟩
 refine⟨.non,_,I.Ij i e (by simp) (r.append m) ?_,rfl,q⟩;rw[R7];omega
def Ik:V->List V->Hp->VK->Prop:=λx b H Q=>∃l a i k y,x=.ref l/\b=[.int i]/\H l=some (.lst a)/\-(2 ^ 63)<=i/\i<2 ^ 63/\seqIndex? i a.length=some k/\a[k]?=some y/\Q y (upd H l (.lst (a.eraseIdx k)))
def Bb:MtM X "list.pop" Ik:=by
 intro c s E H x G v J Q I C p h;obtain⟨l,A,i,k,y,rfl,rfl,d,D,m,f,j,q⟩:=h;cases C;obtain⟨u,rfl,B⟩:=p.one;obtain⟨t,rfl⟩:=B;obtain⟨z,a,n,r,g,e⟩:=I.Ba d;obtain⟨w,o,b⟩:=r.get j;refine a1X F.slot_list_pop ⟨_,e,rfl⟩ F.entry_list_pop (F.args_list_pop_2 _ _)
  (MeetsSeq.list_pop_at l a.toArray n i t k w (fitsIndex_both D m) `c `c `c) ⟨e,?_⟩
 refine⟨y,_,I.Ij d e ?_ (r.eraseIdx k) ?_,b,q⟩
 .rw[List.eraseIdxIfInBounds_toArray]
 .have:=fC A k;omega
def Bc:V->List V->Hp->VK->Prop:=λx b H Q=>∃l a,x=.ref l/\b=[]/\H l=some (.lst a)/\Q .non (upd H l (.lst a.reverse))
def pW:MtM X "list.reverse" Bc:=by intro c s i H x m v p Q I g f h;obtain⟨l,o,rfl,rfl,d,q⟩:=h;cases g;have b:=f.zero;subst b;obtain⟨z,a,n,r,j,e⟩:=I.Ba d;refine a1X F.slot_list_reverse ⟨_,e,rfl⟩ F.entry_list_reverse (F.args_list_reverse_1 _) (AutoSeq1.list_reverse_list_0 l a.toArray n `c) ⟨e,?_⟩;refine⟨.non,_,I.Ij d e (by simp) r.reverse ?_,rfl,q⟩;rw[a2p];omega
def Pt:R2:=λx y H Q=>∃l b c a,x=.ref l/\y=.ref b/\H l=some (.lst c)/\H b=some (.lst a)/\c.length+a.length<=sizeLine/\∀p,H p=none->Q (.ref p) (upd H p (.lst (c++a)))
def De:OpR X (binaryOp .Add) Pt:=by
 intro d s w H x y v u Q I p o h;obtain⟨l,b,C,D,rfl,rfl,m,hB,hz,q⟩:=h;cases p;cases o;obtain⟨z,c,n,r,A,e⟩:=I.Ba m;obtain⟨z2,a,B,g,f,i⟩:=I.Ba hB;refine PySem.P.add_list e i ?_ `c;have j:c.toArray++a.toArray=(c++a).toArray:=by simp
 rw[j];exact⟨.ref _,_,I.Od (r.append g) `c,rfl,q _ I.fresh⟩
def Pu:R2:=λx y H Q=>∃l k a,x=.ref l/\y=.int k/\H l=some (.lst a)/\-(2 ^ 63)<=k/\k<2 ^ 63/\a.length*k.toNat<=sizeLine/\
 ∀p,H p=none->Q (.ref p) (upd H p (.lst (List.replicate k.toNat a).flatten))
def len_rep{a:Type}(xs:List a)(k:Nat):(List.replicate k xs).flatten.length=k*xs.length:=by simp
def Il:OpR X (binaryOp .Mult) Pu:=by
 intro p s K H x y v u Q I G D h;obtain⟨l,k,L,rfl,rfl,C,J,B,hz,q⟩:=h;cases G;obtain⟨t,rfl⟩:=D;obtain⟨z,b,n,r,w,e⟩:=I.Ba C;have f:b.toArray.size*k.toNat<=sizeLine:=by rw[T4,<- w];exact hz
 have i:¬b.toArray.size*k.toNat>(2 ^ 63-1) / 8:=by
  have:(sizeLine:Nat)<=(2 ^ 63-1) / 8:=by decide
  omega
 have g:¬(!Builtin.List.listFitsIndex k)=true:=by rw[fitsIndex_both J B];exact a0c
 have c:¬Builtin.List.listTooLong (b.toArray.size*k.toNat)=true:=by rw[m_ f];exact a0c
 have d:List.foldl (λj o=>j++o) #[] (List.replicate (if b.toArray.isEmpty=true then 0 else k.toNat) b.toArray)=(List.replicate k.toNat b).flatten.toArray:=by
  have E:=λm=>by have:=foldl_rep b m [];rw[a1w]at this;exact this
  rw[E];cases b with
  |nil=>simp
  |cons a M=>rw[if_neg (by simp)]
 refine wpAny_binaryOp_repeat_ref (T:="list") (U:="int") `b ⟨_,e,rfl⟩ (λA=>typeIs_int A k t) noFill_list_mul F.fills_int_mul F.slot_int_rmul repeat_list F.slot_int_index.lookup
  (a1X F.slot_int_rmul (typeIs_int s k t) F.entry_int_rmul (F.args_int_rmul_2 _ _) (int___rmul___int_list k t l b.toArray n)
   ⟨e,rfl,⟨_,e,rfl⟩,a1X F.slot_list_mul ⟨_,e,rfl⟩ F.entry_list_mul (F.args_list_mul_2 _ _) (AutoListH.list___mul___list_int_3 l b.toArray n k t g i c) ⟨e,?_⟩⟩)
 rw[d];exact⟨.ref _,_,I.Od (t':=s.toks) (r.rep k.toNat) (by rw[len_rep,Nat.mul_comm];exact hz),rfl,q _ I.fresh⟩
end
section
variable {κ:Type}[DecidableEq κ]
def XH(kvs:List (κ×V))(k:κ):Option V:=(kvs.find? λa=>decide (a.1=k)).map (·.2)
def putK(kvs:List (κ×V))(k:κ)(v:V):List (κ×V):=
 if(kvs.any λa=>decide (a.1=k))=true then kvs.map (λa=>if a.1=k then(a.1,v)else a)else kvs++[(k,v)]
def XI{p:κ×V}{r:List (κ×V)}{k:κ}(e:p.1=k):XH (p::r) k=some p.2:=by simp[XH,List.find?_cons,e]
def XJ{p:κ×V}{r:List (κ×V)}{k:κ}(e:¬p.1=k):XH (p::r) k=XH r k:=by simp[XH,List.find?_cons,e]
theorem ng(k:κ):∀a:List (κ×V),(a.any λb=>decide (b.1=k))=(XH a k).isSome
 |[]=>rfl
 |p::r=>by
  rw[a0E];by_cases e:p.1=k
  .simp only[XI e,decide_eq_true e,Bool.true_or,Option.isSome_some]
  .rw[XJ e,S7 e];exact ng k r
def Kg(kvs:List (κ×V))(k:κ)(v:V):(putK kvs k v).length<=kvs.length+1:=by
 unfold putK;split
 .rw[f8];omega
 .rw[R7,R4,a1f];omega
def XE.ZK(r:XE o u):o.isSome=u.isSome:=by
 cases o with
 |none=>cases u with
  |none=>rfl
  |some _=>exact r.elim
 |some _=>cases u with
  |none=>exact r.elim
  |some _=>rfl
def XE.getD(r:XE o u)(rd:RelV d d'):RelV (o.getD d) (u.getD d'):=by
 cases o with
 |none=>cases u with
  |none=>exact rd
  |some _=>exact r.elim
 |some _=>cases u with
  |none=>exact r.elim
  |some _=>exact r
def KV.val{kvs:List (κ×V)}{vs:List (κ×Value)}(r:KV kvs vs)(k:κ):XE (XH kvs k) (valueAt vs k):=by
 unfold KV at r
 induction r with
 |nil=>exact True.intro
 |@cons p q i c h t g=>
  obtain⟨d,f⟩:=h;by_cases e:p.1=k
  .have a:=d.symm.trans e;have b:valueAt (q::c) k=some q.2:=by simp[valueAt,List.find?_cons,a]
   rw[XI e,b];exact f
  .have a:¬q.1=k:=λz=>e (d.trans z);have b:valueAt (q::c) k=valueAt c k:=by simp[valueAt,List.find?_cons,a]
   rw[XJ e,b];exact g
def KV.any{kvs:List (κ×V)}{vs:List (κ×Value)}(r:KV kvs vs)(k:κ):(kvs.any λa=>decide (a.1=k))=vs.any λa=>decide (a.1=k):=by
 unfold KV at r
 induction r with
 |nil=>rfl
 |cons h t b=>rw[a0E,a0E,b,h.1]
def KV.Oe{kvs:List (κ×V)}{vs:List (κ×Value)}(r:KV kvs vs)(k:κ)(d:RelV y u):
  KV (kvs.map λa=>if a.1=k then(a.1,y)else a) (vs.map λa=>if a.1=k then(a.1,u)else a):=by
 unfold KV at r ⊢
 induction r with
 |nil=>exact .nil
 |@cons p q g i h t f=>
  rw[T2,T2];refine .cons ?_ f;obtain⟨b,c⟩:=h;by_cases e:p.1=k
  .rw[if_pos e,if_pos (b.symm.trans e)];exact⟨b,d⟩
  .rw[if_neg e,if_neg (λz=>e (b.trans z))];exact⟨b,c⟩
def KV.put{kvs:List (κ×V)}{vs:List (κ×Value)}(r:KV kvs vs)(k:κ)(a:RelV y u):KV (putK kvs k y) (stored vs k u):=by
 unfold putK stored;rw[r.any k];by_cases e:(vs.any λb=>decide (b.1=k))=true
 .rw[if_pos e,if_pos e];exact r.Oe k a
 .rw[if_neg e,if_neg e];exact Paired.snoc r ⟨rfl,a⟩
def KV.length{kvs:List (κ×V)}{vs:List (κ×Value)}(r:KV kvs vs):kvs.length=vs.length:=a1t r
end
def fD(r:RelV (kV k) u):(yK P w).is k u=true:=by
 cases k with
 |inl i=>obtain⟨t,e⟩:= r;subst e;exact iN P w i t
 |inr x=>obtain⟨t,e⟩:= r;subst e;exact iO P w x t
theorem Ud{P:Sl}{w:So}:∀{a:SO}{b:Sa},Vals (a.map kV) b->ItemsAre (yK P w) a b
 |[],_,r=>by cases r;exact .nil
 |k::a,_,r=>by
  cases r with
  |cons h t=>exact .cons (fD h) (Ud t)
abbrev KT(H:Hp):List (List Key×V)->List (List Key×Addr×Value)->Prop:=Paired λp q=>p.1=q.1/\H q.2.1=some (.tup (p.1.map kV))/\RelV p.2 q.2.2
def KT.val(r:KT H kvs xs)(k:SO):XE (XH kvs k) ((atKey xs k).map (·.2)):=by
 induction r with
 |nil=>exact True.intro
 |@cons p q i c h t g=>
  obtain⟨d,_,f⟩:=h;by_cases e:p.1=k
  .have a:=d.symm.trans e;have b:atKey (q::c) k=some q.2:=by simp[atKey,List.find?_cons,a]
   rw[XI e,b];exact f
  .have a:¬q.1=k:=λz=>e (d.trans z);have b:atKey (q::c) k=atKey c k:=by simp[atKey,List.find?_cons,a]
   rw[XJ e,b];exact g
def KT.Oe(r:KT H kvs xs)(k:SO)(f:RelV y u):
  KT H (kvs.map λb=>if b.1=k then(b.1,y)else b) (xs.map (putAt k u)):=by
 induction r with
 |nil=>exact .nil
 |@cons p q i j h t g=>
  rw[T2];refine .cons ?_ g;obtain⟨a,c,d⟩:=h;unfold putAt;by_cases e:p.1=k
  .rw[if_pos e,if_pos (a.symm.trans e)];exact⟨a,c,f⟩
  .rw[if_neg e,if_neg (λz=>e (a.trans z))];exact⟨a,c,d⟩
def KT.put(r:KT H kvs xs)(k:SO)(d:H b=some (.tup (k.map kV)))(a:RelV y u):
  KT H (putK kvs k y) (storedH xs k b u):=by
 have e:(kvs.any λc=>decide (c.1=k))=(atKey xs k).isSome:=by rw[ng,(r.val k).ZK,a05]
 unfold putK storedH;rw[e];by_cases q:(atKey xs k).isSome=true
 .rw[if_pos q,if_pos q];exact r.Oe k a
 .rw[if_neg q,if_neg q];exact Paired.snoc r ⟨rfl,d,a⟩
def KT.keeps(r:KT H kvs xs)(c:∀b a,H b=some (.tup a)->H' b=some (.tup a)):KT H' kvs xs:=
 Paired.NU r λ_ _ z=>⟨z.1,c _ _ z.2.1,z.2.2⟩
def Im(ok:HOk P w H h)(e:Rd H a u):qu P w H h a u:=e.ok ok
def Kh(ok:HOk P w H h)(e:Rd H a (.dK kvs)):kvs.length<=sizeLine/\(a==sysModules)=false/\∃b,KV kvs b/\h.DictOf (yK P w) a b:=
 show qu P w H h a (.dK kvs)from Im ok e
def Io(ok:HOk P w H h)(e:H a=some (.dK kvs)):kvs.length<=sizeLine/\(a==sysModules)=false/\∃b,KV kvs b/\h.DictOf (yK P w) a b:=Kh ok (.inl e)
def bG(ok:HOk P w H h)(e:H a=some (.tup (ks.map kV))):(tupleKind (yK P w)).is h ks a:=by obtain⟨_,b,r,o,f,c,n,d⟩:= (ok a _ e);exact⟨o,b.toArray,n,f,c,d,by simpa using Ud r⟩
def fE(ok:HOk P w H h)(e:Rd H a (.dT kvs)):kvs.length<=sizeLine/\(a==sysModules)=false/\
  ∃c,KT H kvs c/\h.DictOfH (tupleKind (yK P w)) a c:=by
 obtain⟨z,y,c,r,o,s,g,u,j,n,f,i⟩:= (Im ok e);refine⟨z,y,c,r,o,s,g,u,j,n,f,λx b=>?_,i⟩;have all:∀{l:S_}{m:List (List Key×Addr×Value)},KT H l m->∀x∈m,(tupleKind (yK P w)).is h x.1 x.2.1:=by
  intro l m q
  induction q with
  |nil=>intro x b;exact nomatch b
  |@cons p q B A d t v=>
   intro x b;rcases T6.mp b with e|b
   .subst e;exact bG ok `c
   .exact v x b
 exact all r x b
def Of(ok:HOk P w H h)(e:H a=some (.dT kvs)):kvs.length<=sizeLine/\(a==sysModules)=false/\
  ∃b,KT H kvs b/\h.DictOfH (tupleKind (yK P w)) a b:=fE ok (.inl e)
def nh(H:Hp)(a:Addr)(y:V)(r:Option V):Prop:=
 (∃c k,Rd H a (.dK c)/\y=kV k/\r=XH c k)\/∃c k b,Rd H a (.dT c)/\y=.ref b/\H b=some (.tup (k.map kV))/\r=XH c k
def Bd(H:Hp)(a:Addr)(y v:V)(H':Hp):Prop:=
 (∃c k,H a=some (.dK c)/\y=kV k/\c.length<sizeLine/\H'=upd H a (.dK (putK c k v)))\/
 ∃c k b,H a=some (.dT c)/\y=.ref b/\H b=some (.tup (k.map kV))/\c.length<sizeLine/\H'=upd H a (.dT (putK c k v))
theorem Bd.k{H:Hp}{a:Addr}{kvs:Sk}{k:Key}{v:V}(e:H a=some (.dK kvs))(b:kvs.length<sizeLine):Bd H a (kV k) v (upd H a (.dK (putK kvs k v))):=.inl ⟨kvs,k,e,rfl,b,rfl⟩
def Bd.t{H:Hp}{a b:Addr}{kvs:S_}{k:SO}{v:V}(e:H a=some (.dT kvs))(d:H b=some (.tup (k.map kV)))(c:kvs.length<sizeLine):
  Bd H a (.ref b) v (upd H a (.dT (putK kvs k v))):=.inr ⟨kvs,k,b,e,rfl,d,c,rfl⟩
def Inv.big(I:Inv X pins σ H s):sysModules<s.heap.objs.size:=by have h:=(I.mod.glob.keeps I.bk).lt;exact a2i `b h
def tU(x:A.units+1<cLine)(I:Inv X pins σ H s)(g:nh H a y (some v))(w:RelV y u)(h:∀f r,Inv X pins σ H r->RelV v f->Q f r):
  wpAny (Ts X) A (getItem (.ref a) u) Q E s:=by
 rcases g with⟨q,k,e,j,l⟩|⟨q,k,b,e,j,D,l⟩
 .subst j;obtain⟨z,B,C,d,n⟩:=Kh I.hok e;obtain⟨f,m,c⟩:=XE.some_of (by rw[l];exact d.val k);exact wpAny_getItem_of (fD w) n.mapOf m (h f _ (I.tok _) c)
 .subst j;cases w;obtain⟨z,B,F,d,n⟩:=fE I.hok e;obtain⟨f,m,c⟩:=XE.some_of (by rw[l];exact d.val k);obtain⟨p,hp,i⟩:=v0.mp m;refine wpAny_getItem_heap (a1a x) (bG I.hok D) n hp ?_;rw[i];exact h f _ (I.tok _) c
def Rt(p:A.units+1<cLine)(I:Inv X pins σ H s)(g:nh H a y o)(n:RelV y u)(h:∀m,Inv X pins σ H m->Q (.bool o.isSome) m):
  wpAny (Ts X) A (compareOp .In u (.ref a)) Q E s:=by
 rcases g with⟨d,k,e,j,l⟩|⟨d,k,b,e,j,r,l⟩
 .subst j;obtain⟨z,i,v,c,f⟩:=Kh I.hok e;refine wpAny_in_of (fD n) i f.mapOf ?_;rw[<- (c.val k).ZK,<- l];exact h _ (I.tok _)
 .subst j;cases n;obtain⟨z,i,w,c,f⟩:=fE I.hok e;refine wpAny_in_heap (a1a p) (bG I.hok r) i f ?_;have q:=(c.val k).ZK;rw[a05]at q;rw[<- q,<- l];exact h _ (I.tok _)
def E_(p:A.units+1<cLine)(I:Inv X pins σ H s)(g:nh H a y o)(n:RelV y u)(h:∀m,Inv X pins σ H m->Q (.bool (!o.isSome)) m):
  wpAny (Ts X) A (compareOp .NotIn u (.ref a)) Q E s:=by
 rcases g with⟨d,k,e,j,l⟩|⟨d,k,b,e,j,r,l⟩
 .subst j;obtain⟨z,i,v,c,f⟩:=Kh I.hok e;refine wpAny_notIn_of (fD n) i f.mapOf ?_;rw[<- (c.val k).ZK,<- l];exact h _ (I.tok _)
 .subst j;cases n;obtain⟨z,i,w,c,f⟩:=fE I.hok e;refine wpAny_notIn_heap (a1a p) (bG I.hok r) i f ?_;have q:=(c.val k).ZK;rw[a05]at q;rw[<- q,<- l];exact h _ (I.tok _)
def iT(I:Inv X pins σ H s)(d:Mut (H a))(c:Heap.SameBut a s.heap h')(he:∃q,h'.get? a=some q)(new:qu X.prog X.w (upd H a ob) h' a ob):
  Inv X pins σ (upd H a ob) { s with heap:=h',toks:=t' }:=
 I.write d (.inl rfl) (λb q f z=>(c.2 b f).trans z) he new
def nj(z:kvs.length<=sizeLine)(d:(a==sysModules)=false)(b:KV kvs vs)(c:h'.DictOf (yK P w) a vs):
  qu P w H' h' a (.dK kvs):=⟨z,d,vs,b,c⟩
def tV(J:A.units+1<cLine)(I:Inv X pins σ H s)(g:Bd H a y v H')(F:RelV y u)(G:RelV v r)(h:∀C,Inv X pins σ H' C->Q () C):
  wpAny (Ts X) A (setItem (.ref a) u r) Q E s:=by
 rcases g with⟨f,k,e,n,l,p⟩|⟨f,k,b,e,n,D,l,p⟩
 .subst n p;obtain⟨z,m,M,d,x⟩:=Io I.hok e;have hz:M.length<=sizeLine:=by rw[<- d.length];exact z
  have o:(putK f k v).length<=sizeLine:=by have:=Kg f k v;omega
  refine wpAny_setItem_pairs (fD F) x λB i w=>h _ ?_;have K:∃q,B.get? a=some q:=let⟨q,_,_,j,_⟩:=i;⟨q,j⟩
  exact iT I (by rw[e];exact True.intro) w K (nj o m (d.put k G) i)
 .subst n p;cases F;obtain⟨z,m,S,d,x⟩:=Of I.hok e;have hz:S.length<=sizeLine:=by rw[<- a1t d];exact z
  have o:(putK f k v).length<=sizeLine:=by have:=Kg f k v;omega
  refine wpAny_setItem_heap (a1a J) (bG I.hok D) x λB i w=>h _ ?_;obtain⟨q,T,N,j,P,R,L,_,O⟩:=i;refine iT I (by rw[e];exact True.intro) w ⟨q,j⟩ ⟨o,m,_,(d.put k D G).keeps λc U ec=>?_,q,T,N,j,P,R,L,O⟩;rw[zm (NT ec e (λz=>nomatch z))];exact ec
def Og(I:Inv X pins σ H s)(e:Rd H a (.dK kvs))(h:∀t c,Inv X pins σ H c->Q (.int kvs.length t) c):wpAny (Ts X) A (call (.builtin "len") [.ref a]) Q E s:=by obtain⟨z,f,g,b,d⟩:=Kh I.hok e;refine call_len_dict f d (by rw[<- b.length];rw[a0I]at z;omega) ?_;rw[<- b.length];exact h _ _ (I.tok _)
def iU(I:Inv X pins σ H s)(g:nh H a y o):s.TypeIs (.ref a) "dict":=by
 rcases g with⟨d,k,e,_,_⟩|⟨d,k,b,e,_,_,_⟩
 .obtain⟨_,_,f,_,c⟩:=Kh I.hok e;exact c.typeIs
 .obtain⟨_,_,h,_,c⟩:=fE I.hok e;exact c.typeIs
def Oh(e h i:TE):TS:=λD b H=>i b H λv f=>e b f λx d=>h b d λy g=>∃a c,x=.ref a/\Bd g a y v c/\D.nx b c
def iV(e:X.A.units+1<cLine)(j:PE X o td)(E:PE X i ty)(J:PE X value tv)(z:swapsWith value (some (.Subscript o i pos')) pos.line X.env=pure false):
  PS X (.Assign [.Subscript o i pos'] value pos) (Oh td ty tv):=by
 intro b s c H D I h;refine wpAny_Assign_Subscript (thn (J b s c H _ I h) λr n ⟨v,A,B,G,q⟩=>thn (j b n c A _ B q) λu s2 ⟨x,d,C,K,l⟩=>thn (E b s2 c d _ C l) λN O ⟨y,M,f,F,a,p,m,g,w⟩=>?_) z;subst m;obtain rfl:u=Value.ref a:=K;exact tV e f g F G λP L=>⟨c,p,L,w⟩
def nq(h:Heap)(a:sysModules<h.objs.size):qu P w H (h.push { cls:=.type "dict",data:=.dict #[] }) h.objs.size (.dK []):=
 ⟨a0A _,a0C.mpr (Ne.symm (a0e a)),[],.nil,Heap.DictOf.new h⟩
def Be(h:Heap)(a:sysModules<h.objs.size):qu P w H (h.push { cls:=.type "dict",data:=.dict #[] }) h.objs.size (.dT []):=
 ⟨a0A _,a0C.mpr (Ne.symm (a0e a)),[],.nil,_,#[],0,a0k _ rfl,⟨rfl,rfl,rfl⟩,rfl,rfl,a3e⟩
def Ip:TE:=λ_ H Q=>∀p,H p=none->Q (.ref p) (upd H p (.dK []))
def Iq:TE:=λ_ H Q=>∀p,H p=none->Q (.ref p) (upd H p (.dT []))
def Bf:PE X (.Dict [] [] pos) Ip:=λb s c H Q I h=>
 wpAny_Dict_empty ⟨.ref `g,_,I.laid (λ_ _ q=>S4 _ q) (S0 _) (nq s.heap I.big),rfl,h _ (I.hok.fresh (S0 _))⟩
def Bg:PE X (.Dict [] [] pos) Iq:=λb s c H Q I h=>
 wpAny_Dict_empty ⟨.ref `g,_,I.laid (λ_ _ q=>S4 _ q) (S0 _) (Be s.heap I.big),rfl,h _ (I.hok.fresh (S0 _))⟩
def tW:List (TE×TE)->St->Hp->(List (V×V)->Hp->Prop)->Prop
 |[],_,H,Q=>Q [] H
 | (f,g)::r,a,H,Q=>f a H λx d=>g a d λy b=>tW r a b λc e=>Q ((x,y)::c) e
abbrev VV:List (V×V)->List (Value×Value)->Prop:=Paired λp q=>RelV p.1 q.1/\RelV p.2 q.2
def PPs(X:Cx)(e:Pos)(c:List (Option Expr))(a:Sd)(d:List (TE×TE)):Prop:=
 ∀(b:RT)(s:RZ)(f:St)(H:Hp)(Q:List (V×V)->Hp->Prop),Inv X b f H s->tW d f H Q->
  wpAny (Ts X) X.A (evalPairs (pairTrees c a X.env e)) (λi j=>∃g h,Inv X b f h j/\VV g i/\Q g h) X.xe s
def Fb:PPs X pos [] [] []:=λa s b H Q I h=>pairTrees_nil_walk ⟨[],H,I,.nil,h⟩
def Bh(i:PE X k tk)(w:PE X v tv)(f:PPs X pos ks vs trs):
  PPs X pos (some k::ks) (v::vs) ((tk,tv)::trs):=λa s b H Q I h=>
 pairTrees_cons_walk (thn (i a s b H _ I h) λu j ⟨x,o,p,A,m⟩=>thn (w a j b o _ p m) λD s2 ⟨y,d,q,r,l⟩=>
  thn (f a s2 b d _ q l) λC B ⟨z,e,g,c,n⟩=>⟨(x,y)::z,e,g,.cons ⟨A,r⟩ c,n⟩)
def fF(kvs a:Sk):List (Key×V):=a.foldl (λb c=>putK b c.1 c.2) kvs
def KV.merge:∀{a:Sk}{rs:SS}{b:Sk}{c:SS},KV a rs->KV b c->KV (fF b a) (merged c rs):=by
 intro a rs b c r;unfold KV at r
 induction r generalizing b c with
 |nil=>intro q;exact q
 |@cons p q g i h t f=>
  intro d;have e:KV (putK b p.1 p.2) (stored c q.1 q.2):=by have:=d.put p.1 h.2;rw[<- h.1];exact this
  exact f e
theorem KP:∀(b a:Sk),(fF a b).length<=a.length+b.length
 |[],a=>by show a.length<=a.length+0;omega
 |p::r,a=>by have d:=KP r (putK a p.1 p.2);have c:=Kg a p.1 p.2;show(fF (putK a p.1 p.2) r).length<=_;rw[R4];omega
theorem bH{P:Sl}{w:So}:∀{d:Sk}{f:List (Value×Value)},VV (d.map λe=>(kV e.1,e.2)) f->∃rs,Carries (yK P w) f rs/\KV d rs
 |[],_,r=>by cases r;exact⟨[],True.intro,.nil⟩
 |p::d,_,r=>by
  cases r with
  |@cons a b i bs h t=>obtain⟨rs,c,q⟩:=bH t;obtain⟨j,g⟩:=b;exact⟨(p.1,g)::rs,⟨fD h.1,rfl,c⟩,.cons ⟨rfl,h.2⟩ q⟩
def Oi(b:List (TE×TE)):TE:=λf H Q=>∀p,H p=none->tW b f (upd H p (.dK [])) λe c=>c p=some (.dK [])/\∃a:List (Key×V),e=a.map (λd=>(kV d.1,d.2))/\a.length<=15/\Q (.ref p) (upd c p (.dK (fF [] a)))
def Fc(h:PPs X pos keys values trs)(f:keys.all (·.isSome)=true)(v:keys.length=values.length)(D:keys≠[])
  (i:keys.length<=15):PE X (.Dict keys values pos) (Oi trs):=by
 intro b s r H Q I q;have y:=I.hok.fresh (S0 `g);have C:=I.laid (t':=s.toks) (λ_ _ q=>S4 _ q) (S0 _) (nq s.heap I.big);refine wpAny_Dict_walk (knd:=yK X.prog X.w) f v D i (thn (h b _ r _ _ C (q _ y)) λL s2 ⟨M,J,m,j,e,g,x,K,u⟩=>?_);subst x;obtain⟨rs,c,rk⟩:=bH j;obtain⟨z,p,A,E,F⟩:=Io m.hok e;cases E;refine⟨rs,c,F,λl d B=>⟨.ref `g,_,?_,rfl,u⟩⟩;have hz:(fF [] g).length<=sizeLine:=by have G:=KP g [];rw[a1f]at G;rw[a0I];omega
 have n:∃q,l.get? `g=some q:=let⟨q,_,_,hq,_⟩:=d;⟨q,hq⟩
 exact iT m (by rw[e];exact True.intro) B n (nj hz p (rk.merge .nil) d)
structure M1(X:Cx)(o:Sf)(m:Str)(jm:Pos)(e:Sf)(ZW:Pos):Prop where
 base:attributeBase o m X.env (eval o X.env)=eval o X.env
 few:((backTo ZW (starEach [e] X.env)).all (λx=>!x.1)&&(backToKw ZW (keywordEach [] X.env)).all (λx=>x.1.isSome)
  && decide (([e]:List Expr).length+([]:List Keyword).length+(if([]:List Keyword).isEmpty then 0 else 1)<30))=true
 line:(jm.endLine==ZW.line)=true
 trees:backTo ZW (starEach [e] X.env)=[(false,eval e X.env)]
structure M2(X:Cx)(o:Sf)(m:Str)(jm:Pos)(e f:Sf)(ZW:Pos):Prop where
 base:attributeBase o m X.env (eval o X.env)=eval o X.env
 few:((backTo ZW (starEach [e,f] X.env)).all (λx=>!x.1)&&(backToKw ZW (keywordEach [] X.env)).all (λx=>x.1.isSome)
  && decide (([e,f]:List Expr).length+([]:List Keyword).length+(if([]:List Keyword).isEmpty then 0 else 1)<30))=true
 line:(jm.endLine==ZW.line)=true
 trees:backTo ZW (starEach [e,f] X.env)=[(false,eval e X.env),(false,eval f X.env)]
def IsD(H:Hp)(a:Addr):Prop:=(∃b,Rd H a (.dK b))\/∃b,Rd H a (.dT b)
def Ir(I:Inv X pins σ H s)(d:IsD H a):
  s.TypeIs (.ref a) "dict"/\(∀b,Value.ref a=.ref b->∃ob,s.heap.get? b=some ob/\ob.dict=none)/\(a==sysModules)=false:=by
 rcases d with⟨i,e⟩|⟨i,e⟩
 .obtain⟨_,g,j,_,c⟩:=Kh I.hok e;refine⟨c.typeIs,λb q=>?_,g⟩;cases q;obtain⟨ob,_,_,h,f,_⟩:=c;exact⟨ob,h,f.2.1⟩
 .obtain⟨_,g,l,_,c⟩:=fE I.hok e;refine⟨c.typeIs,λb q=>?_,g⟩;cases q;obtain⟨ob,_,_,h,f,_⟩:=c;exact⟨ob,h,f.2.1⟩
def Iu(q:A.units+1<cLine)(I:Inv X pins σ H s)(g:nh H a y o)(p:RelV y u)(h:∀n m,Inv X pins σ H m->RelV (o.getD .non) n->Q n m):
  wpAny (Ts X) A (call (.builtin "dict.get") [.ref a,u]) Q E s:=by
 rcases g with⟨j,k,e,i,l⟩|⟨j,k,b,e,i,r,l⟩
 .subst i;obtain⟨z,f,w,c,d⟩:=Kh I.hok e;refine call_meetsIn a2b d.typeIs a28 (a2Y _ _) (meets_dict_get (yK X.prog X.w) a (fD p) f) ⟨_,d.mapOf,h _ _ (I.tok _) ?_⟩;rw[l];exact(c.val k).getD rfl
 .subst i;cases p;obtain⟨z,f,v,c,d⟩:=fE I.hok e;refine call_meetsIn a2b d.typeIs a28 (a2Y _ _) (meetsH_dict_get (tupleKind (yK X.prog X.w)) a b f) ⟨a1a q,k,v,bG I.hok r,d,h _ _ (I.tok _) ?_⟩;rw[l];exact(c.val k).getD rfl
def Iv(e f:TE):TE:=λd H Q=>e d H λx c=>∃a,x=.ref a/\IsD c a/\f d c λy b=>∃o,nh b a y o/\Q (o.getD .non) b
def Bi(l:X.A.units+1<cLine)(p:PE X o td)(he:PE X e ty)(m:M1 X o "get" jm e ZW):PE X (.Call (.Attribute o "get" jm) [e] [] ZW) (Iv td ty):=by intro b s f H Q I h;refine wpAny_Call_method m.base m.few m.line PySem.F.plainAttrs_dict a2b PySem.F.type_dict_get (thn (p b s f H _ I h) λu v ⟨x,B,i,E,a,q,d,z⟩=>?_);subst q;obtain rfl:u=Value.ref a:=E;obtain⟨w,A,_⟩:=Ir i d;refine⟨w,A,?_⟩;rw[m.trees];exact a14 rfl (a3n (a3E (thn (he b v f B _ i z) λF s2 ⟨y,j,C,D,J,g,r⟩=>Calls.spliced_nil (Iu l C g D λK G n c=>⟨_,j,n,c,r⟩))))
def Bj(I:Inv X pins σ H s)(e:Rd H a (.dK kvs))(h:∀p f,H p=none->Inv X pins σ (upd H p (.dK kvs)) f->Q (.ref p) f):wpAny (Ts X) A (call (.type "dict") [.ref a]) Q E s:=by obtain⟨z,l,n,c,j⟩:=Kh I.hok e;refine kt_call_dict l j (by rw[<- c.length];exact z) λm d i=>?_;refine h _ _ (I.hok.fresh (S0 _)) (I.laid (λb q g=>?_) (S0 _) (nj z (a0C.mpr (Ne.symm (a0e I.big))) c d));exact(i.2 b (a0e (S9 g))).trans (S4 _ g)
end L2
namespace Att
open PySem PySem.W PySem.Calls PyProof.Rows
def Ue:∀(c:Sw)(d:Sa),WellAll P h d (c.map WData.int)->IntsAre d c:=by
 intro c
 induction c with
 |nil=>intro d w;cases w;exact .nil
 |cons n c e=>
  intro d w;cases w with
  |cons a b=>cases a;exact .cons _ _ (e _ b)
def tX{l:OpenLaw}{n:Nat}(w:l.most=some n){P:Params}{h:Heap}{args:List WData}{vals:Sa}
  (c:l.row.toRowW.claim.pre args=true) (m:WellAll P h vals args):
  ∃a o b,vals=[Value.ref a]/\args=[WData.list (b.map WData.int)]/\h.get? a=some { cls:=.type "list",data:=.seq o.toArray }/\IntsAre o b/\b.length<=n:=by
 have j:=(pre_splitW c).1;have p:l.pre.holds [] { args:=args }=true:=(pre_splitW c).2;obtain⟨d,r,rfl,A,x⟩:=hasAllW_cons j;obtain rfl:=hasAllW_nil x;obtain⟨B,rfl,y⟩:=hasW_list A;obtain⟨b,rfl⟩:=items_int y;have e:b.length<=n:=by
  have g:=by have g:=(holds_andW p).1;rw[w]at g;exact g
  have i:=condW_of g (w_not (w_lt w_lit (w_len_list (w_arg rfl))));refine Nat.le_of_not_lt λq=>?_;have v:=`d
  first
   | (exact absurd i `b)
   | (simp at i;omega)
 cases m with
 |cons s z=>
  cases z;cases s with
  |list u f=>exact⟨_,_,b,rfl,rfl,u,Ue b _ f,e⟩
def tY(l:OpenLaw)(args:List WData):l.row.toRowW.claim.post args (.bool true) args=true:=
 postW_of
  (show WShape.has [] (.bool true) .bool=true by first|rfl|decide|simp[WShape.has,WShape.arms,WShape.armsAll])
  (show(WTm.eq .res (.lit (.bool true))).value [] { args:=args,res:=some (.bool true),after:=args }=some (.bool (true==true))from w_eq_bool (w_res rfl) w_lit) rfl
def iW{l:OpenLaw}{n:Nat}{q:Sl}{e:RS}{D:(Str->Option Value)->Heap->Prop}{H:World->Heap->Prop}{d:DefRec}
  (N:l.most=some n) (z:d.params.defaults=[])
  (call:∀(w:So)(c b:RZ)(s x:RU)(fa:Addr)(o:Obj)(y cd h:Value)(a:Addr) (i:Sa) (v:Sw),
   Ground q e [] D w c s x b.heap->H w b.heap->
   b.heap.get? fa=some o->o.data=.func (docDef d.name d.params d.body d.scope y cd h)->b.heap.CodeRec cd d.name->s d.name=some (.ref fa)->
   b.heap.get? a=some { cls:=.type "list",data:=.seq i.toArray }->IntsAre i v->v.length<=n->b.gens = #[]->
   codeAny (model l.prog w) callerA (.call (.ref fa) ⟨[.ref a],[]⟩) (λr u=>r=.ok (.ret (.bool true))/\OldK b.heap u.heap/\u.os=b.os/\AllBare u.gens) b):
  WalkO q e D H l.row.toRowW d [] (λf i=>PySem.call f i):=by
 intro w c b s x G Y fa o y cd h I kV M L C hD B T args E U p F S A Q;obtain rfl:I=.none:=Dflts.none hD z;obtain rfl:kV=.none:=Dflts.noKw hD;obtain⟨a,i,v,rfl,rfl,m,g,j⟩:=tX N p A;refine enter_call (a1D (call w c b s x fa o y cd h a i v G Y M (fd_plain L) C B m g j T) λr u O=>?_);obtain⟨rfl,P,R,K⟩:=O;exact⟨.inl ⟨.bool true,.bool true,[],rfl,λ_=>rfl,.bool true,tY l _,λ_=>⟨List.Pairwise.nil,λ_ J=>(nomatch J)⟩⟩,P,R,K⟩
end Att
namespace L2
open PySem PySem.Spec PyProof.Rows
theorem fG:∀{a:Sa}{b:Sw},IntsAre a b->Vals (b.map V.int) a
 |_,_,.nil=>.nil
 |_,_,.cons n t h=>.cons ⟨t,rfl⟩ (fG h)
def Oj(H:Hp):Prop:=∀b,H b=none\/∃o a,H b=some (.frz o (.lst a))
def Bk{P:Sl}{w:So}{K:Sg}{B O:RU}{CX:CXT}{k:Nat}{fa a:Addr}{fd:Sq}{x:Str}{sp:Sp}{c:RZ}{vs:Sa}{ns:Sw}
  (KX:K.In c.heap) (A:c.heap.Ns mainGlobals B) (g:c.heap.Ns builtinsNs O) (Q:∀x:Str,x≠"__name__"->O x=bootBuiltins x) (J:c.heap.NoLimit) (hg:c.gens = #[])
  (N:c.heap.get? a=some { cls:=.type "list",data:=.seq vs.toArray }) (hi:IntsAre vs ns) (Z:ns.length<=sizeLine) (hr:vB k callerA)
  (F:∀j:Heap,K.In j->j.Ns mainGlobals B->y_ P w K B j CX k fa fd [x] sp) (y:∀(s:RZ)(u:Value),BindsTo s fd ⟨[u],[]⟩ [(x,u)])
  (hsp:∀H:Hp,Oj H->SqL K H a (ns.map V.int)->sp [.ref a] H (λv _=>v=.bl true) λ_ _ _=>False)
  (T:∀H e i,CX [] H c (λ_ _ _=>False) e i->False):
  codeAny (model P w) callerA (.call (.ref fa) ⟨[.ref a],[]⟩) (λr i=>r=.ok (.ret (.bool true))/\OldK c.heap i.heap/\i.os=c.os/\AllBare i.gens) c:=by
 have rv:=fG hi;have Ed:=hi.length
 -- from an abstract heap in which nothing but the script may be tracked
 have p:∀H:Hp,Oj H->SqL K H a (ns.map V.int)->HOk P w H c.heap->(∀b,H b≠none->b=a)->(H a≠none->K.lookup a=none)->
   codeAny (model P w) callerA (.call (.ref fa) ⟨[.ref a],[]⟩) (λr i=>r=.ok (.ret (.bool true))/\OldK c.heap i.heap/\i.os=c.os/\AllBare i.gens) c:=by
  intro H W hS E Y hK;have f:∀{b:Addr}{o:Obj},c.heap.get? b=some o->H b=none->(AX c.heap H).get? b=some o:=λe n=>AY e n;have S:∀{b:Addr}{o:Obj}{L:Array DictEntry}{D:Nat},c.heap.get? b=some o->o.data=.dict L D->H b=none:=λ{b o L D} e d=>by
   cases q:H b with
   |none=>rfl
   |some u=>have U:b=a:=Y b (by rw[q];simp);subst U;rw[N]at e;cases e;have d':=d;cases d'
  have l:∀{b:Addr}{m:RU},c.heap.Ns b m->(AX c.heap H).Ns b m:=λ{b m} ⟨o,L,D,e,d,r⟩=>⟨o,L,D,f e (S e d),d,r⟩;have G:=λb o e=>f (KX b o e) (by
   cases q:H b with
   |none=>rfl
   |some u=>
    have U:b=a:=Y b (by rw[q];simp);subst U;rw[hK (by rw[q];simp)]at e;cases e)
  have hM:Mod K B (AX c.heap H):=⟨G,l A,⟨O,l g,Q⟩,let⟨mc,h1,h2⟩:=J;⟨mc,l h1,h2⟩⟩;have e0:AN P w K B (AX c.heap H) callerA [] c H:=⟨rfl,hM,λb o e=>EF e,a2g (sT _ _),trivial,λb g=>absurd (show b∈([]:List Addr)from g) (by simp),E,.of_eq hg⟩;refine a1D ((F _ G (l A)).run callerA [] c H ⟨[.ref a],[]⟩ [.ref a] [.ref a] _ _ hr e0 (y c (.ref a)) (.cons rfl .nil) (hsp H W hS)) λr i h=>?_;cases r with
  |error e=>exact(T H e i h).elim
  |ok fl=>
   cases fl with
   |next=>exact False.elim h
   |brk=>exact False.elim h
   |cont=>exact False.elim h
   |ret u=>
    obtain⟨v,H',os,M,un,C,r',q⟩:=h;have q':=q;subst q';obtain rfl:u=Value.bool true:=r';refine⟨rfl,OldK.of_keep λb o e=>?_,os,M⟩;cases q:H b with
    |none=>exact un.keep b o e q (by intro z;exact absurd (show b∈([]:List Addr)from z) (by simp)) (by simp)
    |some u=>
     rcases W b with z|⟨ob,xs,z⟩
     .rw[q]at z;cases z
     .have z2:=un.CV b ob _ z;obtain⟨X,_⟩:=E b _ z;obtain⟨e2,_⟩:=C b _ z2;rw[e]at X;cases X;exact e2
 cases R:K.lookup a with
 |some o=>
  -- the script is one of the module's own objects
  have e:=KX a o R;rw[N]at e;cases e;refine p (λ_=>none) (λ_=>.inl rfl) (.inr ⟨_,vs.toArray,_,R,rfl,rfl,rfl,by rw[T4,Ed];exact Z,by simpa using rv⟩) (λb u z=>by have I:=z;cases I) (λb z=>absurd rfl z) λz=>absurd rfl z
 |none=>
  refine p (λb=>if b=a then some (.frz { cls:=.type "list",data:=.seq vs.toArray } (.lst (ns.map V.int)))else none) (λb=>?_) (.inl (.inr ⟨{ cls:=.type "list",data:=.seq vs.toArray },if_pos rfl⟩)) (λb u z=>?_) (λb z=>?_) λ_=>R
  .by_cases g:b=a
   .exact .inr ⟨_,_,if_pos g⟩
   .exact .inl (if_neg g)
  .by_cases g:b=a
   .have I:=(if_pos g).symm.trans z;cases I;subst g;exact⟨N,by rw[f8];exact Z,vs,_,rv,N⟩
   .have I:=(if_neg g).symm.trans z;cases I
  .by_cases g:b=a
   .exact g
   .exact absurd (if_neg g) z
def Fd{l:PySem.W.OpenLaw}{n k:Nat}{q:Sl}{g:RS}{L:(Str->Option Value)->Heap->Prop}{J:World->Heap->Prop}{d:DefRec}{K:Params->PySem.W.Frag}{CX:World->CXT}{sp:World->Sp}{x:Str}
  (Q:l.most=some n) (B:n<=sizeLine) (y:d.params.defaults=[]) (M:vB k callerA)
  (R:∀(w:So)(h:Heap),J w h->(K w.params).In h)
  (F:∀(w:So)(j:RU)(fa:Addr)(h:Heap),(K w.params).In h->h.Ns mainGlobals j->j d.name=some (.ref fa)->
   ∃fd:FuncData,(∀(s:RZ)(u:Value),BindsTo s fd ⟨[u],[]⟩ [(x,u)])/\
    ∀b:Heap,(K w.params).In b->b.Ns mainGlobals j->y_ l.prog w (K w.params) j b (CX w) k fa fd [x] (sp w))
  (hsp:∀(w:So)(H:Hp)(a:Addr)(r:Sw),r.length<=n->Oj H->SqL (K w.params) H a (r.map V.int)->sp w [.ref a] H (λv _=>v=.bl true) λ_ _ _=>False)
  (A:∀(w:So)(H:Hp)(s:RZ)(e:Value)(z:RZ),CX w [] H s (λ_ _ _=>False) e z->False):
  PySem.W.WalkO q g L J l.row.toRowW d [] (λf E=>PySem.call f E):=by
 refine Att.iW Q y λw D m j W fa o Z cd U a E r G Y ho X T C p i c S=>?_;have I:=R w _ Y;obtain⟨fd,O,hF⟩:=F w j fa _ I G.T.g C;exact Bk I G.T.g G.T.b G.T.builtins G.T.nolimit S p i (a0l c B) M hF O (λH N P=>hsp w H a r c N P) λH e z=>A w H m e z
def inClass(s:SN)(j:Nat):Stmt:=match s with
 |.ClassDef _ _ _ a _ _ _ _ _ _ _=>a.getD j (.Pass ⟨0,0,0,0⟩)
 |_=>.Pass ⟨0,0,0,0⟩
def Ug(s:SN):Arguments:=match s with
 |.FunctionDef _ a _ _ _ _ _ _ _ _=>a
 |_=>{ posonlyargs:=[],args:=[],vararg:=none,kwonlyargs:=[],kw_defaults:=[],kwarg:=none,defaults:=[] }
def Z0(s:SN):List Stmt:=match s with
 |.FunctionDef _ _ b _ _ _ _ _ _ _=>b
 |_=>[]
def zl(s:SN):Scope:=match s with
 |.FunctionDef _ _ _ _ _ _ a _ _ _=>a
 |_=>{ kind:=.function,names:=[],isGenerator:=false,isCoroutine:=false }
abbrev E0:XK:=λ_ _ _=>False
structure Fun(K:Sg)(x qual:Str)(st:SN)(f:Addr)(fd:Sq):Prop where
 ex:∃(oc:Value)(od:SK)(kV doc pm:Value)(an:SK)(cdv ct:Value)(osl:SI),
  fd=PySem.W.fnOf x qual (Ug st) (Z0 st) (zl st) .none kV doc pm an cdv ct/\K.lookup f=some ⟨oc,od,.func fd,osl⟩/\PySem.W.codeIn K cdv qual=true
 kp:PySem.W.keepIn K (.ref f)=true
section
variable {K:Sg}
def Fun.binds{x a:Str}{st:SN}{f:Addr}{fd:Sq}{ps:RS}(F:Fun K x a st f fd)
  (h:∀(kV c g:Value)(d:SK)(b ct:Value)(e:Sa),e.length=ps.length->bindArgs (PySem.W.fnOf x a (Ug st) (Z0 st) (zl st) .none kV c g d b ct) ⟨e,[]⟩=pure (ps.zip e)):Binds K fd ps []:=by
 obtain⟨m,l,kV,c,g,d,b,ct,i,rfl,n,j⟩:=F.ex;exact .all (h kV c g d b ct)
def Df{x a:Str}{st:SN}{f:Addr}{i:Value}{od g:SK}{e:SI}{kV d h b ct:Value}(l:K.lookup f=some ⟨i,od,.func (PySem.W.fnOf x a (Ug st) (Z0 st) (zl st) .none kV d h g b ct),e⟩)
  (c:PySem.W.codeIn K b a=true) (k:PySem.W.keepIn K (.ref f)=true):Fun K x a st f (PySem.W.fnOf x a (Ug st) (Z0 st) (zl st) .none kV d h g b ct):=⟨⟨i,od,kV,d,h,g,b,ct,e,rfl,l,c⟩,k⟩
end
def y6(a:vB k A):A.units+1<cLine:=a1b (Nat.add_le_add_left (by simp) _) a.units
def pv(i:Nat)(d:X.N[i]?=some x:=by rfl)(c:Vis X.env.scope x:=by first|exact Or.inl rfl|exact Or.inr (Or.inl rfl)|exact Or.inr (Or.inr rfl))(b:(x==("__debug__":Str))=false:=by decide)
  (a:(x==("__classdict__":Str))=false:=by decide):PE X (.Name x pos) (pH i):=HB d c b a
def Dg{A B:Prop}(h:B):if false=true then A else B:=by exact h
def Dh{A B:Prop}(h:A):if true=true then A else B:=by exact h
def zD(H H':Hp):Prop:=∀b o,H b=some o->H' b=some o
def zD.refl(H:Hp):zD H H:=λ_ _ h=>h
def zD.trans(a:zD H H1)(b:zD H1 H2):zD H H2:=λc o h=>b c o (a c o h)
end L2
set_option maxHeartbeats 4000000
namespace L2
open PySem PySem.Spec PyProof.Rows PySem.W
def kW:List Value:=[.type "ValueError",.type "Exception",.type "BaseException",.type "object"]
def fH:List Value->List Value
 |.ref _::r=>fH r
 |l=>l
structure Y5(K:Sx)(C:Addr):Prop where
 over:(clsIn K C).any (λcd=>fH cd.mro==kW && !cd.mro.isEmpty&&cd.hasDict)=true
 sa:findIn K (.ref C) "__setattr__"=some (some (.builtin "object.__setattr__"))
 ga:findIn K (.ref C) "__getattribute__"=some (some (.builtin "BaseException.__getattribute__"))
 gn:findIn K (.ref C) "__getattr__"=some none
 ty:typeIn K (.ref C)=some (.type "type")
theorem Wt(a:Value):∀l:List Value,fH l=kW->refuseLoop a "__setattr__" l=pure ()
 |[],e=>by cases e
 |.ref c::r,e=>by rw[refuseLoop_ref];exact Wt a r e
 |.type n::r,e=>by rw[show Value.type n::r=kW from e];exact PySem.F.store_ValueError.passes a
 |.none::r,e=>by cases e
 |.bool _::r,e=>by cases e
 |.int _ _::r,e=>by cases e
 |.str _ _::r,e=>by cases e
 |.bytes _ _::r,e=>by cases e
 |.float _ _::r,e=>by cases e
 |.builtin _::r,e=>by cases e
 |.ellipsis::r,e=>by cases e
 |.notImplemented::r,e=>by cases e
theorem fI{x:String}(a:kW.contains (.type x)=true):∀l:List Value,fH l=kW->l.contains (.type x)=true
 |[],e=>by cases e
 |.ref c::r,e=>by rw[List.contains_cons,fI a r e,Bool.or_true]
 |.type n::r,e=>by rw[show Value.type n::r=kW from e];exact a
 |.none::r,e=>by cases e
 |.bool _::r,e=>by cases e
 |.int _ _::r,e=>by cases e
 |.str _ _::r,e=>by cases e
 |.bytes _ _::r,e=>by cases e
 |.float _ _::r,e=>by cases e
 |.builtin _::r,e=>by cases e
 |.ellipsis::r,e=>by cases e
 |.notImplemented::r,e=>by cases e
theorem Y5.cd{K:Sx}{C:Addr}(c:Y5 K C):∃cd,clsIn K C=some cd/\fH cd.mro=kW/\cd.mro.isEmpty=false/\cd.hasDict=true:=by obtain⟨cd,a,h⟩:=any_some c.over;simp only[Bool.and_eq_true,beq_iff_eq,Bool.not_eq_true']at h;exact⟨cd,a,h.1.1,h.1.2,h.2⟩
def Y5.sub{K:Sx}{C:Addr}(c:Y5 K C){x:String}(a:kW.contains (.type x)=true):mroIn K C (.type x)=some true:=by obtain⟨cd,d,e,b,_⟩:=c.cd;unfold mroIn;rw[d,Option.bind_some,if_neg `c,fI a _ e]
def qa(C:Addr)(od:SK)(t:Addr)(T:Value)(sl:SI):Obj:=⟨.ref C,od,.fields #[.ref t,T,.none,.none,.bool false,.none],sl⟩
section
variable {prog:Sl}{w:So}{A:Su}{E:RX}{s:RZ}{K:Sx}{x dx C t:Addr}{T:Value}{sl:SI}{mA:RU}{name:Str}{v:Value}{R:Result->Shared->Prop}
def nr(X:K.In s.heap)(c:Y5 K C)(I:InstAt s.heap x (qa C od t T sl) C oo)(r:takerIn K C name=some none)
  (h:∀b,wpAny (model prog w) A.in1 (Builtin.ObjectAttr.storeInOwnDict (.ref x) (.ref C) (.str name tk) name v b)
   (λj i=>match j with | .done f=>R (.ok f) i | .again l=>l.quiet=true/\codeAny (model prog w) A l R i) (λe i=>R (.error e) i) s):
  codeAny (model prog w) A (.call (.builtin "object.__setattr__") ⟨[.ref x,.str name tk,v],[]⟩) R s:=by
 have g:=PySem.F.store_object;obtain⟨cd,u,q,z,_⟩:=c.cd;have sub:Looks (model prog w) s.heap (isInstance (.ref x) (.type "object")) true:=I.type.andThen (a29 X (c.sub `b));refine a2j g.slot.plain g.entry (@check_slot (model prog w) _ _ s "object.__setattr__" "object" "__setattr__" (.ref x) [.str name tk,v] [] _ g.kind g.split sub (g.args (.ref x) (.str name tk) v) ?_);obtain⟨d,p,n⟩:=a0f.mp r;have m:Looks (model prog w) s.heap (mroOf (.ref C)) cd.mro:=(a3L X u).andThen .now;have y:Looks (model prog w) s.heap (Builtin.ObjectAttr.storeTaker? d) none:=by
  cases d with
  |none=>exact .now
  |some a=>
   obtain⟨b,o,e⟩:=v0.mp n;refine(looks_takesIn X o).andThen ?_;cases b with
   |true=>cases e
   |false=>exact .now
 rw[osa_eq,refuse_eq];refine u8 (u8 (I.type.here (u8 (m.here ?_))));rw[Wt _ _ q];exact T1 (u8 (I.type.here (u8 ((a2L X p).here (u8 (y.here (h _)))))))
def pX(X:K.In s.heap)(c:Y5 K C)(i:s.heap.get? x=some (qa C none t T sl))(F:takerIn K C name=some none)
  (h:∀a,a.get? x=some (qa C (some `g) t T sl)->a.Ns1 s.heap.objs.size (λy=>if y=name then some v else none)->
   (∀b o,b≠x->s.heap.get? b=some o->a.get? b=some o)->Q () { s with heap:=a,toks:=s.toks+2 }):
  wpAny (model prog w) A (setAttr (.ref x) name v) Q E s:=by
 have I:InstAt s.heap x (qa C none t T sl) C none:=⟨i,rfl,rfl,trivial⟩;refine set_plain X I c.sa (nr X c I F λb=>?_);obtain⟨cd,H,_,_,B⟩:=c.cd;have f:=a0e (S9 i);have g:(s.heap.push emptyDict).get? x=some (qa C none t T sl):=S4 _ i;refine u8 (T1 (u8 (u8 (a1C i (u8 (Looks.here (a3L X H) ?_))))));rw[B];refine u8 (wpAny_alloc' (u8 (wpAny_update' g (T1 ?_))));have n:((s.heap.push emptyDict).update x λo=>{ o with dict:=some s.heap.objs.size }).get? x=some (qa C (some `g) t T sl):=a0V _ g rfl;have j:((s.heap.push emptyDict).update x λo=>{ o with dict:=some s.heap.objs.size }).get? `g=some emptyDict:=(a2q _ _ _ _ f.symm).trans (Heap.get?_push_at rfl rfl);have q:((s.heap.push emptyDict).update x λo=>{ o with dict:=some s.heap.objs.size }).Ns s.heap.objs.size (λ_=>none):=⟨_,#[],_,j,rfl,λe z=>absurd z (by simp),λ_=>rfl⟩;refine u8 (T1 (u8 ?_));refine a3D (Heap.Ns1.of_empty q) λa d r=>?_;obtain⟨J,u,G,p,l,m⟩:=d.count (a2C name v PySem.Within.nil);refine u8 (a2I p (by rw[l];exact a2J (a0l m (by simp))) ?_);exact T1 (h _ ((r.2 _ f).trans n) d λb o D e=>((r.2 _ (a0e (S9 e))).trans ((a2q _ _ _ _ D).trans (S4 _ e))))
def tZ(X:K.In s.heap)(c:Y5 K C)(m:s.heap.get? x=some (qa C (some dx) t T sl))(n:s.heap.Ns1 dx mA)(B:dx≠x)(r:takerIn K C name=some none)
  (D:PySem.Within mA ns) (hsz:ns.length<=sizeLine)
  (h:∀e,e.Ns1 dx (λy=>if y=name then some v else mA y)->Heap.SameBut dx s.heap e->Q () { s with heap:=e,toks:=s.toks+2 }):
  wpAny (model prog w) A (setAttr (.ref x) name v) Q E s:=by
 obtain⟨q,i,_⟩:=X_ n;have I:InstAt s.heap x (qa C (some dx) t T sl) C (some q):=⟨m,rfl,rfl,i⟩;refine set_plain X I c.sa (nr X c I r λb=>?_);obtain⟨cd,z,_,_,p⟩:=c.cd;refine u8 (T1 (u8 (u8 (a1C m (u8 (Looks.here (a3L X z) ?_))))));rw[p];refine T1 (u8 (T1 (u8 ?_)));refine a3D n λe d f=>?_;obtain⟨F,o,u,l,g,j⟩:=d.count (a2C name v D);exact u8 (a2I l (by rw[g];exact a2J (a0l j (by rw[R4];omega))) (T1 (h _ d f)))
end
def strKeys(es:Array DictEntry):Bool:=es.toList.all λe=>match e.key with | .str _ _=>true|_=>false
def fJ(K:Sx):List Value->Bool
 |.ref a::r=>(match K.lookup a with
   |some ⟨_,_,.cls cd,_⟩=>(match K.lookup cd.ns with
     |some ⟨_,_,.dict b _,_⟩=>strKeys b&&(b.toList.all λe=>!e.key.isStr "__init__")
     |_=>false)
   |_=>false)&&fJ K r
 |l=>l==kW
def pY{h:Heap}{N:Addr}{c:Value}{b:SK}{es:Array DictEntry}{ep:Nat}{sl:SI}(e:h.get? N=some ⟨c,b,.dict es ep,sl⟩)(k:strKeys es=true)
  (d:(es.toList.all λe=>!e.key.isStr "__init__")=true):∃m,h.Ns N m/\m "__init__"=none:=by
 refine⟨λn=>nsFind es n,⟨_,es,ep,e,rfl,λx a=>?_,λ_=>rfl⟩,?_⟩
 .have q:=a1l.mp k x (a3m.mpr a);split at q
  .rename_i n t f;exact⟨n,t,f⟩
  .cases q
 .show nsFind es "__init__"=none;unfold nsFind findBy;rw[<- a3C,List.find?_eq_none.mpr λx a=>by simpa using a1l.mp d x a];rfl
theorem t4{K:Sx}{h:Heap}(X:K.In h):∀l:List Value,fJ K l=true->OwnTail h kW l
 |.ref a::r,e=>by
  obtain⟨b,q⟩:=a3o.mp e;split at b
  .rename_i c y cd v o;split at b
   .rename_i w g x u p d;obtain⟨s,i⟩:=a3o.mp b;obtain⟨m,j,f⟩:=pY (X _ _ d) s i;exact .own (X _ _ o) j f (t4 X r q)
   .cases b
  .cases b
 |[],e=>by cases e
 |.type n::r,e=>by rw[show Value.type n::r=kW from a0t.mp e];exact .base
 |.none::r,e=>by rw[show Value.none::r=kW from a0t.mp e];exact .base
 |.bool _::r,e=>by rw[a0t.mp e];exact .base
 |.int _ _::r,e=>by rw[a0t.mp e];exact .base
 |.str _ _::r,e=>by rw[a0t.mp e];exact .base
 |.bytes _ _::r,e=>by rw[a0t.mp e];exact .base
 |.float _ _::r,e=>by rw[a0t.mp e];exact .base
 |.builtin _::r,e=>by rw[a0t.mp e];exact .base
 |.ellipsis::r,e=>by rw[a0t.mp e];exact .base
 |.notImplemented::r,e=>by rw[a0t.mp e];exact .base
structure XMk(K:Sx)(C f:Addr):Prop where
 cls:∃nm q N bs bm sn sub ab col dd k0 k1 k2 k3 k5,K.lookup C=some (excClassObj nm q C N bs bm true sn sub ab col dd k0 k1 k2 k3 k5 "ValueError.__new__")/\fJ K bm=true
 init:findIn K (.ref C) "__init__"=some (some (.ref f))
 fn:typeIn K (.ref f)=some (.type "function")
 kp:keepIn K (.ref C)=true
section
variable {prog:Sl}{w:So}{A:Su}{E:RX}{K:Sx}{C f:Addr}{h:Heap}{g:Array GenState}{d:Drawn}{t:Nat}{os:OsState}
def Di(rest:Sa):Obj:={ cls:=.type "tuple",data:=.seq rest.toArray }
def Ol{rest:Sa}{Q:RX}(M:XMk K C f)(X:K.In h)(hrest:rest.length<=sizeLine)
  (hq:codeAny (model prog w) (A.under (.builtin "type.__call__" ⟨.ref C::rest,[]⟩)) (.call (.ref f) ⟨.ref (h.objs.size+1)::rest,[]⟩) (λr s'=>match r with | .ok (.ret v)=>v=.none/\Q (.ref (h.objs.size+1)) s' | .ok _=>False | .error e=>E e s')
   ⟨(h.push (Di rest)).push (qa C none h.objs.size .none #[]),g,d,t,os⟩):
  wpAny (model prog w) A (call (.ref C) rest) Q E ⟨h,g,d,t,os⟩:=by
 obtain⟨nm,q,N,bs,bm,sn,sub,ab,col,dd,k0,k1,k2,k3,k5,hK,hT⟩:=M.cls;have hC:=X _ _ hK;have T:=t4 X _ hT;have F:=PySem.F.excBase_ValueError;have f1:=tc_lookup;have f2:=tc_bind (.ref C);have hTy:(⟨h,g,d,t,os⟩:Shared).TypeIs (.ref C) "type":=⟨_,hC,rfl⟩;refine a1H (codeAny_of_tree ?_);show wpAny _ _ (callAny (.ref C) _) _ _ _
 repeat(any_goals(first|assumption|with_reducible refine wpAny_loadPart_at hC ?_|wp_step))
 refine And.intro rfl (codeAny_call_builtin_at (a3G _ (by decide +kernel)) entry_typeCall (wpAny_check_type_call_sub hC ?_))
 repeat(first|with_reducible refine wpAny_loadPart_at hC ?_|with_reducible refine wpAny_madeBy_exc hC ?_|wp_step)
 refine codeAny_call_builtin_code (a3G _ F.quiet) (wpAny_check_new_subT F T hC (codeAny_exc_new_subT F T hC ?_ hrest));show wpAny _ _ _ _ _ ⟨(h.push (Di rest)).push (qa C none h.objs.size .none #[]),g,d,t,os⟩;have kp:∀b o,h.get? b=some o->((h.push (Di rest)).push (qa C none h.objs.size .none #[])).get? b=some o:=λb o e=>S4 _ (S4 _ e);have hx:((h.push (Di rest)).push (qa C none h.objs.size .none #[])).get? (h.objs.size+1)=some (qa C none h.objs.size .none #[]):=by heap_get
 have X1:K.In ((h.push (Di rest)).push (qa C none h.objs.size .none #[])):=X.keeps kp;have t1:Looks (model prog w) ((h.push (Di rest)).push (qa C none h.objs.size .none #[])) (typeOf (.ref (h.objs.size+1))) (.ref C):=(Looks.ld hx).andThen .now;have s1:Looks (model prog w) ((h.push (Di rest)).push (qa C none h.objs.size .none #[])) (isSubtype (.ref C) (.ref C)) true:=a29 X1 (by
  unfold mroIn clsIn;rw[hK];simp)
 have i1:=a2L (M:=model prog w) X1 M.init;have b1:=bind_fn (M:=model prog w) X1 (.ref (h.objs.size+1)) M.fn;unfold isInstance callSpecial? specialOf
 repeat(first|with_reducible refine a1H ?_|lk)
 refine a1D hq λr s' z=>?_;rcases r with e|(v|_|_|_)<;>first|exact z|exact z.elim|skip
 obtain⟨rfl,z⟩:=z;exact T1 (T1 z)
end
def XO(e C:Addr)(od:SK)(T:Value):HO:=.ext λh=>∃t a,h.get? e=some (qa C od t T a)
def XD(b:Addr)(fs:Sy):HO:=.ext λh=>∃a,h.Ns1 b a/\(∀f,XE (fs.lookup f) (a f))/\PySem.Within a (fs.map (·.1))/\fs.length<=1000
def XO.ok(x:h.get? e=some (qa C od t T sl)):qu P w H h e (XO e C od T):=
 ⟨⟨t,sl,x⟩,⟨_,x⟩,λ_ _ ⟨b,a,p⟩ k=>⟨b,a,k _ p⟩⟩
def XO.get(x:qu P w H h e (XO e C od T)):∃t a,h.get? e=some (qa C od t T a):=x.1
def XD.ok(n:h.Ns1 dx mA)(r:∀f,XE (fs.lookup f) (mA f))(e:PySem.Within mA (fs.map (·.1)))(l:fs.length<=1000):qu P w H h dx (XD dx fs):=by refine⟨⟨mA,n,r,e,l⟩,?_,λi g ⟨m,⟨o,b,c,a,q⟩,d⟩ k=>⟨m,⟨o,b,c,k _ a,q⟩,d⟩⟩;obtain⟨o,b,c,a,_⟩:=n;exact⟨o,a⟩
def XD.get(x:qu P w H h dx (XD dx fs)):∃a,h.Ns1 dx a/\(∀f,XE (fs.lookup f) (a f))/\PySem.Within a (fs.map (·.1))/\fs.length<=1000:=x.1
def Inv.Fe(I:Inv X pins σ H s)(he:H e=some (XO e C od T))(ch:SH)(d:∀b∈ch,X.s₀.heap.objs.size<=b/\H b=none/\b≠X.env.locals/\(∀x c,X.env.cells.lookup x=some c->c≠b)/\∀p∈X.pn++pins,p.1≠b)
  (keep:∀b o,b≠e->b∉ch->b∉frs X.stack->s.heap.get? b=some o->h'.get? b=some o)
  (j:∀b o,b∈frs X.stack->s.heap.get? b=some o->∃f,h'.get? b=some { o with slots:=f })
  (E:∃t f,h'.get? e=some (qa C od t T' f)):Inv X pins σ (upd H e (XO e C od T')) { s with heap:=h' }:=by
 have l:∀b,H b=none->b≠e:=λb n z=>by rw[z,he]at n;cases n
 have B:∀b o,H b=some o->b∉frs X.stack:=λb o q z=>by rw[I.cE b z]at q;cases q
 have D:∀b o,H b=some o->b∉ch:=λb o q z=>by rw[(d b z).2.1]at q;cases q
 obtain⟨L,G,i⟩:=E;have any:=λb o h A q=>by
  by_cases hf:b∈frs X.stack
  .exact j b o hf q
  .exact⟨o.slots,keep b o A h hf q⟩
 refine I.step (λb h=>⟨.inr (d b h).1,(d b h).2.2⟩) (λb o w h g q n=>keep b o (l b n) g (λz=>?_) q) (λb o _ _ g q n=>any b o g (l b n) q)
  (λb o _ _ n=>by rw[zm (l b n)];exact n) (λb o g q=>?_) (λb M q=>?_) (λb o u q=>?_) (λb O q=>⟨#[],?_⟩) (λm F=>?_) (λb u q=>?_) I.bare
 .rcases T6.mp (I.bC b z)with z|z
  .exact w z
  .exact h z
 .by_cases a:b=e
  .exact⟨_,a▸i⟩
  .obtain⟨f,y⟩:=any b o g a q;exact⟨_,y⟩
 .have:b≠e:=λz=>by rw[z,he]at q;cases q
  rw[zm this];exact q
 .have:b≠e:=λz=>by rw[z,he]at q;cases q
  rw[zm this];exact q
 .have:b≠e:=λz=>by rw[z,he]at q;cases q
  rw[zm this,q];simp
 .obtain⟨o,N,K,J,r⟩:=F;have w:=I.free;obtain⟨f,y⟩:=any _ o (λz=>(d _ z).2.2.1 rfl) (l _ w) J;exact⟨_,N,K,y,r⟩
 .by_cases a:b=e
  .subst a;rw[zj]at q;cases q;exact XO.ok i
  .rw[zm a]at q;refine(I.hok b u q).sR (λc v g r=>?_) (λc r=>?_) λc M r=>?_
   .rcases g with z|z
    .subst z;exact keep c v a (D c u q) (B c u q) r
    .have:c≠e:=λz2=>by rw[z2,he]at z;cases z
     exact keep c v this (D c _ z) (B c _ z) r
   .have:c≠e:=λz2=>by rw[z2,he]at r;cases r
    rw[zm this];exact r
   .have:c≠e:=λz2=>by rw[z2,he]at r;cases r
    rw[zm this];exact r
structure Tb(X:Cx)(pins:RT)(H:Hp)(s:RZ)(Ta:Addr)(fl:Value):Prop where
 tbk:∃oT ts,s.heap.get? Ta=some oT/\oT.data=.fields ts/\ts[3]?=some fl
 new:X.s₀.heap.objs.size<=Ta
 free:H Ta=none
 pin:∀p∈X.pn++pins,p.1≠Ta
def Own(X:Cx):Prop:=X.stack=X.env::X.outer/\X.env.frame=some X.env.locals
def Tb.ok(I:Inv X pins σ H s)(b:Tb X pins H s Ta fl):Ta≠X.env.locals/\(∀x c,X.env.cells.lookup x=some c->c≠Ta)/\Ta∉frs X.stack:=by
 obtain⟨i,n,e,f,_⟩:=b.tbk;have g:Ta≠X.env.locals:=λz=>by obtain⟨m,⟨o,j,l,a,d,_⟩,_⟩:=I.loc;rw[z]at e;rw[e]at a;cases a;rw[f]at d;cases d
 refine⟨g,λx c q z=>?_,λz=>?_⟩
 .obtain⟨v,o,a,d⟩:=I.cell x c q;rw[z,e]at a;cases a;rw[f]at d;cases d
 .rcases T6.mp (I.bC _ z)with z|z
  .exact g z
  .obtain⟨_,o,a,h⟩:=I.iH.mem z;rw[e]at a;cases a;exact h _ f
def cK(I:Inv X pins σ H s)(he:H e=some (XO e C od (.ref Ta)))(b:Tb X pins H s Ta fl)
  (v:∀h,Inv X pins σ (upd H e (XO e C od (.ref Ta))) { s with heap:=h }->Tb X pins (upd H e (XO e C od (.ref Ta))) { s with heap:=h } Ta (f.elim .none λf=>rawInt f)->Q () { s with heap:=h }):
  wpAny M A (setFlight (.ref e) f) Q E s:=by
 obtain⟨t,p,j⟩:=XO.get (I.hok e _ he);obtain⟨w,y,l,i,u⟩:=id b.tbk;obtain⟨r,n,m⟩:=b.ok I;have g:Ta≠e:=λz=>by have:=b.free;rw[z,he]at this;cases this
 have sz:=(a1M.mp u).1;refine u8 (a2t j rfl (x:=.ref Ta) rfl ?_);refine a3f l i sz ?_;have a:∀c,c≠Ta->(s.heap.update Ta (Obj.mapFields (·.setIfInBounds 3 (f.elim .none λf=>rawInt f)))).get? c=s.heap.get? c:=λc d=>a0r _ _ (Ne.symm d);refine v _ (I.Fe he [Ta] (λc d=>?_) (λc o _ d _ q=>(a c `c).trans q) (λc o d q=>⟨o.slots,(a c (λz=>m (z▸d))).trans q⟩) ⟨t,p,(a e (Ne.symm g)).trans j⟩) ⟨⟨_,_,Heap.get?_update_self _ l (Obj.isFreed_of_fields (Obj.data_mapFields i _)),Obj.data_mapFields i _,by simp[sz]⟩,b.new,by rw[zm g];exact b.free,b.pin⟩;obtain rfl:c=Ta:=by simpa using d
 exact⟨b.new,b.free,r,n,b.pin⟩
def Bl(I:Inv X pins σ H s)(he:H e=some (XO e C od .none))(b:Q () s):wpAny M A (setFlight (.ref e) f) Q E s:=by obtain⟨t,c,a⟩:=XO.get (I.hok e _ he);refine u8 (a2t a rfl rfl ?_);exact T1 b
def fK(b:Own X)(w:A.frames=some X.stack)(I:Inv X pins σ H s)(he:H e=some (XO e C od T))
  (D:∀v m,Inv X pins σ (upd H e (XO e C od (.ref v))) { s with heap:=m }->Tb X pins (upd H e (XO e C od (.ref v))) { s with heap:=m } v (rawInt X.env.locals)->Q () { s with heap:=m }):
  wpAny M A (do setField (.ref e) 1 (<- EntryCells.newEntry head (<- frameOf X.env) .none (rawInt X.env.locals) .none (<- entryPlaceOf X.env.locals hadNext))) Q E s:=by
 obtain⟨t,x,y⟩:=XO.get (I.hok e _ he);have l:=I.stack;rw[b.1]at l w;refine u8 (wpAny_frameOf_fun w l b.2 λg a=>?_);refine u8 (wpAny_entryPlaceOf λF h=>?_);refine u8 (a1Z ?_ (h.sizeOk5 _ _ _ _ _));have i:e∉frs (X.env::X.outer):=λz=>by have:=I.cE e (by rw[b.1];exact z);rw[he]at this;cases this
 have f:=(a.2.1 e i).trans y;have j:=a0e (S9 f);refine a3f (S4 _ f) rfl (by simp) ?_;have d:∀c o,c≠e->g.get? c=some o->∀tb:Obj,((g.push tb).update e (Obj.mapFields (·.setIfInBounds 1 (Value.ref g.objs.size)))).get? c=some o:=λc o r q tb=>
  (a0r _ _ (Ne.symm r)).trans (S4 _ q)
 have u:=I.hok.fresh (a2g a.1.symm);refine D g.objs.size _ (I.Fe he [] (λ_ z=>nomatch z) (λc o r _ hf q=>d c o r ((a.2.1 c (by rw[b.1]at hf;exact hf)).trans q) _) (λc o hf q=>?_) ⟨t,x,?_⟩) ⟨⟨_,_,(a0r _ _ j).trans (a0k _ rfl),rfl,?_⟩,?_,?_,λp hp z=>?_⟩
 .obtain⟨n,B⟩:=a.2.2 c o q;exact⟨n,d c _ (λz=>i (by rw[b.1]at hf;exact z▸hf)) B _⟩
 .exact a0V _ (S4 _ f) rfl
 .rcases h with rfl|⟨_,_,_,_,_,_,_,rfl⟩<;>simp
 .rw[a.1];exact I.sz
 .rw[zm (Ne.symm j)];exact u
 .have q:=(I.pin p hp).1;exact absurd (S9 q) (by rw[z,a.1];exact a0Q _)
structure XIs(K:Sx)(C:Addr):Prop where
 ha:findIn K (.ref C) "__class__"=some (some (.builtin "object.__class__"))
 hn:specialIn K (.builtin "object.__class__") "__get__"=some (some (.builtin "getset_descriptor.__get__"))
 htk:takesIn K (.builtin "object.__class__")=some true
section
variable {prog:Sl}{w:So}{A:Su}{E:RX}{s:RZ}{K:Sx}{x C:Addr}{sl:SI}
def Iw(X:K.In s.heap)(c:Y5 K C)(z:XIs K C)(I:InstAt s.heap x ox C (some od))
  (h:Q (some (.ref C)) { s with toks:=s.toks+1 }):wpAny (model prog w) A (getAttr? (.ref x) "__class__") Q E s:=by
 obtain⟨cd,hc,ho,ne,hdct⟩:=c.cd;have hm:=c.sub (x:="object") (by decide);obtain⟨hp,g,d,tk,os⟩:=s;have L0:=I.type (M:=model prog w);have L1:=a2L (M:=model prog w) X c.ga;have L2:=a2L (M:=model prog w) X c.gn;have Lb:Looks (model prog w) hp (isInstance (.ref x) (.type "BaseException")) true:=L0.andThen (a29 X (c.sub (x:="BaseException") (by decide)));have hf:findObj K C (some od) "__class__"=some (.bind (.builtin "getset_descriptor.__get__") (.builtin "object.__class__")):=findObj_data (by rw[hc];rfl) z.ha z.hn z.htk;have L3:=looks_find (M:=model prog w) X I hf;have ga:=PySem.F.excAttr_ValueError.ga;have f3:=ga.bind (.ref x);unfold getAttr? getAttrBy? getAttrBy;refine u8 (a3H (u8 (a17 (a0N (u8 (L0.at (u8 (L1.at ?_))))))));dsimp only;rw[show(onTheHeap (Value.ref C)&&Value.builtin "BaseException.__getattribute__"==Value.builtin "object.__getattribute__")=false from by
  rw[show(Value.builtin "BaseException.__getattribute__"==Value.builtin "object.__getattribute__")=false from by decide +kernel];rfl]
 show wpAny _ _ (getAttrByItsOwn _ _ _ _ _ _) _ _ _;unfold getAttrByItsOwn;refine u8 (show wpAny _ _ (typeLookup (.ref C) "__getattr__") _ _ _ from L2.at ?_);refine u8 (a17 (a0N ?_));show wpAny _ _ (bindSpecial _ _ >>= _) _ _ _;rw[f3];refine u8 (T1 (a1H (a2j ga.plain F.entry_bexc_ga ?_)));have hk:builtinKind "BaseException.__getattribute__"=some .slot:=by decide +kernel
 have hs:splitId "BaseException.__getattribute__"=some ("BaseException","__getattribute__"):=by decide +kernel
 refine @check_slot (model prog w) _ _ ⟨hp,g,d,tk+1,os⟩ "BaseException.__getattribute__" "BaseException" "__getattribute__" (.ref x) [.str "__class__" tk] [] _ hk hs Lb (F.args_bexc_ga (.ref x) (.str "__class__" tk)) ?_;unfold Builtin.«object.__getattribute__»
 repeat(first|with_reducible refine a1H ?_|lk)
 refine class_get (s:=⟨hp,g,d,tk+1,os⟩) (ox:=ox) (od:=some od) X I hm ?_;exact T1 (T1 (T1 h))
def Bm{ox od:Obj}(c:Y5 K C)(z:XIs K C):KitX K (.ref x) (.ref C) (λh=>InstAt h x ox C (some od))where
 ty:=λ_ _ _ I=>I.type
 it:=λ_ _ X _=>by
  obtain⟨cd,a,_⟩:=c.cd;unfold clsIn at a;split at a
  .rename_i i j f d e;intro u p m o k q;exact u8 (a1C (k _ _ (X _ _ e)) (T1 q))
  .cases a
 ne:=λh g r l n sl X b=>by
  obtain⟨cd,a,_⟩:=c.cd;refine Bool.eq_false_iff.mpr λq=>?_;obtain rfl:C=g:=Value.ref.inj (a0t.mp q);unfold clsIn at a;split at a
  .rename_i i j f d e;cases(X _ _ e).symm.trans b
  .cases a
 ca:=λX I k=>Iw X c z I k
end
def cL(h:H a=some o):upd H a o=H:=by
 funext b;unfold upd;split
 .rename_i e;rw[e,h]
 .rfl
def XC(e C b:Addr):HO:=.ext λh=>∃t T a,h.get? e=some (qa C (some b) t T a)
def XC.ok(x:h.get? e=some (qa C (some dx) t T sl)):qu P w H h e (XC e C dx):=
 ⟨⟨t,T,sl,x⟩,⟨_,x⟩,λ_ _ ⟨c,b,a,p⟩ k=>⟨c,b,a,k _ p⟩⟩
def XC.get(x:qu P w H h e (XC e C dx)):∃t T a,h.get? e=some (qa C (some dx) t T a):=x.1
section
variable {X:Cx}{pins:RT}{σ:St}{H:Hp}{s:RZ}{e C dx Ta:Addr}{od:SK}{T fl:Value}{M:Model}{A:Su}{E:RX}{Q:Unit->Shared->Prop}
def Inv.t5(I:Inv X pins σ H s)(he:H e=some (XO e C (some dx) T)):Inv X pins σ (upd H e (XC e C dx)) s:=by
 obtain⟨t,h,d⟩:=XO.get (I.hok e _ he);refine I.un ⟨λb o q _ _ _=>q,λb o q _ _ _=>⟨o.slots,q⟩,λb o _ n _=>?_,λb o q _=>⟨o,q⟩,λb f q=>?_,λb o u q=>?_,λb g q=>⟨#[],?_⟩⟩ λb u q=>?_
 .have:b≠e:=λz=>by rw[z,he]at n;cases n
  rw[zm this];exact n
 .have:b≠e:=λz=>by rw[z,he]at q;cases q
  rw[zm this];exact q
 .have:b≠e:=λz=>by rw[z,he]at q;cases q
  rw[zm this];exact q
 .have:b≠e:=λz=>by rw[z,he]at q;cases q
  rw[zm this,q];simp
 .by_cases a:b=e
  .subst a;rw[zj]at q;cases q;exact XC.ok d
  .rw[zm a]at q;refine(I.hok b u q).sR (λ_ _ _ r=>r) (λc r=>?_) λc f r=>?_
   .have:c≠e:=λz2=>by rw[z2,he]at r;cases r
    rw[zm this];exact r
   .have:c≠e:=λz2=>by rw[z2,he]at r;cases r
    rw[zm this];exact r
def Fl(X:Cx)(pins:RT)(H:Hp)(s:RZ)(e C:Addr)(od:SK):Prop:=
 ∃T,H e=some (XO e C od T)/\(T=.none\/∃Ta fl,T=.ref Ta/\Tb X pins H s Ta fl/\(fl=.none\/∃n:Int,fl=rawInt n))
def cM(h:Own X)(r:A.frames=some X.stack)(I:Inv X pins σ H s)(f:Fl X pins H s e C od)
  (m:∀l i,Inv X pins σ (upd H e (XO e C od (.ref l))) { s with heap:=i }->Tb X pins (upd H e (XO e C od (.ref l))) { s with heap:=i } l (rawInt X.env.locals)->Q () { s with heap:=i }):
  wpAny M A (noteFrame (.ref e) X.env) Q E s:=by
 obtain⟨T,a,K⟩:=f;obtain⟨t,F,p⟩:=XO.get (I.hok e _ a);unfold noteFrame;simp only[h.2];refine u8 (a2t p rfl (x:=T) rfl ?_);rcases K with rfl|⟨Ta,fl,rfl,b,y⟩
 .exact fK h r I a m
 .obtain⟨L,N,w,u,v⟩:=id b.tbk;refine u8 (a2t w u v ?_);by_cases j:¬(fl==rawInt X.env.locals)=true
  .rw[if_neg j];obtain⟨G,D,B⟩:=b.ok I;have n:Ta≠e:=λz=>by have:=b.free;rw[z,a]at this;cases this
   have sz:=(a1M.mp v).1;refine u8 (a3f w u sz ?_);have d:∀c,c≠Ta->(s.heap.update Ta (Obj.mapFields (·.setIfInBounds 3 .none))).get? c=s.heap.get? c:=λc g=>a0r _ _ (Ne.symm g);have J:=by
    have:=I.Fe a [Ta] (λc g=>by
     obtain rfl:c=Ta:=by simpa using g
     exact⟨b.new,b.free,G,D,b.pin⟩) (λc o _ g _ q=>(d c `c).trans q) (λc o g q=>⟨o.slots,(d c (λz=>B (z▸g))).trans q⟩) ⟨t,F,(d e (Ne.symm n)).trans p⟩
    rwa [cL a]at this
   exact fK h r J a λl i=>m l i
  .have j:=Classical.not_not.mp j;rw[if_pos j];obtain rfl:fl=rawInt X.env.locals:=eq_of_beq j;refine T1 ?_;have:=m Ta s.heap (by rw[cL a];exact I) (by rw[cL a];exact b);exact this
end
def Om(X:Cx)(E:XK)(v:Value)(c:RZ):Prop:=∃d b e C a,v=.ref e/\Inv X.nox [] d b c/\Fl X.nox [] b c e C (some a)/\E (.ref e) (some a) (upd b e (XC e C a))
def CXe(P:Sl)(w:So):CXT:=λa H s E v b=>∃e C f d g h c,v=.ref e/\b.os=s.os/\AllBare b.gens/\Un (frs a) [] H c s.heap b.heap/\HOk P w c b.heap/\
 c e=some (XO e C (some f) (.ref d))/\b.heap.get? d=some g/\g.data=.fields h/\h[3]?=some .none/\c d=none/\`g<=d/\E (.ref e) (some f) (upd c e (XC e C f))
abbrev thr(X:Cx)(E:XK):Cx:=X.eY (Om X E)
def Inv.thrown(I:Inv X pins σ H s)(h:CXe X.prog X.w X.stack H s E v s'):
  ∃a e C c,v=.ref e/\Inv X pins σ a s'/\Fl X pins a s' e C (some c)/\E (.ref e) (some c) (upd a e (XC e C c)):=by
 obtain⟨e,C,c,n,i,x,a,rfl,j,d,un,f,l,w,o,r,m,g,q⟩:=h;have u:=I.Hz j un f d λb z=>absurd z (by simp);refine⟨a,e,C,c,rfl,u,⟨_,l,.inr ⟨n,_,rfl,⟨⟨i,x,w,o,r⟩,a0l I.sz g,m,λp hp z=>?_⟩,.inl rfl⟩⟩,q⟩;have:=S9 (I.pin p hp).1;rw[z]at this;exact absurd g (Nat.not_le.mpr this)
def Inv.nt(I:Inv X pins σ H s):Inv X [] σ H s:=I.cF λ_ h=>nomatch h
def Fl.nt(f:Fl X pins H s e C od):Fl X [] H s e C od:=by obtain⟨T,g,h⟩:=f;refine⟨T,g,h.imp id λ⟨a,fl,c,b,d⟩=>⟨a,fl,c,⟨b.tbk,b.new,b.free,λp hp=>b.pin p ?_⟩,d⟩⟩;rw[a0i]at hp;exact a1h _ hp
def Fl.eY(f:Fl X pins H s e C od):Fl (X.eY E) pins H s e C od:=by obtain⟨T,g,h⟩:=f;exact⟨T,g,h.imp id λ⟨a,fl,c,b,d⟩=>⟨a,fl,c,⟨b.tbk,b.new,b.free,b.pin⟩,d⟩⟩
def zz:Passes (CXe X.prog X.w) (thr X E) E:=λa d H s v i I h=>by obtain⟨g,e,C,b,rfl,c,f,q⟩:=Inv.thrown I h;exact⟨d,g,e,C,b,rfl,(c.Yt.eY _).nt,(Fl.eY (X:=thr X E) f.nt),q⟩
def nu:Passes (CXe P w) X E0:=λa d H s v g I h=>by obtain⟨e,C,f,b,c,i,j,_,_,_,_,_,_,_,_,_,_,_,q⟩:=h;exact False.elim q
def zH(a:Own X):PassesOwn (Ts X) X.A X.env (Om X E):=λv r ⟨j,s,e,C,m,n,I,f,q⟩=>by
 subst n;have l:=I.ok.frames;refine cM (X:=X.nox) a l I f λc o h b=>?_;obtain⟨t,p,i⟩:=XO.get (h.hok e _ zj);refine u8 (a2t i rfl (x:=.ref c) rfl ?_);refine cK h zj b λu d g=>?_;rw[ZY]at d g;refine⟨j,_,e,C,m,rfl,d,⟨_,zj,.inr ⟨c,_,rfl,g,.inr ⟨X.env.locals,?_⟩⟩⟩,?_⟩
 .rw[a.2];rfl
 .rw[ZY];exact q
def Iy{P:Sl}{w:So}{K:Sx}{j:RU}{g:Heap}{N:RS}{d:Str}{a:Scope}{f:Addr}{cd:Value}{A:Su}{c:List Env}{s:RZ}{H:Hp}{E:XK}{v:Value}{m:RZ}
  (h:Om (pT (CXe P w) P w K j g N d a f cd A c s H E) E v m):(pT (CXe P w) P w K j g N d a f cd A c s H E).xe v m:=by
 obtain⟨G,J,e,C,r,z,I,fl,q⟩:=h;subst z;have n:Own (pT (CXe P w) P w K j g N d a f cd A c s H E):=⟨rfl,rfl⟩;show wpAny (model P w) _ (leaving _ (.ref e)) _ _ m;unfold leaving;refine u8 (cM (X:=(pT (CXe P w) P w K j g N d a f cd A c s H E).nox) n I.ok.frames I fl λy F x b=>?_);refine cK x zj b λL i l=>?_;rw[ZY]at i l;obtain⟨p,D,B,o,u⟩:=l.tbk;exact⟨e,C,r,y,p,D,_,rfl,i.os,i.bare,i.base,i.hok,zj,B,o,u,l.free,l.new,by rw[ZY];exact q⟩
def PSs.Oo{X:Cx}{E:RX}{st:SE}{t:TS}(h:PSs (X.eY E) st t)(b:∀v s,E v s->X.xe v s):PSs X st t:=λa s d H D I c=>
 a0G (h a s d H D (I.eY E) c) (λ_ _ q=>q.Yt) b
section
variable {P:Sl}{w:So}{K:Sx}{mg:RU}{base:Heap}
def Fun.okX{x b:Str}{st:SN}{f:Addr}{fd:Sq}{N ps:RS}{k:Nat}{sp:Sp}(F:Fun K x b st f fd)(S:zy N ps (zl st))(len:∀d H Q E,sp d H Q E->d.length=ps.length)
  (l:∀(c:Value)(A:Su)(a:List Env)(s:RZ)(H:Hp)(d:Sh)(Q:VK) (E:XK),vB k (A.deeper (envOfC b (zl st) s.heap.objs.size f c))->sp d H Q E->
   ∃t,PSs (thr (pT (CXe P w) P w K mg base N b (zl st) f c A a s H E) E) (Z0 st) t/\t { nx:=λ_ m=>Q .non m,rt:=Q } (start N d) H):y_ P w K mg base (CXe P w) (k+1) f fd ps sp:=by
 obtain⟨r,p,kV,n,o,u,c,ct,g,rfl,i,e⟩:=F.ex;refine Oa i e S len λA a s H d Q E j hsp=>?_;obtain⟨t,h,q⟩:=l c A a s H d Q E j hsp;exact⟨t,h.Oo λv s h=>Iy h,q⟩
end
def Iz(C:Addr)(sp:Sp)(E:XK)(t:TA):TE:=λd H Q=>t d H λb a=>b.length<=1000/\∀x,a x=none->sp (.ref x::b) (upd a x (XO x C none .none)) (λv c=>v=.non/\Q (.ref x) c) E
def Inv.Oq(I:Inv X pins σ H s):
  Inv X pins σ (upd H (`g+1) (XO (`g+1) C none .none)) { s with heap:=(s.heap.push (Di us)).push (qa C none s.heap.objs.size .none #[]) }:=
 I.laid (λb u e=>S4 _ (S4 _ e)) (a0Y _) (XO.ok (by heap_get))
def t6(M:XMk X.K C f)(F:y_ X.prog X.w X.K X.mg X.base CX k f fd ps sp)(p:vB (k+1) X.A)(w:Binds X.K fd ps [])
  (m:Passes CX X E) (I:Inv X pins σ H s) (r:Vals vs us) (G:vs.length<=1000) (h:∀x,H x=none->sp (.ref x::vs) (upd H x (XO x C none .none)) (λv n=>v=.non/\Q (.ref x) n) E):
  wpAny (Ts X) X.A (call (.ref C) us) (EP X pins σ Q) X.xe s:=by
 have j:=h (`g+1) (I.hok.fresh (a0Y _));have b:=Inv.Oq (C:=C) (us:=us) I;have i:Vals (V.ref (`g+1)::vs) (Value.ref (`g+1)::us):=.cons rfl r;have c:(Value.ref (`g+1)::us++[]).length=ps.length:=by have e:=i.length;rw[F.len _ _ _ _ j]at e;rw[a0i];exact e.symm
 have l:=w _ (Value.ref (`g+1)::us) b.kIn c;rw[a0i]at l;obtain⟨o,g,d,J,D⟩:=s;refine Ol M I.kIn (by rw[<- r.length,a0I];omega) (a1D (F.run _ X.stack _ _ ⟨_::us,[]⟩ _ _ _ E (p.make C us []) (b.tI.make C us []) l i j) λr y a=>?_);cases r with
 |error e=>exact m pins σ _ _ e y b a
 |ok fl=>
  cases fl with
  |ret u=>obtain⟨v,z,q,B,ev,A⟩:=b.after a;subst ev;exact⟨B,⟨V.ref (o.objs.size+1),z,q,rfl,A⟩⟩
  |next=>exact False.elim a
  |brk=>exact False.elim a
  |cont=>exact False.elim a
def Bn(M:XMk X.K C f)(F:y_ X.prog X.w X.K X.mg X.base CX k f fd ps sp)(i:vB (k+1) X.A)(o:Gl X x)(g:X.mg x=some (.ref C))(j:Binds X.K fd ps [])(d:Passes CX X E)
  (l:PA X (e::es) t) (b:(x==("__debug__":Str))=false:=by decide) (he:starEach (e::es) X.env=(false,eval e X.env)::starEach es X.env:=by rfl) (hpl:(backTo pos (starEach es X.env)).any (·.1)=false:=by rfl):
  PE X (.Call (.Name x p) (e::es) [] pos) (Iz C sp E t):=by
 intro a s m H Q I h;refine a09 (X9 I o g ?_ b);refine a1R I.ok.mod.kin M.kp (thn (l pos a s m H _ I h) λy u ⟨v,w,c,r,n,q⟩=>⟨c.kIn,?_⟩) he hpl;exact t6 M F i j d c r n q
def Ot(K:Sx)(d h:TE)(f:Str):TS:=λD c H=>h c H λy g=>d c g λx b=>∃e C T,x=.ref e/\Y5 K C/\takerIn K C f=some none/\
  ((b e=some (XO e C none T)/\∀a,b a=none->D.nx c (upd (upd b a (XD a [(f,y)])) e (XO e C (some a) T)))\/
   (∃a fs,b e=some (XO e C (some a) T)/\b a=some (XD a fs)/\a≠e/\fs.length<1000/\D.nx c (upd b a (XD a (KN f y fs)))))
section
variable {X:Cx}{o value:Sf}{f:Str}{pos pos':Pos}{ta tv:TE}
def j5(Y:PE X o ta)(hv:PE X value tv)(hs:swapsWith value (some (.Attribute o f pos')) pos.line X.env=pure false):PS X (.Assign [.Attribute o f pos'] value pos) (Ot X.K ta tv f):=by
 intro m s J H D I h;refine a2e (thn (hv m s J H _ I h) λu s1 ⟨y,H1,I1,U,q⟩=>thn (Y m s1 J H1 _ I1 q) λov s2 ⟨x,O,j,rx,e,C,T,Z,c,R,A⟩=>?_) hs;subst Z;obtain rfl:ov=Value.ref e:=rx;rcases A with⟨a,A⟩|⟨K,fs,a,P,ne,l,A⟩
 .obtain⟨t,sl,F⟩:=XO.get (j.hok e _ a);have hne:=a1B (S9 F);have B:=j.hok.fresh (S0 _);refine pX j.kIn c F R λG w i L=>⟨J,_,?_,A _ B⟩;have lt:∀b o,s2.heap.get? b=some o->b≠s2.heap.objs.size:=λb o q=>a0e (S9 q);have d:∀b o,O b=some o->b≠s2.heap.objs.size:=λb o q z=>by rw[z,B]at q;cases q
  refine j.un ⟨λb o q n _ _=>L b o (λz=>by rw[z,a]at n;cases n) q,λb o q n _ _=>⟨o.slots,L b o (λz=>by rw[z,a]at n;cases n) q⟩,λb o q n _=>?_,λb o q _=>?_,λb xs q=>?_,λb o u q=>?_,λb ps q=>⟨#[],?_⟩⟩ λb ob q=>?_
  .rw[zm (λz=>by rw[z,a]at n;cases n),zm (lt b o q)];exact n
  .by_cases p:b=e
   .exact⟨_,p▸w⟩
   .exact⟨o,L b o p q⟩
  .rw[zm (λz=>by rw[z,a]at q;cases q),zm (d b _ q)];exact q
  .rw[zm (λz=>by rw[z,a]at q;cases q),zm (d b _ q)];exact q
  .rw[zm (λz=>by rw[z,a]at q;cases q),zm (d b _ q),q];simp
  .by_cases p:b=e
   .subst p;rw[zj]at q;cases q;exact XO.ok w
   .rw[zm p]at q;by_cases E:b=s2.heap.objs.size
    .subst E;rw[zj]at q;cases q;refine XD.ok i (λg=>?_) (λg N=>?_) (by simp)
     .by_cases z:g=f
      .subst z;simp only[List.lookup,beq_self_eq_true];exact U
      .rw[if_neg z];simp only[List.lookup,beq_eq_false_iff_ne.mpr z];exact True.intro
     .by_cases z:g=f
      .subst z;exact T9.mpr rfl
      .exact absurd (if_neg z) N
    .rw[zm E]at q;refine(j.hok b ob q).sR (λc v hc r=>L c v ?_ r) (λc r=>?_) λc xs r=>?_
     .rcases hc with z|z
      .rw[z];exact p
      .intro z2;rw[z2,a]at z;cases z
     .rw[zm (λz=>by rw[z,a]at r;cases r),zm (d c _ r)];exact r
     .rw[zm (λz=>by rw[z,a]at r;cases r),zm (d c _ r)];exact r
 .obtain⟨t,sl,F⟩:=XO.get (j.hok e _ a);obtain⟨Q,hn,r,S,l1⟩:=XD.get (j.hok K _ P);refine tZ j.kIn c F hn ne R S (by rw[f8,a0I];omega) λG i W=>⟨J,_,?_,A⟩;have M:∃u,G.get? K=some u:=let⟨o,_,_,e',_⟩:=i;⟨o,e'⟩
  refine j.write (by rw[P];exact True.intro) (.inl rfl) (λb u p z=>(W.2 b p).trans z) M (XD.ok i (λg=>?_) (λg N=>?_) ?_)
  .rw[Ke];by_cases q:g=f
   .rw[if_pos q,if_pos q];exact U
   .rw[if_neg q,if_neg q];exact r g
  .by_cases q:g=f
   .rw[q];exact(Y7 f y fs).1
   .refine(Y7 f y fs).2 g (S g λz=>N ?_);rw[if_neg q];exact z
  .have:=Kf f y fs;omega
def Ou(I:Inv X pins σ H s)(he:H e=some (XC e C dx)\/∃T,H e=some (XO e C (some dx) T)):∃t T a,s.heap.get? e=some (qa C (some dx) t T a):=by
 rcases he with he|⟨T,he⟩
 .exact XC.get (I.hok e _ he)
 .obtain⟨t,a,h⟩:=XO.get (I.hok e _ he);exact⟨t,T,a,h⟩
def IA(K:Sx)(E:XK)(c:TE):TS:=λ_ d H=>c d H λv b=>∃e C a,v=.ref e/\Y5 K C/\b e=some (XO e C (some a) .none)/\E (.ref e) (some a) (upd b e (XC e C a))
def Bo(p:X.calm=true)(he:PE (thr X E) e te):PS (thr X E) (.Raise (some e) none pos) (IA X.K E te):=by
 intro g s l H D I h;refine u8 (a1L ?_);refine u8 (u8 (thn (he g s l H _ I h) λu b ⟨v,y,d,z,a,C,w,ev,c,i,q⟩=>u8 (a1L (T1 ?_))));subst ev;obtain rfl:u=Value.ref a:=z;obtain⟨t,J,m⟩:=XO.get (d.hok a _ i);obtain⟨cd,A,_⟩:=c.cd;have n:Looks (Ts X) b.heap (typeOf (.ref a)) (.ref C):=(Looks.ld m).andThen .now;have B:Looks (Ts X) b.heap (isSubtype (.ref C) (.type "BaseException")) true:=a29 d.kIn (c.sub `b);have LI:Looks (Ts X) b.heap (isInstance (.ref a) (.type "BaseException")) true:=n.andThen B;have j:(thr X E).xe (.ref a) b:=⟨l,y,a,C,w,rfl,(d.Yt.eY _).nt,⟨.none,i,.inl rfl⟩,q⟩;have r:=d.ok.hd p;have LT:Looks (Ts X) b.heap (isType (.ref a)) false:=by intro M L G K k q;exact u8 (a1C (k _ _ m) (T1 q))
 have LE:Looks (Ts X) b.heap (isExcClass (.ref a)) false:=LT.andThen .now;refine u8 (T1 ?_);refine u8 (a0N ?_);refine u8 (LE.here ?_);simp only[if_false];refine u8 (LI.here ?_);simp only[if_true];refine T1 (u8 (LT.here ?_));simp only[Bool.false_eq_true];have LC:Looks (Ts X) b.heap (typeOf (.ref C)) (.type "type"):=looks_typeIn d.kIn c.ty;have F:Looks (Ts X) b.heap (raisedInstance (.ref a)) (.ref a):=by refine n.andThen (LC.andThen ?_);exact .now
 exact u8 (F.here (u8 (Bl d i (wpAny_raiseNew_none r j))))
end
def TyX(K:Sx)(H:Hp)(x:V)(t:Value):Prop:=sE K H x t\/
 ∃e C a fs,x=.ref e/\t=.ref C/\Y5 K C/\XIs K C/\(H e=some (XC e C a)\/∃T,H e=some (XO e C (some a) T))/\H a=some (XD a fs)
def Ov:V->Option Value
 |.ref a=>some (.ref a)
 |.ty n=>some (.type n)
 |_=>none
def Bp(r:RelV c u)(e:Ov c=some v):u=v:=by
 cases c with
 |ref a=>cases e;exact r
 |ty n=>cases e;exact r
 |_=>cases e
def iX(I:Inv X pins σ H s)(rx:RelV x u)(ty:TyX X.K H x t):∃P,KitX X.K u t P/\P s.heap/\u≠.builtin "__main__.__loader__#opaque":=by
 rcases ty with ty|⟨e,C,dx,fs,rfl,rfl,c,z,he,hd⟩
 .cases ty with
  |non=>cases rx;exact⟨_,kitx_none,True.intro,λz=>nomatch z⟩
  |bl y=>cases rx;exact⟨_,kitx_bool,True.intro,λz=>nomatch z⟩
  |int i=>obtain⟨t,q⟩:= rx;cases q;exact⟨_,kitx_int,True.intro,λz=>nomatch z⟩
  |str y=>obtain⟨t,q⟩:= rx;cases q;exact⟨_,kitx_str,True.intro,λz=>nomatch z⟩
  |flt y=>obtain⟨t,q⟩:= rx;cases q;exact⟨_,kitx_float,True.intro,λz=>nomatch z⟩
  |@lst a xs ea=>cases rx;obtain⟨_,_,n,_,h1⟩:= (I.hok a _ ea);exact⟨_,kitx_list,⟨_,h1,rfl⟩,λz=>nomatch z⟩
  |@frz a ob xs ea=>cases rx;obtain⟨_,_,_,n,_,h1⟩:= (I.hok a _ ea);exact⟨_,kitx_list,⟨_,h1,rfl⟩,λz=>nomatch z⟩
  |@tup a xs ea=>cases rx;obtain⟨_,_,_,p⟩:= (I.hok a _ ea);obtain⟨o,h1,h2,_⟩:=p;exact⟨_,kitx_tuple,⟨o,h1,h2⟩,λz=>nomatch z⟩
  |@dK a kvs ea=>cases rx;obtain⟨_,_,vs,_,p⟩:= (I.hok a _ ea);obtain⟨o,es,ep,h1,h2,_⟩:=p;exact⟨_,kitx_dict,⟨o,h1,h2.1⟩,λz=>nomatch z⟩
  |@dT a kvs ea=>cases rx;obtain⟨_,_,xs,_,o,es,ep,h1,h2,_⟩:= (I.hok a _ ea);exact⟨_,kitx_dict,⟨o,h1,h2.1⟩,λz=>nomatch z⟩
  |@ins a C dx fs ea cl ha hn htk hm=>cases rx;obtain⟨mA,O,_⟩:=cI I.hok ea;obtain⟨od,J,_⟩:=O.look;exact⟨_,kitx_own (cl.get _) cl.hd ha hn htk hm,J,λz=>nomatch z⟩
 .cases rx;obtain⟨t,T,sl,hx⟩:=Ou I he;obtain⟨mA,hn,_⟩:=XD.get (I.hok dx _ hd);obtain⟨od,hod,_⟩:=X_ hn;exact⟨_,Bm c z,⟨hx,rfl,rfl,hod⟩,λz=>nomatch z⟩
abbrev TEx:=St->Hp->VK->XK->Prop
abbrev Cx.held(X:Cx)(v:Value):Cx:={ X with A:=X.A.mark (some v),calm:=false,xe:=λ_ _=>False }
def Inv.held(I:Inv X pins σ H s)(v:Value):Inv (X.held v) pins σ H s:=
 ⟨⟨I.ok.mod,I.ok.kind,I.ok.glob,I.ok.blt,I.ok.above,I.ok.inj,I.ok.has,I.ok.cab,λz=>Bool.noConfusion z,I.ok.frames,I.ok.stk,I.ok.exf,I.ok.bs,I.ok.bsz,I.ok.Hc,I.ok.Hd,I.ok.iH,I.ok.frf⟩,I.os,I.bare,I.base,I.loc,I.cell,I.free,I.VD,I.pin,I.hok,I.len⟩
def Inv.IB(I:Inv (X.held v) pins σ H s)(ok:X.Ok):Inv X pins σ H s:=
 ⟨ok,I.os,I.bare,I.base,I.loc,I.cell,I.free,I.VD,I.pin,I.hok,I.len⟩
structure Catch(K:Sx)(C F:Addr)(b:Bool):Prop where
 ty:typeIn K (.ref F)=some (.type "type")
 cl:(clsIn K F).isSome=true
 ex:subIn K (.ref F) (.type "BaseException")=some true
 su:subIn K (.ref C) (.ref F)=some b
def iY{K:Sx}{M:Model}{h:Heap}{e C F:Addr}{b:Bool}{o:Obj}(X:K.In h)(he:h.get? e=some o)(r:o.cls=.ref C)(k:Catch K C F b):Looks M h (excMatches (.ref e) (.ref F)) b:=by
 have j:Looks M h (typeOf (.ref e)) (.ref C):=r▸(Looks.ld he).andThen .now;have c:Looks M h (typeOf (.ref F)) (.type "type"):=looks_typeIn X k.ty;have m:Looks M h (isInstance (.ref F) (.type "tuple")) false:=c.andThen (Looks.of_pure tc_notTuple);have l:Looks M h (isType (.ref F)) true:=by
  have a:=k.cl;unfold clsIn at a;split at a
  .rename_i G H u n p;intro J D w y kk q;exact u8 (a1C (kk _ _ (X _ _ p)) (T1 q))
  .cases a
 have i:Looks M h (isExcClass (.ref F)) true:=l.andThen (looks_subIn X k.ex);have f:=looks_subIn (M:=M) X k.su;intro A Q E s kk q;obtain⟨hp,g,d,x,v⟩:=s;have B:=j.keeps kk;have M2:=m.keeps kk;have I:=i.keeps kk;have z:=f.keeps kk;cases b with
 |true=>(repeat lk);exact q
 |false=>(repeat lk);exact q
def Bq(i j:Int):Prop:=i.natAbs<2 ^ 8192/\j.natAbs<2 ^ 8192
def Bq.ok(h:Bq i j):IntMulOk i j:=IntMulOk.of_le (intBits_le_iff.mpr h.1) (intBits_le_iff.mpr h.2) `b
def Ff:OpR X (binaryOp .Mult) (rI Bq λi j=>.int (i*j)):=opI λ_ _ _ _ _ _ _ a q=>mul_int q a.ok
theorem zD.upd{H:Hp}{p:Addr}{o:HO}(h:H p=Option.none):zD H (upd H p o):=λb q e=>by rw[zm (zY e h)];exact e
def iZ(cells:SA):List (Str×NameKind)->List (Str×Addr)->List (Str×Addr)
 |[],a=>a
 | (n,k)::r,a=>iZ cells r (if k == .free then(match cells.lookup n with|some c=>(n,c)::a|none=>a)else a)
theorem Wu{env:Env}:∀(names:SG)(b:SA),(∀y∈names,y.2=.free->(env.cells.lookup y.1).isSome=true)->
  (forIn names b λx r=>if(x.2==NameKind.free)=true then do let a<-cellOf env x.1;pure (ForInStep.yield ((x.1,a)::r))else pure (ForInStep.yield r))=(pure (iZ env.cells names b):Sem _)
 |[],b,_=>rfl
 | (n,k)::r,b,h=>by
  rw[List.forIn_cons];have g:=λb=>Wu r b λy j=>h y (R9 _ j);unfold iZ;by_cases f:(k==NameKind.free)=true
  .have i:=h (n,k) v4 (a0t.mp f);obtain⟨c,l⟩:=a0O.mp i;have d:=l;simp only[f,cellOf,d];exact g _
  .have e:(k==NameKind.free)=false:=by simpa using f
   simp only[e,if_false];exact g _
def pZ(h:∀y∈scope.names,y.2=.free->(env.cells.lookup y.1).isSome=true):closureFor scope env=pure (iZ env.cells scope.names []):=by have:=Wu scope.names [] h;simp only[closureFor];rw[this];rfl
theorem Q9{cells:SA}{x:Str}{c:Addr}:∀(names:SG)(b:SA),(∀d,b.lookup x=some d->cells.lookup x=some d)->(iZ cells names b).lookup x=some c->cells.lookup x=some c
 |[],b,h,e=>h c e
 | (n,k)::r,b,h,e=>by
  refine Q9 r _ (λd a=>?_) e;by_cases g:(k==NameKind.free)=true
  .rw[if_pos g]at a;split at a
   .rename_i j f;rw[a0w]at a;split at a
    .rename_i i;cases a;rw[a0t.mp i];exact f
    .exact h d a
   .exact h d a
  .rw[if_neg g]at a;exact h d a
theorem cN{cells:SA}{x:Str}:∀(names:SG)(a:SA),((a.lookup x).isSome=true\/((x,NameKind.free)∈names/\(cells.lookup x).isSome=true))->((iZ cells names a).lookup x).isSome=true
 |[],a,h=>by
  rcases h with h|⟨h,_⟩
  .exact h
  .cases h
 | (n,k)::r,a,h=>by
  refine cN r _ ?_;rcases h with h|⟨h,b⟩
  .left;by_cases d:(k==NameKind.free)=true
   .rw[if_pos d];split
    .rw[a0w];split
     .rfl
     .exact h
    .exact h
   .rw[if_neg d];exact h
  .rcases T6.mp h with e|e
   .left;cases e;rw[if_pos (by rfl)];obtain⟨c,b⟩:=a0O.mp b;rw[b];simp
   .exact .inr ⟨e,b⟩
theorem Fg{x:Str}{c:Addr}:∀(names:SG)(h:Heap)(a:SA),(cellsFrom h.objs.size names a).lookup x=some c->a.lookup x=some c\/(h.objs.size<=c/\∃v,(pushCells h names).IsCell c v)
 |[],_,_,e=>.inl e
 | (n,k)::r,h,a,e=>by
  unfold cellsFrom at e;unfold pushCells;split at e
  .rename_i b;rw[if_pos b];have d:(cellsFrom (h.push { cls:=.type "cell",data:=.cell none }).objs.size r ((n,h.objs.size)::a)).lookup x=some c:=by rw[a1k];exact e
   rcases Fg r _ _ d with z|⟨z,v⟩
   .rw[a0w]at z;split at z
    .cases z;exact .inr ⟨S0 _,none,_,a21 r _ _ _ (a0k _ rfl),rfl⟩
    .exact .inl z
   .rw[a1k]at z;exact .inr ⟨a2E z,v⟩
  .rename_i b;rw[if_neg b];exact Fg r h a e
theorem t7:∀(names:SG)(g:Nat)(a:SA),(∀x y c,a.lookup x=some c->a.lookup y=some c->x=y)->(∀x c,a.lookup x=some c->c<g)->∀x y c,(cellsFrom g names a).lookup x=some c->(cellsFrom g names a).lookup y=some c->x=y
 |[],_,_,h,_=>h
 | (n,k)::r,g,a,h,f=>by
  unfold cellsFrom;split
  .refine t7 r _ _ (λx y c b d=>?_) λx c e=>?_
   .rw[a0w]at b d;split at b<;>split at d
    .rename_i j _ i;rw[a0t.mp j,a0t.mp i]
    .cases b;exact absurd (f _ _ d) (a0Q _)
    .cases d;exact absurd (f _ _ b) (a0Q _)
    .exact h x y c b d
   .rw[a0w]at e;split at e
    .cases e;exact a0L _
    .exact a10 (f x c e)
  .exact t7 r _ _ h f
theorem t8{x:Str}:∀(names:SG)(b:Nat)(a:SA),((a.lookup x).isSome=true\/(x,NameKind.cell)∈names)->((cellsFrom b names a).lookup x).isSome=true
 |[],_,_,h=>h.elim id λz=>nomatch z
 | (n,k)::r,b,a,h=>by
  unfold cellsFrom;split
  .refine t8 r _ _ ?_;rcases h with h|h
   .left;rw[a0w];split
    .rfl
    .exact h
   .rcases T6.mp h with e|e
    .cases e;left;rw[a0w];simp
    .exact .inr e
  .rename_i c;refine t8 r _ _ (h.imp id λz=>?_);rcases T6.mp z with e|e
   .cases e;exact absurd rfl c
   .exact e
theorem t9{x:Str}:∀(names:SG)(b:Nat)(a:SA),(x,NameKind.cell)∉names->(cellsFrom b names a).lookup x=a.lookup x
 |[],_,_,_=>rfl
 | (n,k)::r,b,a,h=>by
  unfold cellsFrom;split
  .rename_i c;rw[t9 r _ _ λz=>h (R9 _ z),a0w];have:(x==n)=false:=by
    cases q:x==n with
    |false=>rfl
    |true=>exact absurd `c h
   rw[this]
  .exact t9 r _ _ λz=>h (R9 _ z)
theorem t_{x:Str}{c:Addr}:∀(names:SG)(g b:Nat)(i:SA),b<=g->((x,NameKind.cell)∈names\/∀d,i.lookup x=some d->b<=d)->(cellsFrom g names i).lookup x=some c->b<=c
 |[],_,_,_,_,h,e=>h.elim (λz=>nomatch z) λz=>z c e
 | (n,k)::r,g,b,i,f,h,e=>by
  unfold cellsFrom at e;split at e
  .refine t_ r _ b _ (a11 f) ?_ e;rcases h with h|h
   .rcases T6.mp h with z|z
    .cases z;refine .inr λd a=>?_;simp at a;rw[<- a];exact f
    .exact .inl z
   .refine .inr λd a=>?_;rw[a0w]at a;split at a
    .cases a;exact f
    .exact h d a
  .rename_i j;refine t_ r _ b _ f (h.imp (λz=>?_) id) e;rcases T6.mp z with q|q
   .cases q;exact absurd rfl j
   .exact q
def p3
  (h:Q (newEnv scope s.heap.objs.size globals (cellsFrom (`g+1) scope.names cl) qual none .none (some env) builtinsNs) { s with heap:=pushCells (s.heap.push { cls:=.type "dict",data:=.dict #[] }) scope.names }):
  wpAny M A (newFunctionEnv scope globals cl [] qual none .none (some env)) Q E s:=by
 simp only[newFunctionEnv,Option.isSome_some,if_true];refine u8 (wpAny_alloc ?_);refine u8 (wpAny_layCells _ (λd a c=>by cases b:a==NameKind.cell<;>simp[b]) _ _ _ _ ?_);rw[show({ s with heap:=s.heap.push { cls:=.type "dict",data:=.dict #[] } }:Shared).heap.objs.size=`g+1 from a1k ..];refine u8 ?_;exact T1 (T1 h)
abbrev nv(scope:Scope)(cl:SA)(L:Addr)(env:Env):Env:={ compEnvC scope cl L env with cells:=cellsFrom (L+1) scope.names cl }
abbrev qV(X:Cx)(scope:Scope)(N:RS)(fp:SH)(pn:RT)(s:RZ)(H:Hp)(L:Addr):Cx:=
 { X with N:=N,s₀:=s,H₀:=H,env:=nv scope (iZ X.env.cells scope.names []) L X.env,outer:=X.stack,ex:=fp,fn:=λx=>scope.names.contains (x,.cell),pn:=pn,xe:=λ_ _=>False }
def p4(X:Cx)(scope:Scope)(N:RS)(fr:Sm):Bool:=
 scope.kind == .function&&scope.names.all (λy=>y.2 != .cell || !scope.names.contains (y.1,.free))&&scope.names.all (λy=>y.2 != .local||scope.names.lookup y.1==some .local) &&
 scope.names.all (λy=>y.2 != .free||(X.env.kindOf y.1==some .cell||X.env.kindOf y.1==some .free))&&N.length==fr.length &&
 (N.zip fr).all λp=>match p.2 with|none=>true|some j=>X.N[j]?==some p.1&&scope.names.contains (p.1,.free)&&((relabel scope X.env).names.lookup p.1==some .cell||(relabel scope X.env).names.lookup p.1==some .free)
def AO(σ:St)(fr:Sm):St:=fr.map λo=>match o with|none=>none|some j=>(σ[j]?).join
def PTs(X:Cx)(d:Sd)(t:TT):Prop:=
 ∀(a:RT)(s:RZ)(b:St)(H:Hp)(Q:Bool->Hp->Prop),Inv X a b H s->t b H Q->
  wpAny (Ts X) X.A (forIn d true λc r=>if r=true then do let ok<-isTrue c X.env (eval c X.env);pure (ForInStep.yield ok)else pure (ForInStep.yield r)) (TP X a b Q) X.xe s
def Ru:TT:=λ_ H Q=>Q true H
def Fh:PTs X [] Ru:=λ_ _ a H _ I h=>wpAny_tests_nil ⟨H,I,h⟩
def fL(h:(relabel scope env).names.lookup x=some .cell\/(relabel scope env).names.lookup x=some .free):(x,NameKind.free)∈scope.names\/(x,NameKind.cell)∈scope.names:=by
 have a:∀(names:SG) k,(names.map λ(n,k)=>if(k==NameKind.free&&env.scope.kind == .function&&env.kindOf n==some .cell)then(n,NameKind.cell)else(n,k)).lookup x=some k->(k=.cell\/k=.free)->(x,NameKind.free)∈names\/(x,NameKind.cell)∈names:=by
  intro names
  induction names with
  |nil=>intro k e _;simp at e
  |cons y r f=>
   intro k e c;obtain⟨n,kd⟩:=y;rw[T2,a0w]at e;by_cases q:(kd==NameKind.free&&env.scope.kind == .function&&env.kindOf n==some .cell)=true
   .simp only[q]at e;split at e
    .rename_i b;have hf:=by simp only[Bool.and_eq_true,beq_iff_eq]at q;exact q.1.1
     left;rw[a0t.mp b,hf];exact v4
    .exact(f k e c).imp (R9 _) (R9 _)
   .simp only[q,if_false]at e;split at e
    .rename_i b;have d:kd=k:=a0y e;rcases c with z|z
     .right;rw[a0t.mp b,d,z];exact v4
     .left;rw[a0t.mp b,d,z];exact v4
    .exact(f k e c).imp (R9 _) (R9 _)
 rcases h with h|h
 .exact a _ _ h (.inl rfl)
 .exact a _ _ h (.inr rfl)
def i4(I:Nat->Shared->Prop)
  (a:∀n s,I n s->wpAny (model prog w) A (pyNext it) (λr f=>match r with
   |none=>R (.ok .next) f
   |some v=>wpAny (model prog w) A (letOwnedTupleGo target it v) (λ_ b=>wpAny (model prog w) A (assign target env v) (λ_ s2=>
     wpAny (model prog w) A (forIn ifs true λc r=>if r=true then do let ok<-isTrue c env (eval c env);pure (ForInStep.yield ok)else pure (ForInStep.yield r)) (λok e=>
      if ok=true then wpAny (model prog w) A (eval elt env) (λx g=>wpAny (model prog w) A (call (.builtin "list.append") [acc,x]) (λ_ i=>∃m,m<n/\I m i) (λ_ _=>False) g) (λ_ _=>False) e
      else ∃m,m<n/\I m e) (λ_ _=>False) s2) (λ_ _=>False) b) (λ_ _=>False) f) (λ_ _=>False) s)
  (n:Nat) (h:I n s):codeAny (model prog w) A (.compLoop (.ListComp elt [⟨target,qI,ifs,0⟩] scope pos) 0 it acc env) R s:=by
 refine codeAny_loop rfl I (λn s q=>?_) n h;refine wpAny_noted ?_;refine u8 (a1L (u8 (a0G (a n s q) (λr f l=>?_) λ_ _ z=>False.elim z)));cases r with
 |none=>exact T1 l
 |some v=>
  refine u8 (a0G l (λ_ b d=>u8 (a0G d (λ_ s2 u=>u8 (a0G u (λok e j=>?_) λ_ _ z=>False.elim z)) λ_ _ z=>False.elim z)) λ_ _ z=>False.elim z);cases ok with
  |false=>exact T1 ⟨rfl,j⟩
  |true=>exact u8 (u8 (a0G j (λx g o=>u8 (a0G o (λ_ i p=>T1 (T1 ⟨rfl,p⟩)) λ_ _ z=>False.elim z)) λ_ _ z=>False.elim z))
def p5{X:Cx}{pins:RT}{σ:St}{h:Hp}{s2:RZ}{P qI tg:Sf}{U:Sd}{a:Scope}{W:Pos}{N:RS}{fr:Sm}{it:Addr}{l:SH}{tn:Nat->Heap->Prop}{J:It}
  {E:RX}{RR:Value->Addr->Result->Shared->Prop}
  (hc:X.calm=true) (L:p4 X a N fr=true) (I2:Inv X pins σ h s2) (T:Turn X.prog X.w X.K tg J l it tn) (st:tn 0 s2.heap) (M:∀b∈l,pJ X pins h b)
  (k:∀(d:RZ)(K:Heap),Inv X pins σ (upd h s2.heap.objs.size (.lst [])) d->Inv (qV X a N l (X.pn++pins) d (upd h s2.heap.objs.size (.lst [])) d.heap.objs.size) [] (AO σ fr) (upd h s2.heap.objs.size (.lst [])) { d with heap:=K,toks:=d.toks+0 }->(∀b o,s2.heap.get? b=some o->K.get? b=some o)->(∀b∈l,(upd h s2.heap.objs.size (.lst [])) b=none)->(∀H':Hp,(∀b∈l,H' b=none)->∀b∈l,pJ (qV X a N l (X.pn++pins) d (upd h s2.heap.objs.size (.lst [])) d.heap.objs.size) [] H' b)->
   codeAny (Ts X) X.A (.compLoop (.ListComp P [⟨tg,qI,U,0⟩] a W) 0 (.ref it) (.ref s2.heap.objs.size) (nv a (iZ X.env.cells a.names []) d.heap.objs.size X.env)) (RR (.ref s2.heap.objs.size) d.heap.objs.size) { d with heap:=K,toks:=d.toks+0 }):
  wpAny (Ts X) X.A (newList []) (λacc d=>wpAny (Ts X) X.A (newFunctionEnv a X.env.globals (iZ X.env.cells a.names []) [] X.env.qual none .none (some X.env)) (λD s4=>
   codeAny (Ts X) X.A (.compStart (.ListComp P [⟨tg,qI,U,0⟩] a W) 0 (.ref it) acc { D with scope:=relabel a X.env }) (RR acc D.locals) s4) E d) E s2:=by
 unfold p4 at L;simp only[Bool.and_eq_true,beq_iff_eq,List.all_eq_true]at L;obtain⟨⟨⟨⟨⟨k1,k2⟩,k3⟩,k4⟩,k5⟩,k6⟩:=L;have hcf:∀x,(x,NameKind.free)∈a.names->(x,NameKind.cell)∉a.names:=λx hf A=>by have:=k2 _ A;simp only[bne_self_eq_false,Bool.false_or,Bool.not_eq_true',List.contains_eq_mem,decide_eq_false_iff_not]at this;exact this hf
 refine a1Z ?_;have f:=I2.Od (ys:=[]) (its:=[]) (t':=s2.toks) .nil (a0A _);refine p3 ?_;generalize hs3:({ s2 with heap:=s2.heap.push { cls:=.type "list",data:=.seq ([]:List Value).toArray } }:Shared)=d at f ⊢;have C:=(Heap.Ns.new d.heap (.type "dict")).keeps (a21 a.names _);have n:∀b o,d.heap.get? b=some o->(pushCells (d.heap.push { cls:=.type "dict",data:=.dict #[] }) a.names).get? b=some o:=λb o e=>a21 _ _ b o (S4 _ e);have B:=λx c e=>by have:=Fg (x:=x) (c:=c) a.names (d.heap.push { cls:=.type "dict",data:=.dict #[] }) (iZ X.env.cells a.names []) (by rw[a1k];exact e);rw[a1k]at this;exact this.imp (Q9 _ [] λ_ z=>by simp at z) id
 generalize hh1:pushCells (d.heap.push { cls:=.type "dict",data:=.dict #[] }) a.names=K at C n B ⊢;have F:∀b o,s2.heap.get? b=some o->d.heap.get? b=some o:=λb o e=>by rw[<- hs3];exact S4 _ e
 have H:∀b∈l,b<d.heap.objs.size/\(upd h s2.heap.objs.size (.lst [])) b=none:=λb g=>by obtain⟨o,ho,_⟩:=T.obj _ _ st b g;refine⟨S9 (F _ _ ho),?_⟩;rw[zm (a0e (S9 ho))];exact(M b g).1
 have r:(qV X a N l (X.pn++pins) d (upd h s2.heap.objs.size (.lst [])) d.heap.objs.size).Ok:=by
  refine⟨f.ok.mod,k1,f.ok.glob,f.ok.blt,S0 _,t7 _ _ _ (λx y c e1 s=>f.ok.inj x y c (Q9 _ [] (λ_ z=>by simp at z) e1) (Q9 _ [] (λ_ z=>by simp at z) s)) (λx c e=>?_),λx hx=>?_,λx c z e=>?_,λ_=>f.ok.hd hc,f.ok.frames,.inl rfl,
   λb g=>⟨a0e (H b g).1,λx c e=>?_⟩,f.bs,a0l f.ok.bsz f.sz,λb o e g=>?_,λb g z=>?_,f.stack,f.cE⟩
  .obtain⟨v,hv⟩:=f.cell x c (Q9 _ [] (λ_ z=>by simp at z) e);exact a10 hv.lt
  .refine a0O.mp (t8 _ _ _ ?_);rcases fL hx with hf|hf
   .have S:=k4 _ hf;simp only[bne_self_eq_false,Bool.false_or,Bool.or_eq_true,beq_iff_eq]at S;obtain⟨c,hcx⟩:=f.ok.has x S;exact .inl (cN _ [] (.inr ⟨hf,by rw[hcx];rfl⟩))
   .exact .inr hf
  .exact t_ a.names (d.heap.objs.size+1) d.heap.objs.size _ (a0Y _) (.inl (List.contains_iff_mem.mp z)) e
  .rcases B x c e with z|⟨z,_⟩
   .exact(M b g).2.2.2.2.1 x c z
   .exact λq=>absurd (a1b (a2E z) (show c<d.heap.objs.size by rw[q];exact(H b g).1)) (a0Q _)
  .rcases(M b g).2.2.2.1 with z|z
   .exact I2.ok.Hc b o e z
   .have:=S9 e;exact absurd (T7 this I2.ok.bsz) (Nat.not_lt.mpr z)
  .rcases T6.mp (f.bC b z)with z|z
   .exact(M b g).2.1 z
   .exact(M b g).2.2.1 z
 have O:(AO σ fr).length=N.length:=by unfold AO;rw[f8];exact k5.symm
 have J0:Inv (qV X a N l (X.pn++pins) d (upd h s2.heap.objs.size (.lst [])) d.heap.objs.size) [] (AO σ fr) (upd h s2.heap.objs.size (.lst [])) { d with heap:=K,toks:=d.toks+0 }:=by
  have R:=f.kept (h':=K) (t':=d.toks+0) n;refine⟨r,rfl,f.bare,Un.kept n,⟨_,C,λi x v e1 s _=>?_⟩,λx c e=>(B x c e).elim (R.cell x c) λz=>z.2,f.hok.fresh (S0 _),λx c e=>(B x c e).elim (R.VD x c) λz=>f.hok.fresh (a2E z.1),λp hp=>?_,R.hok,O⟩
  .unfold AO at s;rw[a0d]at s;cases G:fr[i]? with
   |none=>rw[G]at s;cases s
   |some o=>
    rw[G]at s;cases o with
    |none=>cases s
    |some j=>
     have Y:(σ[j]?).join=some v:=a0y s;have hm:(x,some j)∈N.zip fr:=by refine a0H (i:=i) ?_;rw[List.getElem?_zip_eq_some];exact⟨e1,G⟩
     have S:=k6 _ hm;simp only[Bool.and_eq_true,Bool.or_eq_true,beq_iff_eq,List.contains_iff_mem]at S;obtain⟨⟨g1,g2⟩,g3⟩:=S;have hσ:σ[j]?=some (some v):=by
      cases q:σ[j]? with
      |none=>rw[q]at Y;cases Y
      |some w=>rw[q]at Y;cases w with
       |none=>cases Y
       |some w=>cases Y;rfl
     have I:=k4 _ g2;simp only[bne_self_eq_false,Bool.false_or,Bool.or_eq_true,beq_iff_eq]at I;obtain⟨m,_,hl⟩:=R.loc;obtain⟨u,ru,lk⟩:=hl j x v g1 hσ (by rcases I with z|z;exact .inr (.inl z);exact .inr (.inr z));refine⟨u,ru,.inr ⟨g3,?_⟩⟩;rcases lk with⟨z,_⟩|⟨_,c,ec,z⟩
     .rcases I with q|q<;>(rw[z]at q;cases q)
     .obtain⟨c',A⟩:=a0O.mp (cN (cells:=X.env.cells) (x:=x) a.names [] (.inr ⟨g2,by rw[ec];rfl⟩));have:=Q9 _ [] (λ_ z=>by simp at z) A;rw[ec]at this;cases this;exact⟨c,(t9 _ _ _ (hcf x g2)).trans A,z⟩
  .have Z:p∈X.pn++pins:=by rw[a0i]at hp;exact hp
   obtain⟨q1,q2,q3,q4,q5⟩:=R.pin p Z;refine⟨q1,q2,a0e (S9 (f.pin p Z).1),λz=>?_,q5⟩;rcases T6.mp (f.bC _ z)with z|z
   .exact q3 z
   .exact q4 z
 have Q:∀{H':Hp},(∀b∈l,H' b=none)->∀b∈l,pJ (qV X a N l (X.pn++pins) d (upd h s2.heap.objs.size (.lst [])) d.heap.objs.size) [] H' b:=λhn b g=>
  ⟨hn b g,(r.exf b g).1,λz=>r.Hd b g z,.inl g,(r.exf b g).2,λp hp=>by rw[a0i]at hp;exact(M b g).2.2.2.2.2 p hp⟩
 have loop:=k d K f J0 (λb o e=>n b o (F b o e)) (λb g=>(H b g).2) (λ_ hn=>Q hn);exact codeAny_compStart_list loop (T.self _ 0 _ _ _ (T.keep _ _ _ st λb _ o e=>n b o (F b o e)) loop)
def ny{X:Cx}{pins:RT}{σ:St}{A:Hp}{s2:RZ}{elt qI tg:Sf}{ifs:Sd}{a:Scope}{pos:Pos}{N:RS}{fr:Sm}{g:TG}{tc:TT}{te:TE}{it:Addr}{q:SH}{tn:Nat->Heap->Prop}{J:It}
  {E:RX}{RR:Value->Addr->Result->Shared->Prop}{Q:VK}
  (hc:X.calm=true) (hok:p4 X a N fr=true) (I2:Inv X pins σ A s2) (T:Turn X.prog X.w X.K tg J q it tn) (st:tn 0 s2.heap) (f2:∀b∈q,pJ X pins A b)
  (hg:∀q pn s H L,PG (qV X a N q pn s H L) tg g) (hi:∀q pn s H L,PTs (qV X a N q pn s H L) ifs tc) (he:∀q pn s H L,PE (qV X a N q pn s H L) elt te)
  (h:∀j,A j=none->∃W:Nat->Nat->St->Hp->Prop,(∃m,W 0 m (AO σ fr) (upd A j (.lst [])))/\∀i m f l,W i m f l->
   (J.stop i l/\Q (.ref j) l)\/(J.go i l/\∃N:St->Hp->Prop,(∀f l,N f l->∃m',m'<m/\W (i+1) m' f l)/\∀x H3,J.yld i l x H3->g x f H3 λK H4=>tc K H4 λb P=>
    if b=true then te K P λv H6=>∃ys,H6 j=some (.lst ys)/\ys.length<sizeLine/\N K (upd H6 j (.lst (ys++[v])))else N K P))
  (hRR:∀j C m Y l,Inv X pins σ l Y->Y.heap.Ns C m->X.s₀.heap.objs.size<=C->l C=none->C≠X.env.locals->(∀x c,X.env.cells.lookup x=some c->c≠C)->(∀p∈X.pn++pins,p.1≠C)->Q (.ref j) l->RR (.ref j) C (.ok .next) Y):
  wpAny (Ts X) X.A (newList []) (λj w=>wpAny (Ts X) X.A (newFunctionEnv a X.env.globals (iZ X.env.cells a.names []) [] X.env.qual none .none (some X.env)) (λO s4=>
   codeAny (Ts X) X.A (.compStart (.ListComp elt [⟨tg,qI,ifs,0⟩] a pos) 0 (.ref it) j { O with scope:=relabel a X.env }) (RR j O.locals) s4) E w) E s2:=by
 have hDf:=I2.hok.fresh (S0 _);obtain⟨W,⟨m0,w0⟩,turn⟩:=h _ hDf;refine p5 hc hok I2 T st f2 λw h1 I3 J0 kp fpn B=>?_;have hcc:=hc;refine i4 (λn Y=>∃i f l,Inv (qV X a N q (X.pn++pins) w (upd A s2.heap.objs.size (.lst [])) w.heap.objs.size) [] f l Y/\tn i Y.heap/\(∀b∈q,l b=none)/\W i n f l) ?_ m0
  ⟨0,_,_,J0,T.keep _ _ _ st λb _ o e=>kp b o e,fpn,w0⟩
 rintro n s5 ⟨i,M,P,I5,st5,fr5,w5⟩
 rcases turn i n M P w5 with⟨stop,qn⟩|⟨go,NN,hNN,step⟩
 .refine thn (T.done (qV X a N q (X.pn++pins) w (upd A s2.heap.objs.size (.lst [])) w.heap.objs.size) rfl rfl rfl hcc i [] s5 M P _ I5 (B _ fr5) st5 stop) λr s6 ⟨hr,Z⟩=>?_;subst hr;have I7:=I3.Hz Z.os Z.base Z.hok Z.bare λb G=>⟨(f2 b G).2.2.2.1,(f2 b G).2.1,(f2 b G).2.2.2.2.1,(f2 b G).2.2.2.2.2⟩;obtain⟨mm,hmm,_⟩:=Z.loc;refine hRR _ _ mm s6 P I7 hmm I3.sz Z.free (a1B I3.lt) (λx c e z=>?_) (λp hp z=>?_) qn
  .obtain⟨v,hv⟩:=I3.cell x c e;exact absurd hv.lt `c
  .exact absurd (S9 (I3.pin p hp).1) `c
 .refine thn (T.item (qV X a N q (X.pn++pins) w (upd A s2.heap.objs.size (.lst [])) w.heap.objs.size) rfl rfl rfl hcc i [] s5 M P _ I5 (B _ fr5) st5 go) λr s6 ⟨u,hr,h6⟩=>?_;subst hr;refine thn h6 λ_ s7 ⟨x,H7,I7,r7,y7,S,fr7⟩=>?_;have I7':=I7.pinned (B _ fr7) (T.obj _ _ S);have F:∀{D:St}{R:Hp}{s9:RZ},Inv (qV X a N q (X.pn++pins) w (upd A s2.heap.objs.size (.lst [])) w.heap.objs.size) ([]++fg q s7.heap) D R s9->NN D R->
    ∃m,m<n/\∃i f l,Inv (qV X a N q (X.pn++pins) w (upd A s2.heap.objs.size (.lst [])) w.heap.objs.size) [] f l s9/\tn i s9.heap/\(∀b∈q,l b=none)/\W i m f l:=λ{D R s9} U n9=>by
   obtain⟨m',hm,w9⟩:=hNN D R n9;refine⟨m',hm,i+1,D,R,U.wy,T.keep _ _ _ S λb G o e=>(U.pin (b,o) (a0m _ (a0m _ (Q8 G e)))).1,λb G=>?_,w9⟩;obtain⟨o,e,d⟩:=T.obj _ _ S b G;exact(U.pin (b,o) (a0m _ (a0m _ (Q8 G e)))).2.1
  refine thn (hg _ _ _ _ _ _ s7 M H7 x u _ I7' r7 (step x H7 y7)) λ_ s8 ⟨I,H8,I8,q8⟩=>?_;refine thn (hi _ _ _ _ _ _ s8 I H8 _ I8 q8) λok s9 ⟨R,U,q9⟩=>?_;cases ok with
  |false=>exact F U q9
  |true=>refine thn (he _ _ _ _ _ _ s9 I R _ U q9) λy s10 ⟨v,H10,I10,r10,ys,h10,l10,q10⟩=>?_;refine thn (Uc _ s10 I H10 (.ref s2.heap.objs.size) [v] (.ref s2.heap.objs.size) [y] (λ_ H11=>NN I H11) I10 rfl (.cons r10 .nil) ⟨_,ys,v,rfl,rfl,h10,l10,q10⟩) λ_ s11 ⟨_,H11,I11,_,q11⟩=>?_;exact F I11 q11
def tLC(s:TI)(g:TG)(r:TT)(u:TE)(fr:Sm):TE:=λn H Q=>s n H λJ p=>∀c,p c=none->∃W:Nat->Nat->St->Hp->Prop,(∃m,W 0 m (AO n fr) (upd p c (.lst [])))/\∀i m a e,W i m a e->
 (J.stop i e/\Q (.ref c) e)\/(J.go i e/\∃N:St->Hp->Prop,(∀a e,N a e->∃l,l<m/\W (i+1) l a e)/\∀x j,J.yld i e x j->g x a j λd q=>r d q λb h=>
  if b=true then u d h λv o=>∃f,o c=some (.lst f)/\f.length<sizeLine/\N d (upd o c (.lst (f++[v])))else N d h)
def nA{X:Cx}{pins:RT}{σ:St}{H:Hp}{s:RZ}{a:Scope}{N:RS}{fr:Sm}(b:p4 X a N fr=true)(I:Inv X pins σ H s):
  a.kind=.function/\(∀y∈a.names,y.2=.local->a.names.lookup y.1=some .local)/\closureFor a X.env=pure (iZ X.env.cells a.names []):=by
 unfold p4 at b;simp only[Bool.and_eq_true,beq_iff_eq,List.all_eq_true]at b;obtain⟨⟨⟨⟨⟨i,j⟩,h⟩,g⟩,m⟩,l⟩:=b;refine⟨i,λy e z=>?_,pZ λy e z=>?_⟩
 .have:=h y e;rw[z]at this;simpa using this
 .have f:=g y e;rw[z]at f;simp only[bne_self_eq_false,Bool.false_or,Bool.or_eq_true,beq_iff_eq]at f;obtain⟨c,d⟩:=I.ok.has y.1 f;rw[d];rfl
def IC(N:RS)(fr:Sm)(F:X.calm=true)(f:p4 X scope N fr=true)(P:PI X tg qI wi)(U:∀d i s H L,PG (qV X scope N d i s H L) tg g)(z:∀d i s H L,PTs (qV X scope N d i s H L) ifs tc)(he:∀d i s H L,PE (qV X scope N d i s H L) elt te)
  (K:∀x,foldedSetIterable qI X.env x=pure x:=by intro _;rfl):PE X (.ListComp elt [⟨tg,qI,ifs,0⟩] scope pos) (tLC wi g tc te fr):=by
 intro a s r H Q I h;obtain⟨E,O,n⟩:=nA f I;refine a2M rfl K n E O (thn (P a s r H _ I h) λv s1 p=>thn p λW s2 l=>?_);obtain⟨it,d,tn,J,H2,e,R,T,j,Y,w⟩:=l;subst e;refine ny F f R T j Y U z he w λc C m B G S A p l M u D q=>?_;exact⟨m,A,λh' Z=>⟨.ref c,G,S.turned (λb o y e=>(Z.2 b y).trans e) l M (.inr p) u D,rfl,q⟩⟩
def Br(N:RS)(fr:Sm)(hN:X.N.Nodup)(hy:X.N[i]?=some y)(O:X.env.scope.names.lookup y=some .local)(hc:X.calm=true)(l:p4 X scope N fr=true)(hi:PI X tg qI wi)(hg:∀f n s H L,PG (qV X scope N f n s H L) tg g)
  (Y:∀f n s H L,PTs (qV X scope N f n s H L) ifs tc) (he:∀f n s H L,PE (qV X scope N f n s H L) elt te) (u:swapsWith (.ListComp elt [⟨tg,qI,ifs,0⟩] scope pos) (some (.Name y py)) m4.line X.env=pure true:=by rfl)
  (hs:∀x,foldedSetIterable qI X.env x=pure x:=by intro _;rfl):PS X (.Assign [.Name y py] (.ListComp elt [⟨tg,qI,ifs,0⟩] scope pos) m4) (Hh (tLC wi g tc te fr) (iP i)):=by
 intro c s M H D I h;obtain⟨k1,k3,F⟩:=nA l I;rw[exec_Assign_Name_used _ _ _ _ u];refine u8 (a1L (u8 ?_));refine u8 (a0G (a2M rfl hs F k1 k3
  (thn (hi c s M H _ I h) λv s1 G=>thn G λitv s2 A=>?_)) (λ_ j hq=>T1 (T1 hq)) λ_ _ z=>z)
 obtain⟨it,f,tn,J,H2,e,I2,T,p,f2,R⟩:=A;subst e;refine ny (Q:=λv H1=>iP i v M H1 D.nx) hc l I2 T p f2 hg Y he R λd C m j H' I' hn G A P K h5 q=>?_;refine wpAny_assign_Name (fc (v:=.ref d) I' hN hy (.inl O) rfl (λw B ⟨a,sb,U⟩=>?_) (.inr O));have r:C≠a:=λz=>by
  rcases U with e|e
  .exact P (z.trans e)
  .exact K y a e z.symm
 obtain⟨o,es,Z,W,rr⟩:=id hn;refine⟨m,⟨o,es,Z,(sb.2 C r).trans W,rr⟩,λh' E=>⟨_,H',B.turned (λb o S e=>(E.2 b S).trans e) A P (.inr G) K h5,q⟩⟩
section
variable {X:Cx}
def Rv:V->Option Int->Option Int->Hp->VK->Prop:=λx b a H Q=>∃z,x=.str z/\z.length<=sizeLine/\Q (.str (Txt.slice z b a)) H
def ID:SlR X Rv:=by
 intro c s n H x v w y B A r Q I j g m f h;obtain⟨z,rfl,hz,q⟩:=h;obtain⟨t,rfl⟩:=j;have b:∀{a:Value}{o:SQ},IsPart a o->∃p:Option (Int×Tok),a=partValue p/\p.map (·.1)=o:=by
  intro a o h;cases h
  .exact⟨none,rfl,rfl⟩
  .exact⟨some (_,_),rfl,rfl⟩
 obtain⟨i,rfl,rfl⟩:=b m;obtain⟨d,rfl,rfl⟩:=b f;refine⟨"str",_,F.slot_str_getitem.lookup,typeIs_str _ _ _,wpAny_getItem_str_slice (l:=i) (u:=d) (st:=none) ?_ rfl ?_⟩
 .exact g
 .exact post_val_or_str ⟨a0l (Txt.slice_le z _ _) hz,λe k=>⟨.str _,H,I.tok _,⟨e,rfl⟩,q⟩⟩
end
def Its(x:Str):It:=⟨λi _=>i<x.cps.size,λi H v a=>a=H/\∃c,x.cps[i]?=some c/\v=.str ⟨#[c]⟩,λi _=>x.cps.size<=i⟩
def Fi(a:Addr)(x:Str)(i:Nat)(h:Heap):Prop:=∃t,h.IsStrIter a "str_ascii_iterator" x t i\/h.IsStrIter a "str_iterator" x t i
def Bt{P:Sl}{w:So}{K:Sx}{y:Str}{N:Pos}(f:Addr)(x:Str):Turn P w K (.Name y N) (Its x) [f] f (λi h=>i<=x.cps.size/\Fi f x i h)where
 mem:=by simp
 obj:=λi h st b a=>by
  obtain rfl:b=f:=by simpa using a
  obtain⟨_,t,⟨o,e,_,d⟩|⟨o,e,_,d⟩⟩:=st<;>exact⟨o,e,λv z=>by rw[d]at z;cases z⟩
 keep:=λi h A st k=>by
  obtain⟨L,t,⟨o,e,r⟩|⟨o,e,r⟩⟩:=st
  .exact⟨L,t,.inl ⟨o,k f (by simp) o e,r⟩⟩
  .exact⟨L,t,.inr ⟨o,k f (by simp) o e,r⟩⟩
 item:=by
  intro X hP D F B i l s M H E I hf st G;have c:=G;have g:=Array.getElem?_eq_getElem c;obtain⟨q,n,O,u,p,m⟩:=hf f (by simp);obtain⟨_,t,st|st⟩:=st
  .refine wpAny_pyNext_ascii_item st g λA j J=>⟨_,rfl,T1 ⟨.str ⟨#[x.cps[i]]⟩,H,I.turned (λb o a e=>(J.2 b a).trans e) q n u p m,⟨_,rfl⟩,⟨rfl,_,g,rfl⟩,⟨c,t,.inl j⟩,λb a=>(hf b a).1⟩⟩
  .refine wpAny_pyNext_wide_item st g λA j J=>⟨_,rfl,T1 ⟨.str ⟨#[x.cps[i]]⟩,H,I.turned (λb o a e=>(J.2 b a).trans e) q n u p m,⟨_,rfl⟩,⟨rfl,_,g,rfl⟩,⟨c,t,.inr j⟩,λb a=>(hf b a).1⟩⟩
 done:=by
  intro X hP D F B i l s M H E I hf st G;have c:=G;have g:=a3a c;obtain⟨q,n,O,u,p,m⟩:=hf f (by simp);obtain⟨_,t,st|st⟩:=st
  .exact wpAny_pyNext_ascii_end (I.ok.hd B) st g λA C=>⟨rfl,I.turned (λb o a e=>C b o a e) q n u p m⟩
  .exact wpAny_pyNext_wide_end (I.ok.hd B) st g λA C=>⟨rfl,I.turned (λb o a e=>C b o a e) q n u p m⟩
 self:=λ_ _ _ _ _ st h=>by
  obtain⟨_,t,st|st⟩:=st
  .exact wpAny_pyIter_striter_ascii st h
  .exact wpAny_pyIter_striter_wide st h
def Rx(b:TE):TI:=λc H R=>b c H λx a=>∃z,x=.str z/\R (Its z) a
def IE(n:PE X l tl):PI X (.Name y py) l (Rx tl):=by
 intro c s d H R I h;refine thn (n c s d H _ I h) λv a ⟨x,i,f,r,z,e,q⟩=>?_;subst e;obtain⟨t,rfl⟩:=r;have p:∀o:Obj,(∀h,h.get? a.heap.objs.size=some o->Fi a.heap.objs.size z 0 h)->PIE X c d (.Name y py) R (.ref a.heap.objs.size) { a with heap:=a.heap.push o }->PIE X c d (.Name y py) R (.ref a.heap.objs.size) { a with heap:=a.heap.push o }:=λ_ _ h=>h;have mk:∀o:Obj,o.isFreed=false->(∀h:Heap,h.get? a.heap.objs.size=some o->Fi a.heap.objs.size z 0 h)->PIE X c d (.Name y py) R (.ref a.heap.objs.size) { a with heap:=a.heap.push o }:=λo hf m=>by
  have w:Inv X c d i { a with heap:=a.heap.push o }:=f.kept (t':=a.toks) λb u e=>S4 _ e;refine⟨a.heap.objs.size,[a.heap.objs.size],_,Its z,i,rfl,w,Bt _ z,⟨a0A _,m _ (a0k _ hf)⟩,λb j=>?_,q⟩;obtain rfl:b=a.heap.objs.size:=by simpa using j
  exact f.Hi (S0 _) (f.hok.fresh (S0 _))
 cases g:z.cps.all (·<128)
 .exact wpAny_pyIter_wide g (mk _ rfl λh e=>⟨t,.inr ⟨_,e,rfl,rfl⟩⟩)
 .exact wpAny_pyIter_ascii g (mk _ rfl λh e=>⟨t,.inl ⟨_,e,rfl,rfl⟩⟩)
section
variable {X:Cx}
theorem cO:∀{bs:R_}{a:Sa},Vals (bs.map V.bl) a->a=bs.map Value.bool
 |[],_,.nil=>rfl
 |b::bs,_,.cons e r=>by have c:=e;subst c;rw[cO r];rfl
def Uh{prog:Sl}{w:So}{A:Su}{bs:R_}:TruthOf prog w A (λi v=>(bs.map Value.bool).toArray[i]?=some v) (λi=>bs.getD i false):=by
 intro i v s Q E h q;have a:(bs.map Value.bool)[i]?=some v:=by simpa using h
 rw[a0d]at a;cases e:bs[i]? with
 |none=>rw[e]at a;cases a
 |some b=>
  rw[e]at a;cases a;have:bs.getD i false=b:=by simp[List.getD,e]
  dsimp only at q;rw[this]at q;exact T1 q
def range_all(bs:R_):(List.range bs.length).all (λi=>bs.getD i false)=bs.all id:=by
 induction bs with
 |nil=>rfl
 |cons b bs a=>rw[R4,a15,a16,List.all_map,a16,<- a];rfl
def Pw(K:Sx):List V->Hp->VK->Prop:=λa H Q=>∃(p:Addr)(bs:R_),a=[.ref p]/\SqL K H p (bs.map V.bl)/\Q (.bl (bs.all id)) H
def Bu(n:X.calm=true):ZZ X (.builtin "all") (Pw X.K):=by
 intro a s j H B C Q I r h;obtain⟨p,bs,rfl,m,q⟩:=h;obtain⟨u,rfl,x⟩:=vals1 r;cases x;obtain⟨y,w,f,_⟩:=I.list m;have e:=cO w;subst e;have c:p≠s.heap.objs.size:=by obtain⟨o,d,_⟩:=f.isList;exact a0e (S9 d)
 refine call_all_walk (a12 f.isList ⟨`g,_,_,_,_,_,_,rfl,Walks.list (A:=X.A.in1) (I.ok.hd n) s.heap.objs.size p c (bs.map Value.bool).toArray,?_,Uh,λi g l=>?_⟩)
 .refine⟨⟨_,a0k _ rfl,rfl,rfl⟩,?_⟩;obtain⟨o,d,z⟩:=f.isList;exact⟨o,S4 _ d,z⟩
 .have v:=I.kept (t':=g) λb o e=>l b o (by simp;exact a0e (S9 e)) (S4 _ e);refine⟨.bl _,H,v,rfl,?_⟩;have:(List.map Value.bool bs).toArray.size=bs.length:=by simp
  rw[this,range_all];exact q
end
abbrev TJ:=St->Hp->Str->(Str->Hp->Prop)->Prop
section
variable {X:Cx}
def IF:R2:=λx y H Q=>∃z i,x=.str z/\y=.int i/\z.length<=16/\-2 ^ 63<=i/\i<=1048576/\Q (.str (Txt.mul z i)) H
def p6:OpR X (binaryOp .Mult) IF:=by intro a s g H x y v u Q I e d h;obtain⟨z,i,rfl,rfl,hz,f,c,q⟩:=h;obtain⟨t,rfl⟩:=e;obtain⟨b,rfl⟩:=d;exact PySem.W.KXi.mul rfl hz f c λb k _ _=>⟨.str _,H,I.tok _,⟨_,rfl⟩,q⟩
def IG(i j:Int):Prop:=j≠0/\j.natAbs<2 ^ 8192
def Bv:OpR X (binaryOp .FloorDiv) (rI IG λi j=>.int (i.fdiv j)):=opI λ_ j _ _ _ _ _ a q=>floordiv_int a.1 q (.inl (PyProof.noPylong_of_log2 (by
 have b:j.natAbs≠0:=by have:=a.1;omega
 have:=(Nat.log2_lt b).mpr a.2;omega)))
theorem ua:∀{b:Sw}{c:Sa},Vals (b.map V.int) c->∃a:List (Int×Tok),c=a.map (λz=>Value.int z.1 z.2)/\a.map Prod.fst=b
 |[],_,.nil=>⟨[],rfl,rfl⟩
 |n::b,_,.cons ⟨t,e⟩ r=>by subst e;obtain⟨a,rfl,rfl⟩:=ua r;exact⟨(n,t)::a,rfl,rfl⟩
def IH(K:Sx):List V->Hp->VK->Prop:=λc H Q=>∃(p:Addr)(b:Sw),c=[.ref p]/\SqL K H p (b.map V.int)/\b≠[]/\∀M,M∈b->(∀a∈b,a<=M)->Q (.int M) H
def ub(n:X.calm=true):ZZ X (.builtin "max") (IH X.K):=by
 intro f s F H y J Q I r h;obtain⟨p,G,rfl,l,c,q⟩:=h;obtain⟨u,rfl,B⟩:=vals1 r;cases B;obtain⟨C,x,D,_⟩:=I.list l;obtain⟨b,rfl,rfl⟩:=ua x;have e:(b.map (λz=>Value.int z.1 z.2)).toArray=intItems b.toArray:=by unfold intItems;simp
 have d:0<b.toArray.size:=by
  cases b with
  |nil=>exact absurd rfl c
  |cons a r=>simp
 refine max_intList (I.ok.hd n) (by rw[<- e];exact D.isList) d λv E m A i=>?_;obtain⟨t,rfl⟩:=intItems_at A;obtain⟨K,o⟩:=argBest_gt (numAt b.toArray) (b.toArray.size-1);refine⟨.int _,H,I.kept i,⟨t,rfl⟩,q _ ?_ λa g=>?_⟩
 .rw[numAt_eq];exact getD_mem `c
 .obtain⟨j,w,rfl⟩:=mem_getD g;rw[f8]at w;have:=o j `c;rw[numAt_eq]at this;exact this
end
def Hk(P:Sl)(w:So)(K:Sx)(c:RU)(a:Heap)(A:Su)(m:Str)(C:Addr)(sp:Sp):Prop:=
 ∃k f fd b,Cls K C/\Meth K C m f/\y_ P w K c a (CXe P w) k f fd b sp/\vB k A/\Binds K fd b []
def Dj(b:Addr->Sp->Prop)(m:Str)(E:XK)(i:TE)(t:TA):TE:=λe H Q=>i e H λx d=>∃a g fs C c,b C c/\x=.ref a/\d a=some (.ins C g fs)/\fs.lookup m=none/\t e d λh f=>c (x::h) f Q E
def Bw(he:PE X o ta)(i:∀C d,alts C d->Hk X.prog X.w X.K X.mg X.base X.A m C d)(A:Passes (CXe X.prog X.w) X E)(G:PA X (e::es) t)
  (j:starEach (e::es) X.env=(false,eval e X.env)::starEach es X.env:=by rfl) (hpl:(backTo pos (starEach es X.env)).any (·.1)=false:=by rfl)
  (L:eval (.Call (.Attribute o m jm) (e::es) [] pos) X.env=(do
   let ov<-eval o X.env
   standAt jm.atName
   let(f,first)<-holding [ov] (getMethod ov m pl)
   callWith pos f first (backTo pos (starEach (e::es) X.env)) (backToKw pos (keywordEach [] X.env))):=by rfl):
  PE X (.Call (.Attribute o m jm) (e::es) [] pos) (Dj alts m E ta t):=by
 intro b s p H Q I h;refine a3g (thn (he b s p H _ I h) λu K ⟨x,N,w,O,a,S,fs,C,d,g,J,M,l,q⟩=>?_) L;obtain⟨k,f,fd,T,c,n,F,B,D⟩:=i C d g;subst J;obtain rfl:u=Value.ref a:=O;refine bF w M c n l ?_;refine a1R I.ok.mod.kin n.kp (thn (G pos b K p N _ w q) λz s2 ⟨v,P,y,r,R⟩=>⟨y.kIn,?_⟩) j hpl;exact tJ (vs:=.ref a::v) F B D .nil A y (.cons rfl r) (by rwa [a0i])
def uc(he:PE X o ta)(g:∀C d,alts C d->Hk X.prog X.w X.K X.mg X.base X.A m C d)(n:Passes (CXe X.prog X.w) X E)
  (y:eval (.Call (.Attribute o m jm) [] [] pos) X.env=(do
   let ov<-eval o X.env
   standAt jm.atName
   let(f,first)<-holding [ov] (getMethod ov m pl)
   callWith pos f first (backTo pos (starEach [] X.env)) (backToKw pos (keywordEach [] X.env))):=by rfl):
  PE X (.Call (.Attribute o m jm) [] [] pos) (Dj alts m E ta N8):=by
 intro b s v H Q I h;refine a3g (thn (he b s v H _ I h) λu B ⟨x,G,i,A,a,D,fs,C,d,e,w,z,l,q⟩=>?_) y;obtain⟨k,f,fd,J,c,j,F,p,r⟩:=g C d e;subst w;obtain rfl:u=Value.ref a:=A;refine bF i z c j l ?_;exact PySem.W.callWith_K0 i.kIn j.kp (tJ (vs:=[.ref a]) F p r .nil n i (.cons rfl .nil) q)
def nB{A:Su}{xs ys:Sh}{us ws:Sa}{e:Nat->Bool}(h:Vals xs us)(d:Vals ys ws)(he:∀j x y u v,xs[j]?=some x->ys[j]?=some y->RelV x u->RelV y v->SeqAt.EqAt A s u v (e j)):
  ∀j (b:j<us.toArray.size) (a:j<ws.toArray.size),SeqAt.EqAt A s us.toArray[j] ws.toArray[j] (e j):=by
 intro j b a;have m:j<xs.length:=by rw[h.length];exact b
 have l:j<ys.length:=by rw[d.length];exact a
 have f:=S6 m;have g:=S6 l;obtain⟨u,i,q⟩:=h.get f;obtain⟨w,p,c⟩:=d.get g;have o:us.toArray[j]=u:=by have:=S6 b;rw[i]at this;simpa using(a0y this).symm
 have n:ws.toArray[j]=w:=by have:=S6 a;rw[p]at this;simpa using(a0y this).symm
 rw[o,n];exact he j _ _ _ _ f g q c
theorem zD.none(s:zD H H')(h:H' q=Option.none):H q=Option.none:=by
 cases e:H q with
 |none=>rfl
 |some o=>rw[s _ _ e]at h;cases h
inductive PV where
 |i (n:Int)|s (x:Str)|b (c:Bool)|n
 |l (xs:List PV)|t (xs:List PV)|d (kvs:List (Key×PV))|o (c:Nat) (fs:List (Str×PV))|x (c:Nat) (fs:List (Str×PV))|sc (ns:Sw)|dt (kvs:SW)
abbrev Sn:=List PV
abbrev Sr:=(List (Key×PV))
abbrev Ss:=(List (Str×PV))
abbrev Sz:=Option PV
abbrev SV:=(PV->PV->Option Bool)
abbrev Te:=List (Option PV)
def dtV(kvs:SW):List (List Key×V):=kvs.map λq=>(q.1,V.int q.2)
inductive Out(α:Type)where
 |ok (a:α)|exc (c:Nat) (fs:Ss)|wall
abbrev Sj:=(List PV->Out PV)
abbrev Tc:=(PV->PV->Out PV)
def Out.bind{d b:Type}:Out d->(d->Out b)->Out b
 |.ok a,f=>f a
 |.exc c fs,_=>.exc c fs
 |.wall,_=>.wall
structure RC where
 K:Frag
 cls:Nat->Addr
def KL(K:Sx)(a:Addr)(xs:Sh):Prop:=∃(o:Obj)(b:SJ)(n:Nat),K.lookup a=some o/\o.cls=.type "list"/\o.dict=none/\o.data=.seq b n/\b.size<=sizeLine/\Vals xs b.toList
def i5(K:Sx)(N:RY)(H:Hp)(p:Addr)(vs:Sh):Prop:=(N p/\Rd H p (.lst vs))\/KL K p vs
def i5.sq{K:Sx}{N:RY}{H:Hp}{p:Addr}{vs:Sh}(h:i5 K N H p vs):SqL K H p vs:=h.elim (λz=>.inl z.2) .inr
mutual
def Rep(W:RC)(M:RY)(H:Hp):PV->V->Prop
 |.i n,v=>v=.int n
 |.s x,v=>v=.str x
 |.b c,v=>v=.bl c
 |.n,v=>v=.non
 |.l f,v=>∃p e,v=.ref p/\M p/\H p=some (.lst e)/\yx W M H f e
 |.t f,v=>∃p e,v=.ref p/\SqT W.K H p e/\yx W M H f e
 |.d b,v=>∃p a,v=.ref p/\M p/\Rd H p (.dK a)/\jY W M H b a
 |.sc g,v=>∃p,v=.ref p/\i5 W.K M H p (g.map V.int)
 |.dt b,v=>∃p,v=.ref p/\M p/\Rd H p (.dT (dtV b))
 |.o c fs,v=>∃p d a,v=.ref p/\M p/\H p=some (.ins (W.cls c) d a)/\vp W M H fs a
 |.x c fs,v=>∃p d a,v=.ref p/\H p=some (XC p (W.cls c) d)/\H d=some (XD d a)/\vp W M H fs a
def yx(W:RC)(M:RY)(H:Hp):List PV->List V->Prop
 |[],a=>a=[]
 |x::b,a=>∃v r,a=v::r/\Rep W M H x v/\yx W M H b r
def jY(W:RC)(M:RY)(H:Hp):List (Key×PV)->List (Key×V)->Prop
 |[],a=>a=[]
 |b::r,a=>∃v q,a=(b.1,v)::q/\Rep W M H b.2 v/\jY W M H r q
def vp(W:RC)(M:RY)(H:Hp):List (Str×PV)->List (Str×V)->Prop
 |[],a=>a=[]
 |b::r,a=>∃v q,a=(b.1,v)::q/\Rep W M H b.2 v/\vp W M H r q
end
def Imm:HO->Prop
 |.lst _=>False | .dK _=>False | .dT _=>False | .set _ _=>False | .ins _ _ _=>False | .tbl _=>False
 |_=>True
def Fr(M:RY)(H H':Hp):Prop:=∀a o,H a=some o->(M a\/Imm o)->H' a=some o
def Fr.rd(f:Fr M H H')(h:Rd H p u)(m:M p):Rd H' p u:=
 h.elim (λz=>.inl (f _ _ z (.inl m))) λ⟨o,z⟩=>.inr ⟨o,f _ _ z (.inl m)⟩
def Fr.sqT{M:RY}{K:Sx}{H H':Hp}(f:Fr M H H'){p:Addr}{u:Sh}(h:SqT K H p u):SqT K H' p u:=
 h.elim (λh=>.inl (h.elim (λz=>.inl (f _ _ z (.inr trivial))) λ⟨o,z⟩=>.inr ⟨o,f _ _ z (.inr trivial)⟩)) .inr
def i5.frame{K:Sx}{N:RY}{H H':Hp}(f:Fr N H H'){p:Addr}{vs:Sh}(h:i5 K N H p vs):i5 K N H' p vs:=h.elim (λz=>.inl ⟨z.1,f.rd z.2 z.1⟩) .inr
def jI(h:Rd H p u):H p≠none:=by rcases h with z|⟨_,z⟩<;>rw[z]<;>intro e<;>cases e
section
variable {W:RC}{M M':RY}{H H':Hp}
mutual
theorem Rep.gen(f:Fr M H H')(s:∀a,M a->H a≠none->M' a):∀{x:PV}{v:V},Rep W M H x v->Rep W M' H' x v
 |.i n,v,h=>h
 |.s x,v,h=>h
 |.b c,v,h=>h
 |.n,v,h=>h
 |.l l,v,h=>by obtain⟨p,b,e,m,r,q⟩:=h;exact⟨p,b,e,s p m `c,f _ _ r (.inl m),yx.gen f s q⟩
 |.sc o,v,h=>by obtain⟨p,e,r⟩:=h;exact⟨p,e,r.elim (λz=>.inl ⟨s p z.1 (by rcases z.2 with z|⟨_,z⟩<;>rw[z]<;>intro e<;>cases e),f.rd z.2 z.1⟩) .inr⟩
 |.dt i,v,h=>by obtain⟨p,e,m,r⟩:=h;exact⟨p,e,s p m (jI r),f.rd r m⟩
 |.t l,v,h=>by obtain⟨p,b,e,r,q⟩:=h;exact⟨p,b,e,f.sqT r,yx.gen f s q⟩
 |.d i,v,h=>by obtain⟨p,b,e,m,r,q⟩:=h;exact⟨p,b,e,s p m (jI r),f.rd r m,jY.gen f s q⟩
 |.o c fs,v,h=>by obtain⟨p,d,g,e,m,r,q⟩:=h;exact⟨p,d,g,e,s p m `c,f _ _ r (.inl m),vp.gen f s q⟩
 |.x c fs,v,h=>by obtain⟨p,d,g,e,r,j,q⟩:=h;exact⟨p,d,g,e,f _ _ r (.inr trivial),f _ _ j (.inr trivial),vp.gen f s q⟩
theorem yx.gen(f:Fr M H H')(s:∀a,M a->H a≠none->M' a):∀{x:Sn}{v:Sh},yx W M H x v->yx W M' H' x v
 |[],v,h=>h
 |x::g,d,h=>by unfold yx at h ⊢;obtain⟨v,r,e,c,b⟩:=h;exact⟨v,r,e,Rep.gen f s c,yx.gen f s b⟩
theorem jY.gen(f:Fr M H H')(s:∀a,M a->H a≠none->M' a):∀{x:Sr}{v:Sk},jY W M H x v->jY W M' H' x v
 |[],v,h=>h
 | (k,x)::g,d,h=>by unfold jY at h ⊢;obtain⟨v,r,e,c,b⟩:=h;exact⟨v,r,e,Rep.gen f s c,jY.gen f s b⟩
theorem vp.gen(f:Fr M H H')(s:∀a,M a->H a≠none->M' a):∀{x:Ss}{v:Sy},vp W M H x v->vp W M' H' x v
 |[],v,h=>h
 | (k,x)::g,d,h=>by unfold vp at h ⊢;obtain⟨v,r,e,c,b⟩:=h;exact⟨v,r,e,Rep.gen f s c,vp.gen f s b⟩
end
end
def Fr.refl:Fr M H H:=λ_ _ h _=>h
def zD.fr(s:zD H H'):Fr M H H':=λa o h _=>s a o h
def Rep.same(h:Rep W M H x v)(s:zD H H'):Rep W M H' x v:=Rep.gen s.fr (λ_ m _=>m) h
def yx.same(h:yx W M H x v)(s:zD H H'):yx W M H' x v:=yx.gen s.fr (λ_ m _=>m) h
def jY.same(h:jY W M H x v)(s:zD H H'):jY W M H' x v:=jY.gen s.fr (λ_ m _=>m) h
def Rep.sub(h:Rep W M H x v)(s:∀a,M a->H a≠none->M' a):Rep W M' H x v:=Rep.gen Fr.refl s h
def yx.sub(h:yx W M H x v)(s:∀a,M a->H a≠none->M' a):yx W M' H x v:=yx.gen Fr.refl s h
def jY.sub(h:jY W M H x v)(s:∀a,M a->H a≠none->M' a):jY W M' H x v:=jY.gen Fr.refl s h
def vp.sub(h:vp W M H x v)(s:∀a,M a->H a≠none->M' a):vp W M' H x v:=vp.gen Fr.refl s h
def qb(W:RC)(N M:RY)(H:Hp):PV->V->Prop
 |.l g,v=>∃p d,v=.ref p/\N p/\H p=some (.lst d)/\yx W M H g d
 |.d a,v=>∃p b,v=.ref p/\N p/\Rd H p (.dK b)/\jY W M H a b
 |.sc f,v=>∃p,v=.ref p/\i5 W.K N H p (f.map V.int)
 |.dt a,v=>∃p,v=.ref p/\N p/\Rd H p (.dT (dtV a))
 |.o c fs,v=>∃p e b,v=.ref p/\N p/\H p=some (.ins (W.cls c) e b)/\vp W M H fs b
 |x,v=>Rep W M H x v
def qb.iff:qb W M M H x v↔Rep W M H x v:=by cases x<;>simp only[qb,Rep]
def qb.gen{W:RC}{N M y M':RY}{H H':Hp}{x:PV}{v:V}(j:Fr N H H')(f:Fr M H H')(g:∀a,N a->H a≠none->y a)(s:∀a,M a->H a≠none->M' a)(h:qb W N M H x v):qb W y M' H' x v:=by
 cases x with
 |l D=>obtain⟨p,B,e,m,r,q⟩:=h;exact⟨p,B,e,g p m `c,j _ _ r (.inl m),q.gen f s⟩
 |d w=>obtain⟨p,u,e,m,r,q⟩:=h;exact⟨p,u,e,g p m (jI r),j.rd r m,q.gen f s⟩
 |sc C=>obtain⟨p,e,r⟩:=h;exact⟨p,e,r.elim (λz=>.inl ⟨g p z.1 (jI z.2),j.rd z.2 z.1⟩) .inr⟩
 |dt w=>obtain⟨p,e,m,r⟩:=h;exact⟨p,e,g p m (jI r),j.rd r m⟩
 |o c fs=>obtain⟨p,A,u,e,m,r,q⟩:=h;exact⟨p,A,u,e,g p m `c,j _ _ r (.inl m),q.gen f s⟩
 |i n=>exact Rep.gen f s h
 |s n=>exact Rep.gen f s h
 |b n=>exact Rep.gen f s h
 |n=>exact Rep.gen f s h
 |t n=>exact Rep.gen f s h
 |x c n=>exact Rep.gen f s h
def qb.same(h:qb W N M H x v)(s:zD H H'):qb W N M H' x v:=qb.gen s.fr s.fr (λ_ m _=>m) (λ_ m _=>m) h
def qb.sub(h:qb W N M H x v)(b:∀a,N a->H a≠none->N' a)(s:∀a,M a->H a≠none->M' a):qb W N' M' H x v:=qb.gen Fr.refl Fr.refl b s h
def Rep.weak(h:Rep W M H x v):qb W (λ_=>True) M H x v:=qb.sub (qb.iff.mpr h) (λ_ _ _=>trivial) (λ_ m _=>m)
def cP(W:RC)(M:RY)(H:Hp)(p:Addr):PV->Prop
 |.l f=>∃d,H p=some (.lst d)/\yx W M H f d
 |.d a=>∃b,H p=some (.dK b)/\jY W M H a b
 |.dt a=>H p=some (.dT (dtV a))
 |.o c fs=>∃e b,H p=some (.ins (W.cls c) e b)/\vp W M H fs b
 |_=>False
def cP.Ow(h:cP W M H p x)(n:N p):qb W N M H x (.ref p):=by
 cases x with
 |l m=>obtain⟨j,e,q⟩:=h;exact⟨p,j,rfl,n,e,q⟩
 |d f=>obtain⟨a,e,q⟩:=h;exact⟨p,a,rfl,n,.inl e,q⟩
 |dt f=>exact⟨p,rfl,n,.inl h⟩
 |o c fs=>obtain⟨g,a,e,q⟩:=h;exact⟨p,g,a,rfl,n,e,q⟩
 |i n=>exact h.elim
 |s n=>exact h.elim
 |b n=>exact h.elim
 |n=>exact h.elim
 |t n=>exact h.elim
 |x c n=>exact h.elim
 |sc n=>exact h.elim
def cP.gen(h:cP W M H p x)(hp:H' p=H p)(f:Fr M H H')(s:∀a,M a->H a≠none->M' a):cP W M' H' p x:=by
 cases x with
 |l u=>obtain⟨r,e,q⟩:=h;exact⟨r,hp.trans e,q.gen f s⟩
 |d j=>obtain⟨g,e,q⟩:=h;exact⟨g,hp.trans e,q.gen f s⟩
 |dt j=>exact hp.trans h
 |o c fs=>obtain⟨m,g,e,q⟩:=h;exact⟨m,g,hp.trans e,q.gen f s⟩
 |i n=>exact h.elim
 |s n=>exact h.elim
 |b n=>exact h.elim
 |n=>exact h.elim
 |t n=>exact h.elim
 |x c n=>exact h.elim
 |sc n=>exact h.elim
theorem cP.some{W:RC}{M:RY}{H:Hp}{p:Addr}{x:PV}(h:cP W M H p x):∃o,H p=some o/\¬Imm o:=by
 cases x with
 |l m=>obtain⟨j,e,q⟩:=h;exact⟨_,e,id⟩
 |d a=>obtain⟨f,e,q⟩:=h;exact⟨_,e,id⟩
 |dt a=>exact⟨_,h,id⟩
 |o c fs=>obtain⟨g,f,e,q⟩:=h;exact⟨_,e,id⟩
 |i n=>exact h.elim
 |s n=>exact h.elim
 |b n=>exact h.elim
 |n=>exact h.elim
 |t n=>exact h.elim
 |x c n=>exact h.elim
 |sc n=>exact h.elim
def cP.same(h:cP W M H p x)(s:zD H H'):cP W M H' p x:=by obtain⟨o,e,_⟩:=h.some;exact h.gen ((s _ _ e).trans e.symm) s.fr λ_ m _=>m
structure Bs where
 H0:Hp
 M0:Addr->Prop
 N0:Addr->Prop
 nz:∀a,N0 a->H0 a≠none
 pin:Option Addr
 xc:Addr->Prop
structure LC where
 W:RC
 E:XK
 fr:Bool
abbrev Sto:=List (Option PV)
def Bs.Mt(B:Bs):Addr->Prop:=λa=>B.M0 a\/B.H0 a=none
def Mof(B:Bs)(S:RW)(P:Se):Addr->Prop:=λa=>(B.Mt a/\¬B.xc a)/\∀i,S[i]?=some 2->P i≠a
structure Rel(W:RC)(B:Bs)(S:RW)(P:Se)(H:Hp)(σ:St)(ρ:Sto):Prop where
 same:zD B.H0 H
 len:σ.length=ρ.length
 var:∀(i:Nat) x,ρ[i]?=some (some x)->∃v,σ[i]?=some (some v)/\(S[i]?=some 2->v=.ref (P i)/\cP W (Mof B S P) H (P i) x)/\(S[i]?=some 1->qb W B.N0 (Mof B S P) H x v)/\(S[i]?≠some 2->S[i]?≠some 1->Rep W (Mof B S P) H x v)
 act:∀i,S[i]?=some 2->B.H0 (P i)=none/\∃o,H (P i)=some o/\¬Imm o
 inj:∀i j,S[i]?=some 2->S[j]?=some 2->P i=P j->i=j
 pin:S[0]?=some 2->∀p,B.pin=some p->P 0=p
 exc:∀a,B.xc a->∃o,H a=some o/\¬Imm o/\B.H0 a=none
 axc:∀i,S[i]?=some 2->¬B.xc (P i)
def Rel.keep{W:RC}{B:Bs}{S:RW}{P:Se}{H H':Hp}{σ:St}{ρ:Sto}(R:Rel W B S P H σ ρ)(s:zD H H'):Rel W B S P H' σ ρ where
 same:=R.same.trans s
 len:=R.len
 var:=λi x e=>by obtain⟨v,f,b,c,d⟩:=R.var i x e;exact⟨v,f,λz=>⟨(b z).1,(b z).2.same s⟩,λz=>(c z).same s,λz g=>(d z g).same s⟩
 act:=λi h=>⟨(R.act i h).1,let⟨o,e,n⟩:=(R.act i h).2;⟨o,s _ _ e,n⟩⟩
 inj:=R.inj
 pin:=R.pin
 exc:=λa h=>let⟨o,e,n⟩:=R.exc a h;⟨o,s _ _ e,n⟩
 axc:=R.axc
def Rel.wr(R:Rel W B S P H σ ρ)(c:S[i]?=some 2)(D:i<ρ.length)(n:σ[i]?=some (some (.ref (P i))))(r:¬Imm o)(A:cP W (Mof B S P) (upd H (P i) o) (P i) x'):Rel W B S P (upd H (P i) o) σ (ρ.set i (some x')):=by
 obtain⟨p,K,w,y⟩:=R.act i c;have f:Fr (Mof B S P) H (upd H (P i) o):=λa q e m=>by
  have:a≠P i:=λz=>by
   rcases m with m|m
   .exact m.2 i c z.symm
   .rw[z,w]at e;cases e;exact y m
  rw[zm this];exact e
 have G:Fr B.N0 H (upd H (P i) o):=λa q e m=>by
  have:a≠P i:=λz=>by
   rcases m with m|m
   .exact B.nz a m (z▸p)
   .rw[z,w]at e;cases e;exact y m
  rw[zm this];exact e
 refine⟨λa q e=>?_,by rw[a0s];exact R.len,λj x e=>?_,λj u=>?_,R.inj,R.pin,λa h=>?_,R.axc⟩
 .have:a≠P i:=λz=>by rw[z,p]at e;cases e
  rw[zm this];exact R.same a q e
 .by_cases b:i=j
  .subst b;rw[a0j D]at e;cases e;exact⟨_,n,λ_=>⟨rfl,A⟩,(λz=>by rw[c]at z;cases z),λz=>absurd c z⟩
  .rw[T8 b]at e;obtain⟨v,J,s,E,C⟩:=R.var j x e;refine⟨v,J,λz=>⟨(s z).1,?_⟩,λz=>qb.gen G f (λ_ m _=>m) (λ_ m _=>m) (E z),λz F=>Rep.gen f (λ_ m _=>m) (C z F)⟩;have:P j≠P i:=λq=>b (R.inj i j c z q.symm);exact(s z).2.gen (zm this) f λ_ m _=>m
 .by_cases b:j=i
  .subst b;exact⟨p,o,zj,r⟩
  .obtain⟨I,l,g,d⟩:=R.act j u;have:P j≠P i:=λq=>b (R.inj j i u c q);exact⟨I,l,by rw[zm this];exact g,d⟩
 .obtain⟨l,g,d⟩:=R.exc a h;by_cases e:a=P i
  .subst e;exact⟨o,zj,r,d.2⟩
  .exact⟨l,by rw[zm e];exact g,d⟩
def wz{S:RW}{i j c:Nat}(h:(S.set i 0)[j]?=some 2):S[j]?=some 2/\j≠i:=by grind
def Rel.set(R:Rel W B S P H σ ρ)(h:Rep W (Mof B S P) H x v):Rel W B (S.set i 0) P H (σ.set i (some v)) (ρ.set i (some x)):=by
 have sM:∀a,Mof B S P a->H a≠none->Mof B (S.set i 0) P a:=λa m _=>⟨m.1,λj d=>m.2 j (wz (c:=0) d).1⟩;refine⟨R.same,by rw[a0s,a0s];exact R.len,λj y e=>?_,λj d=>R.act j (wz (c:=0) d).1,λj k d r=>R.inj j k (wz (c:=0) d).1 (wz (c:=0) r).1,λl=>R.pin (wz (c:=0) l).1,R.exc,λj d=>R.axc j (wz (c:=0) d).1⟩;by_cases b:i=j
 .subst b;have f:=by
   have:=(R8.mp e).1
   rwa [a0s]at this
  rw[a0j f]at e;cases e;refine⟨v,by rw[a0j (by rw[R.len];exact f)],λz=>absurd rfl (wz (c:=0) z).2,λz=>?_,λ_ _=>h.sub sM⟩;rw[List.getElem?_set,if_pos rfl]at z;split at z<;>cases z
 .rw[T8 b]at e;obtain⟨w,p,g,n,o⟩:=R.var j y e;rw[T8 b,T8 b];exact⟨w,p,λz=>⟨(g z).1,(g z).2.gen rfl Fr.refl sM⟩,λz=>(n z).sub (λ_ m _=>m) sM,λz q=>(o z q).sub sM⟩
def Rel.Rz(R:Rel W B S P H σ ρ)(s:zD H H')(hp:H p=none)(K:i<S.length)(r:i≠0)(A:cP W (λa=>Mof B S P a/\a≠p) H' p x):Rel W B (S.set i 2) (λj=>if j=i then p else P j) H' (σ.set i (some (.ref p))) (ρ.set i (some x)):=by
 have N:=zD.none R.same hp;have g:∀{j},(S.set i 2)[j]?=some 2->j≠i->S[j]?=some 2:=λ{j} h n=>by rwa [T8 (λz=>n z.symm)]at h
 have sM:∀a,Mof B S P a->a≠p->Mof B (S.set i 2) (λj=>if j=i then p else P j) a:=λa m u=>⟨m.1,λj d=>by
  by_cases e:j=i
  .simp only[e];exact λz=>u z.symm
  .simp only[e];exact m.2 j (g d e)⟩
 have l:∀a,Mof B S P a->H a≠none->Mof B (S.set i 2) (λj=>if j=i then p else P j) a:=λa m u=>sM a m λz=>u (z▸hp);have E:∀{j},S[j]?=some 2->P j≠p:=λ{j} d z=>by obtain⟨_,o,e,_⟩:=R.act j d;rw[z,hp]at e;cases e
 refine⟨R.same.trans s,by rw[a0s,a0s];exact R.len,λj y e=>?_,λj d=>?_,λj k d C e=>?_,λF q I=>?_,λa h=>let⟨o,e,n⟩:=R.exc a h;⟨o,s _ _ e,n⟩,λj d=>?_⟩
 .by_cases b:i=j
  .subst b;have D:=by
    have:=(R8.mp e).1
    rwa [a0s]at this
   rw[a0j D]at e;cases e;rw[a0j (by rw[R.len];exact D),a0j K];refine⟨.ref p,rfl,λ_=>⟨by simp,?_⟩,(λz=>by cases z),λz=>absurd rfl z⟩;simp only[if_true];exact A.gen rfl Fr.refl λa m _=>sM a m.1 m.2
  .rw[T8 b]at e;obtain⟨w,f,c,J,G⟩:=R.var j y e;rw[T8 b,T8 b];have v:¬j=i:=λz=>b z.symm;simp only[v];exact⟨w,f,λz=>⟨(c z).1,((c z).2.gen rfl Fr.refl l).same s⟩,λz=>((J z).sub (λ_ m _=>m) l).same s,λz L=>((G z L).sub l).same s⟩
 .by_cases b:j=i
  .subst b;simp only[if_true];exact⟨N,A.some⟩
  .simp only[b];obtain⟨M,o,e,n⟩:=R.act j (g d b);exact⟨M,o,s _ _ e,n⟩
 .by_cases f:j=i
  .by_cases c:k=i
   .rw[f,c]
   .simp only[f,c,if_true]at e;exact absurd e.symm (E (g C c))
  .by_cases c:k=i
   .simp only[f,c,if_true]at e;exact absurd e (E (g d f))
   .simp only[f,c]at e;exact R.inj j k (g d f) (g C c) e
 .rw[T8 r]at F;rw[if_neg (λz=>r z.symm)];exact R.pin F q I
 .by_cases e:j=i
  .rw[if_pos e];exact λz=>by obtain⟨o,q,_⟩:=R.exc p z;rw[hp]at q;cases q
  .rw[if_neg e];exact R.axc j (g d e)
def Rel.wrx(R:Rel W B S P H σ ρ)(d:B.xc a)(A:¬Imm o):Rel W B S P (upd H a o) σ ρ:=by
 obtain⟨J,u,w,n⟩:=R.exc a d;have b:Fr (Mof B S P) H (upd H a o):=λc q e m=>by
  have:c≠a:=λz=>by
   rcases m with m|m
   .exact m.1.2 (z▸d)
   .rw[z,u]at e;cases e;exact w m
  rw[zm this];exact e
 have F:Fr B.N0 H (upd H a o):=λc q e m=>by
  have:c≠a:=λz=>by
   rcases m with m|m
   .exact B.nz c m (z▸n)
   .rw[z,u]at e;cases e;exact w m
  rw[zm this];exact e
 have p:∀{i},S[i]?=some 2->P i≠a:=λ{i} D z=>R.axc i D (z▸d);refine⟨λc q e=>?_,R.len,λj x e=>?_,λj s=>?_,R.inj,R.pin,λc h=>?_,R.axc⟩
 .have:c≠a:=λz=>by rw[z,n]at e;cases e
  rw[zm this];exact R.same c q e
 .obtain⟨v,I,r,C,y⟩:=R.var j x e;exact⟨v,I,λz=>⟨(r z).1,(r z).2.gen (zm (p z)) b λ_ m _=>m⟩,λz=>qb.gen F b (λ_ m _=>m) (λ_ m _=>m) (C z),λz E=>Rep.gen b (λ_ m _=>m) (y z E)⟩
 .obtain⟨G,l,f,g⟩:=R.act j s;exact⟨G,l,by rw[zm (p s)];exact f,g⟩
 .by_cases e:c=a
  .subst e;exact⟨o,zj,A,n⟩
  .obtain⟨l,f,g⟩:=R.exc c h;exact⟨l,by rw[zm e];exact f,g⟩
abbrev ME:=Sto->Out PV
abbrev MT:=Sto->Out Bool
abbrev MA:=Sto->Out (List PV)
inductive Fw where
 |nx (ρ:Sto)|rt (x:PV)|bk (ρ:Sto)|ct (ρ:Sto)
abbrev MS:=Sto->Out Fw
def XPo(C:LC)(B:Bs)(c:Nat)(fs:Ss):Prop:=∀e b d a,zD B.H0 a->a e=some (XC e (C.W.cls c) b)->a b=some (XD b d)->vp C.W B.Mt a fs d->C.E (.ref e) (some b) a
def ya(C:LC)(B:Bs)(H:Hp)(R:Hp->PV->V->Prop)(Q:VK):Out PV->Prop
 |.ok r=>∀v a,zD H a->R a r v->Q v a
 |.exc c fs=>XPo C B c fs
 |.wall=>False
def fO(C:LC)(B:Bs)(H:Hp)(Q:Bool->Hp->Prop):Out Bool->Prop
 |.ok r=>∀a,zD H a->Q r a
 |.exc c fs=>XPo C B c fs
 |.wall=>False
def RV(C:LC)(B:Bs)(S:RW)(P:Se)(w:Bool)(H:Hp)(x:PV)(v:V):Prop:=qb C.W (if w=true then λ_=>True else Mof B S P) (Mof B S P) H x v
def RV.rep(h:RV C B S P false H x v):Rep C.W (Mof B S P) H x v:=qb.iff.mp h
def RV.of(h:Rep C.W (Mof B S P) H x v):RV C B S P false H x v:=qb.iff.mpr h
def RV.weak(h:RV C B S P w H x v):qb C.W (λ_=>True) (Mof B S P) H x v:=qb.sub h (λ_ _ _=>trivial) λ_ m _=>m
def RV.same(h:RV C B S P w H x v)(s:zD H H'):RV C B S P w H' x v:=qb.same h s
def LE(C:LC)(S:RW)(w:Bool)(c:TE)(m:ME):Prop:=∀B P H b a,Rel C.W B S P H b a->∀Q,ya C B H (RV C B S P w) Q (m a)->c b H Q
def LT(C:LC)(S:RW)(c:TT)(m:MT):Prop:=∀B P H b a,Rel C.W B S P H b a->∀Q,fO C B H Q (m a)->c b H Q
def EM(X:Cx)(C:LC)(S:RW)(w:Bool)(e:Sf)(m:ME):Prop:=X.K=C.W.K->∃a,PE X e a/\LE C S w a m
def TM(X:Cx)(C:LC)(S:RW)(e:Sf)(m:MT):Prop:=X.K=C.W.K->∃a,PT X e a/\LT C S a m
def TWM(X:Cx)(C:LC)(S:RW)(e:Sf)(m:MT):Prop:=X.K=C.W.K->∃a,PW X e a/\LT C S a m
def ya.bind(h:ya C B H R Q (o.bind f))(k:∀r,o=.ok r->∀v a,zD H a->R0 a r v->ya C B a R Q (f r)->Q' v a)(i:∀a,zD H a->∀x v,R a x v->R a x v):ya C B H R0 Q' o:=by
 cases o with
 |ok r=>exact λv a s g=>k r rfl v a s g (by
   have h:ya C B H R Q (f r):=h;revert h;cases f r with
   |ok x=>exact λh v d e b=>h v d (s.trans e) b
   |exc c fs=>exact id
   |wall=>exact id)
 |exc c fs=>exact h
 |wall=>exact h
def yM(h:ya C B H R Q (o.bind f))(k:∀r v a,zD H a->R0 a r v->ya C B a R Q (f r)->Q' v a):ya C B H R0 Q' o:=
 ya.bind h (λr _ v a s b hp=>k r v a s b hp) λ_ _ _ _ h=>h
def Q_(h:ya C B H R Q o)(s:zD H H2):ya C B H2 R Q o:=by
 cases o with
 |ok x=>exact λv b d a=>h v b (s.trans d) a
 |exc c fs=>exact h
 |wall=>exact h
def Ui(h:fO C B H Q o)(s:zD H H2):fO C B H2 Q o:=by
 cases o with
 |ok x=>exact λb a=>h b (s.trans a)
 |exc c fs=>exact h
 |wall=>exact h
def p7(h:fO C B H Q (o.bind f))(k:∀r v a,zD H a->R0 a r v->fO C B a Q (f r)->Q' v a):ya C B H R0 Q' o:=by
 cases o with
 |ok r=>exact λv a s b=>k r v a s b (Ui h s)
 |exc c fs=>exact h
 |wall=>exact h
def Ki(h:fO C B H Q (o.bind f))(k:∀r a,zD H a->fO C B a Q (f r)->Q' r a):fO C B H Q' o:=by
 cases o with
 |ok r=>exact λa s=>k r a s (Ui h s)
 |exc c fs=>exact h
 |wall=>exact h
def zc(i:Nat):ME:=λa=>match a[i]? with|some (some x)=>.ok x|_=>.wall
def mC(x:PV):ME:=λ_=>.ok x
section
variable {X:Cx}{C:LC}{S:RW}{e a b:Sf}{w w1 w2:Bool}{m m1 m2:ME}
def EM.weak(h:EM X C S w e m):EM X C S true e m:=λl=>by
 obtain⟨o,j,g⟩:=h l;refine⟨o,j,λB P H n d R Q q=>g B P H n d R Q ?_⟩;revert q;cases m d with
 |ok r=>exact λq v f s i=>q v f s (by unfold RV;exact i.weak)
 |exc c fs=>exact id
 |wall=>exact id
def lv(R:Rel C.W B S P H σ ρ)(q:ya C B H R' Q (zc i ρ))(k:∀x v,σ[i]?=some (some v)->ρ[i]?=some (some x)->R' H x v):pH i σ H Q:=by
 unfold zc at q;cases e:ρ[i]? with
 |none=>rw[e]at q;exact q.elim
 |some o=>
  cases o with
  |none=>rw[e]at q;exact q.elim
  |some x=>rw[e]at q;obtain⟨v,c,_⟩:=R.var i x e;exact⟨v,c,q v H (zD.refl _) (k x v c e)⟩
def zi(h:PE X e (pH i))(d:S[i]?≠some 2/\S[i]?≠some 1:=by decide):EM X C S false e (zc i):=λ_=>⟨_,h,λB P H n l R Q q=>lv R q λx v g e=>by
 obtain⟨j,c,_,_,f⟩:=R.var i x e;rw[g]at c;cases c;exact RV.of (f d.1 d.2)⟩
def II(h:PE X e (pH i)):EM X C S true e (zc i):=λ_=>⟨_,h,λB P H o r R Q q=>lv R q λx v n e=>by
 obtain⟨p,c,j,l,g⟩:=R.var i x e;rw[n]at c;cases c;show qb C.W (if true=true then _ else _) _ _ _ _;by_cases d:S[i]?=some 2
 .obtain⟨rfl,z⟩:=j d;exact z.Ow trivial
 .by_cases f:S[i]?=some 1
  .exact(l f).sub (λ_ _ _=>trivial) λ_ m _=>m
  .exact(g d f).weak⟩
def NF(h:PE X e (tC v))(c:∀M H,Rep C.W M H x v):EM X C S false e (mC x):=λ_=>⟨_,h,λB P H f d R Q q=>q v H (zD.refl _) (RV.of (c _ _))⟩
def yr(h:PE X e (tC (.int i))):EM X C S false e (mC (.i i)):=NF h λ_ _=>rfl
def Jn(h:PE X e (tC (.str i))):EM X C S false e (mC (.s i)):=NF h λ_ _=>rfl
def Y2(h:PE X e (tC (.bl i))):EM X C S false e (mC (.b i)):=NF h λ_ _=>rfl
def fP(h:PE X e (tC .non)):EM X C S false e (mC .n):=NF h λ_ _=>rfl
def mOp(p:Tc)(m1 m2:ME):ME:=λc=>(m1 c).bind λx=>(m2 c).bind λy=>p x y
def mUn(p:PV->Out PV)(m1:ME):ME:=λc=>(m1 c).bind p
def New(M:RY)(H:Hp):Prop:=∀p,H p=none->M p
def Rel.new(R:Rel W B S P H σ ρ):New (Mof B S P) H:=λp h=>⟨⟨.inr (zD.none R.same h),λz=>by obtain⟨o,q,_⟩:=R.exc p z;rw[h]at q;cases q⟩,λi c e=>by obtain⟨_,o,q,_⟩:=R.act i c;rw[e,h]at q;cases q⟩
def RV.eq:RV C B S P false=Rep C.W (Mof B S P):=by
 funext H x v;exact propext qb.iff
def Lf2(W:RC)(r:R2)(p:Tc):Prop:=∀(M:RY)(C:LC)(B:Bs) H x y v u Q,New M H->qb W (λ_=>True) M H x v->qb W (λ_=>True) M H y u->ya C B H (Rep W M) Q (p x y)->r v u H Q
def Lf1(W:RC)(r:V->Hp->VK->Prop)(p:PV->Out PV):Prop:=∀(M:RY)(C:LC)(B:Bs) H x v Q,New M H->qb W (λ_=>True) M H x v->ya C B H (Rep W M) Q (p x)->r v H Q
def Bx(L:Lf2 C.W r p)(s:LE C S w1 ta m1)(o:LE C S w2 tb m2):LE C S false (tOp r ta tb) (mOp p m1 m2):=λB P H c f R Q q=>
 s B P H c f R _ (yM q λx v n d l j=>o B P n c f (R.keep d) _ (yM j λy u g s2 h i=>L _ C B g x y v u Q ((R.keep d).keep s2).new (l.same s2).weak h.weak (RV.eq▸i)))
def zE(o:OpR X (binaryOp op) r)(L:Lf2 C.W r p)(j:EM X C S w1 a m1)(g:EM X C S w2 b m2):EM X C S false (.BinOp a op b pos) (mOp p m1 m2):=λc=>by obtain⟨l,d,f⟩:=j c;obtain⟨tb,i,h⟩:=g c;exact⟨_,HU o d i,Bx L f h⟩
def p8(o:UnR X (unaryOp op) r)(L:Lf1 C.W r p)(s:EM X C S w1 a m1):EM X C S false (.UnaryOp op a pos) (mUn p m1):=λn=>by obtain⟨u,h,f⟩:=s n;exact⟨_,N6 o h,λB P H c l R Q q=>f B P H c l R _ (yM q λx v j d i g=>L _ C B j x v Q (R.keep d).new i.weak (RV.eq▸g))⟩
def bI(o:OpR X (compareOp op) r)(L:Lf2 C.W r p)(l:EM X C S w1 a m1)(g:EM X C S w2 b m2)(j:behindInMarks op b=false):EM X C S false (.Compare a [op] [b] pos) (mOp p m1 m2):=λc=>by obtain⟨n,d,f⟩:=l c;obtain⟨tb,i,h⟩:=g c;exact⟨_,tE o d i j,Bx L f h⟩
def asB:PV->Out Bool
 |.b c=>.ok c
 |_=>.wall
def zU(m:ME):MT:=λc=>(m c).bind asB
def Uj(h:LE C S w te m):LT C S (Ib te) (zU m):=λB P H j i R Q q=>
 h B P H j i R _ (p7 q λx v g l f d=>by
  cases x with
  |b c=>exact⟨c,f,d g (zD.refl _)⟩
  |_=>exact d.elim)
def yI(o:OpR X (compareOp op) r)(L:Lf2 C.W r p)(l:EM X C S w1 a m1)(g:EM X C S w2 b m2)(j:behindInMarks op b=false):TM X C S (.Compare a [op] [b] pos) (zU (mOp p m1 m2)):=λc=>by obtain⟨n,d,f⟩:=l c;obtain⟨tb,i,h⟩:=g c;exact⟨_,cH o d i j,Uj (Bx L f h)⟩
end
def pI(g:Int->Int->PV):PV->PV->Out PV
 |.i a,.i b=>.ok (g a b)
 |_,_=>.wall
def pU(g:Int->PV):PV->Out PV
 |.i a=>.ok (g a)
 |_=>.wall
def IJ(d:∀a b M H,Rep W M H (g a b) (gv a b)):Lf2 W (rI0 gv) (pI g):=λM C B H x y v u Q f c e q=>by
 cases x with
 |i a=>
  cases y with
  |i b=>exact⟨a,b,c,e,q _ H (zD.refl _) (d a b _ _)⟩
  |_=>exact q.elim
 |_=>exact q.elim
def RA(c:∀a M H,Rep W M H (g a) (gv a)):Lf1 W (rU gv) (pU g):=λM C B H x v Q d b q=>by
 cases x with
 |i a=>exact⟨a,b,q _ H (zD.refl _) (c a _ _)⟩
 |_=>exact q.elim
abbrev Wv:=pI λa b=>.i (a-b)
abbrev pLt:=pI λa b=>.b (decide (a<b))
abbrev pLe:=pI λa b=>.b (decide (a<=b))
abbrev pGt:=pI λa b=>.b (decide (b<a))
abbrev pGe:=pI λa b=>.b (decide (b<=a))
abbrev iI:=pU λa=>.i (-a)
def ZL:Lf2 W (rI0 λi j=>.int (i-j)) Wv:=IJ λ_ _ _ _=>rfl
def bJ:Lf1 W (rU λi=>.int (-i)) iI:=RA λ_ _ _=>rfl
section
variable {W:RC}{M:RY}{H:Hp}
def yx.nil:yx W M H [] []:=rfl
def yx.cons(h:Rep W M H x v)(t:yx W M H xs vs):yx W M H (x::xs) (v::vs):=⟨v,vs,rfl,h,t⟩
theorem yx.len:∀{a:Sn}{b:Sh},yx W M H a b->b.length=a.length
 |[],_,h=>by cases h;rfl
 |x::a,_,h=>by obtain⟨v,r,rfl,_,c⟩:=h;rw[R4,R4,yx.len c]
theorem yx.get:∀{a:Sn}{b:Sh}{i:Nat}{x:PV},yx W M H a b->a[i]?=some x->∃v,b[i]?=some v/\Rep W M H x v
 |[],_,_,_,_,e=>by simp at e
 |x::a,_,0,y,h,e=>by obtain⟨v,r,rfl,d,c⟩:=h;simp at e;subst e;exact⟨v,rfl,d⟩
 |x::a,_,i+1,y,h,e=>by obtain⟨v,r,rfl,d,c⟩:=h;simp only[List.getElem?_cons_succ]at e ⊢;exact yx.get c e
theorem yx.Hl:∀{a:Sn}{b:Sh}{i:Nat}{v:V},yx W M H a b->b[i]?=some v->∃x,a[i]?=some x/\Rep W M H x v
 |[],_,_,_,h,e=>by cases h;simp at e
 |x::a,_,0,y,h,e=>by obtain⟨v,r,rfl,d,c⟩:=h;simp at e;subst e;exact⟨x,rfl,d⟩
 |x::a,_,i+1,y,h,e=>by obtain⟨v,r,rfl,d,c⟩:=h;simp only[List.getElem?_cons_succ]at e ⊢;exact yx.Hl c e
theorem yx.append:∀{a c:Sn}{b d:Sh},yx W M H a b->yx W M H c d->yx W M H (a++c) (b++d)
 |[],_,_,_,h,k=>by cases h;exact k
 |x::a,_,_,_,h,k=>by obtain⟨v,r,rfl,f,e⟩:=h;exact⟨v,_,rfl,f,yx.append e k⟩
theorem yx.take:∀{a:Sn}{b:Sh}(n:Nat),yx W M H a b->yx W M H (a.take n) (b.take n)
 |[],_,_,h=>by cases h;simp;exact yx.nil
 |x::a,_,0,h=>yx.nil
 |x::a,_,n+1,h=>by obtain⟨v,r,rfl,d,c⟩:=h;exact⟨v,_,rfl,d,yx.take n c⟩
theorem yx.drop:∀{a:Sn}{b:Sh}(n:Nat),yx W M H a b->yx W M H (a.drop n) (b.drop n)
 |[],_,_,h=>by cases h;simp;exact yx.nil
 |x::a,_,0,h=>h
 |x::a,_,n+1,h=>by obtain⟨v,r,rfl,d,c⟩:=h;exact yx.drop n c
theorem yx.ints:∀{a:Sw},yx W M H (a.map PV.i) (a.map V.int)
 |[]=>rfl
 |n::a=>⟨_,_,rfl,rfl,yx.ints⟩
theorem yx.at(h:yx W M H xs vs)(e:atI xs i=some x):∃v,atI vs i=some v/\Rep W M H x v:=by
 unfold atI at e ⊢;rw[h.len];cases q:ixN xs.length i with
 |none=>rw[q]at e;cases e
 |some j=>rw[q]at e;exact h.get e
def yx.cut{xs:Sn}{vs:Sh}{a b:SQ}(h:yx W M H xs vs):yx W M H ((xs.drop (HT.sIx xs.length 0 a)).take (HT.sIx xs.length xs.length b-HT.sIx xs.length 0 a)) (C8 vs a b):=by unfold C8;rw[h.len];exact(h.drop _).take _
theorem jY.iff:∀{c:Sr}{b:Sk},jY W M H c b↔b.map (·.1)=c.map (·.1)/\yx W M H (c.map (·.2)) (b.map (·.2))
 |[],b=>⟨λh=>by cases h;exact⟨rfl,rfl⟩,λh=>by cases b with|nil=>rfl|cons a r=>cases h.1⟩
 |i::r,b=>by
  constructor
  .rintro ⟨v,q,rfl,g,f⟩
   obtain⟨e,t⟩:=jY.iff.mp f;exact⟨by simp only[List.map_cons,e],v,_,rfl,g,t⟩
  .rintro ⟨e,v,q,d,g,f⟩
   cases b with
   |nil=>cases d
   |cons a b=>simp only[List.map_cons,List.cons.injEq]at e d;refine⟨a.2,b,by rw[<- e.1],by rw[d.1];exact g,jY.iff.mpr ⟨e.2,by rw[d.2];exact f⟩⟩
theorem vp.iff:∀{c:Ss}{b:Sy},vp W M H c b↔b.map (·.1)=c.map (·.1)/\yx W M H (c.map (·.2)) (b.map (·.2))
 |[],b=>⟨λh=>by cases h;exact⟨rfl,rfl⟩,λh=>by cases b with|nil=>rfl|cons a r=>cases h.1⟩
 |i::r,b=>by
  constructor
  .rintro ⟨v,q,rfl,g,f⟩
   obtain⟨e,t⟩:=vp.iff.mp f;exact⟨by simp only[List.map_cons,e],v,_,rfl,g,t⟩
  .rintro ⟨e,v,q,d,g,f⟩
   cases b with
   |nil=>cases d
   |cons a b=>simp only[List.map_cons,List.cons.injEq]at e d;refine⟨a.2,b,by rw[<- e.1],by rw[d.1];exact g,vp.iff.mpr ⟨e.2,by rw[d.2];exact f⟩⟩
theorem vp.lookup:∀{a:Ss}{b:Sy}{f:Str}{x:PV},vp W M H a b->a.lookup f=some x->∃v,b.lookup f=some v/\Rep W M H x v
 |[],_,_,_,_,e=>by cases e
 |g::r,_,f,x,h,e=>by
  obtain⟨v,q,rfl,i,d⟩:=h;rw[a0w]at e ⊢;by_cases c:(f==g.1)=true
  .simp only[c]at e ⊢;cases e;exact⟨v,rfl,i⟩
  .simp only[c]at e ⊢;exact vp.lookup d e
theorem vp.ud:∀{a:Ss}{b:Sy}{f:Str},vp W M H a b->a.lookup f=none->b.lookup f=none
 |[],_,_,h,_=>by cases h;rfl
 |g::r,_,f,h,e=>by
  obtain⟨v,q,rfl,i,d⟩:=h;rw[a0w]at e ⊢;by_cases c:(f==g.1)=true
  .simp only[c]at e;cases e
  .simp only[c]at e ⊢;exact vp.ud d e
def ue(n:New M H)(hp:H p=none)(h:yx W M H xs vs):Rep W M (upd H p (.lst vs)) (.l xs) (.ref p):=⟨p,vs,rfl,n p hp,zj,h.same (zD.upd hp)⟩
def Fj(hp:H p=none)(h:yx W M H xs vs):Rep W M (upd H p (.tup vs)) (.t xs) (.ref p):=⟨p,vs,rfl,SqT.of zj,h.same (zD.upd hp)⟩
end
def IK:R2:=λx y H Q=>(rI0 (λi j=>.int (i+j)) x y H Q\/∃i j,x=.str i/\y=.str j/\i.length+j.length<=sizeLine/\Q (.str (i++j)) H)\/Pt x y H Q
def zF:OpR X (binaryOp .Add) IK:=(HY.or pN).or De
def zP:PV->PV->Out PV
 |.i a,.i b=>.ok (.i (a+b))
 |.s a,.s b=>if a.length+b.length<=sizeLine then .ok (.s (a++b))else .wall
 |.l a,.l b=>if a.length+b.length<=sizeLine then .ok (.l (a++b))else .wall
 |_,_=>.wall
def zG:Lf2 W IK zP:=λM C B H x y v u Q n a c q=>by
 unfold zP at q;split at q
 .exact .inl (.inl ⟨_,_,a,c,q _ H (zD.refl _) rfl⟩)
 .split at q
  .rename_i h;exact .inl (.inr ⟨_,_,a,c,h,q _ H (zD.refl _) rfl⟩)
  .exact q.elim
 .split at q
  .rename_i h;obtain⟨p,f,rfl,_,e,r⟩:=a;obtain⟨i,b,rfl,_,g,d⟩:=c;exact .inr ⟨p,i,f,b,rfl,rfl,e,g,by rw[r.len,d.len];exact h,λz hz=>q _ _ (zD.upd hz) (ue n hz (r.append d))⟩
  .exact q.elim
 .exact q.elim
def IL:R2:=λx y H Q=>(rI C4 (λi j=>.int (i*j)) x y H Q\/rI Bq (λi j=>.int (i*j)) x y H Q)\/(IF x y H Q\/Pu x y H Q)
def yS:OpR X (binaryOp .Mult) IL:=(HZ.or Ff).or (p6.or Il)
instance{i j:Int}:Decidable (C4 i j):=by unfold C4;infer_instance
instance{i j:Int}:Decidable (Hj i j):=by unfold Hj;infer_instance
instance{i j:Int}:Decidable (HW i j):=by unfold HW;infer_instance
def jZ:PV->PV->Out PV
 |.i a,.i b=>if C4 a b\/(a.natAbs<2 ^ 8192/\b.natAbs<2 ^ 8192)then .ok (.i (a*b))else .wall
 |.s a,.i b=>if a.length<=16/\-2 ^ 63<=b/\b<=1048576 then .ok (.s (Txt.mul a b))else .wall
 |.l a,.i b=>if -(2 ^ 63)<=b/\b<2 ^ 63/\a.length*b.toNat<=sizeLine then .ok (.l (List.replicate b.toNat a).flatten)else .wall
 |_,_=>.wall
theorem yx.rep{W:RC}{M:RY}{H:Hp}{xs:Sn}{vs:Sh}(h:yx W M H xs vs):∀n,yx W M H (List.replicate n xs).flatten (List.replicate n vs).flatten
 |0=>rfl
 |n+1=>by exact h.append (h.rep n)
def yT:Lf2 W IL jZ:=λM C B H x y v u Q n a b q=>by
 unfold jZ at q;split at q
 .split at q
  .rename_i h;rcases h with h|h
   .exact .inl (.inl ⟨_,_,a,b,h,q _ H (zD.refl _) rfl⟩)
   .exact .inl (.inr ⟨_,_,a,b,h,q _ H (zD.refl _) rfl⟩)
  .exact q.elim
 .split at q
  .rename_i h;exact .inr (.inl ⟨_,_,a,b,h.1,h.2.1,h.2.2,q _ H (zD.refl _) rfl⟩)
  .exact q.elim
 .split at q
  .rename_i h;obtain⟨p,c,rfl,_,e,r⟩:=a;exact .inr (.inr ⟨p,_,c,rfl,b,e,h.1,h.2.1,by rw[r.len];exact h.2.2,λz hz=>q _ _ (zD.upd hz) (ue n hz (r.rep _))⟩)
  .exact q.elim
 .exact q.elim
def IP:R2:=λx y H Q=>rI Hj (λi j=>.int (i / j)) x y H Q\/rI IG (λi j=>.int (i.fdiv j)) x y H Q
def uf:OpR X (binaryOp .FloorDiv) IP:=EJ.or Bv
def p9:PV->PV->Out PV
 |.i a,.i b=>if Hj a b then .ok (.i (a / b))else if b≠0/\b.natAbs<2 ^ 8192 then .ok (.i (a.fdiv b))else .wall
 |_,_=>.wall
def ug:Lf2 W IP p9:=λM C B H x y v u Q n a b q=>by
 unfold p9 at q;split at q
 .split at q
  .rename_i h;exact .inl ⟨_,_,a,b,h,q _ H (zD.refl _) rfl⟩
  .split at q
   .rename_i h;exact .inr ⟨_,_,a,b,h,q _ H (zD.refl _) rfl⟩
   .exact q.elim
 .exact q.elim
def IQ:R2:=λx y H Q=>rI (λ_ j=>0<j) (λi j=>.int (i % j)) x y H Q\/rI (λ_ j=>j≠0) (λi j=>.int (i.fmod j)) x y H Q
def Z1:OpR X (binaryOp .Mod) IQ:=H_.or EK
def Jj:PV->PV->Out PV
 |.i a,.i b=>if 0<b then .ok (.i (a % b))else if b≠0 then .ok (.i (a.fmod b))else .wall
 |_,_=>.wall
def Z2:Lf2 W IQ Jj:=λM C B H x y v u Q n a b q=>by
 unfold Jj at q;split at q
 .split at q
  .rename_i h;exact .inl ⟨_,_,a,b,h,q _ H (zD.refl _) rfl⟩
  .split at q
   .rename_i h;exact .inr ⟨_,_,a,b,h,q _ H (zD.refl _) rfl⟩
   .exact q.elim
 .exact q.elim
def p_:PV->PV->Out PV
 |.i a,.i b=>if HW a b then .ok (.i (a ^ b.toNat))else .wall
 |_,_=>.wall
def i6:Lf2 W (rI HW λi j=>.int (i ^ j.toNat)) p_:=λM C B H x y v u Q n a b q=>by
 unfold p_ at q;split at q
 .split at q
  .rename_i h;exact⟨_,_,a,b,h,q _ H (zD.refl _) rfl⟩
  .exact q.elim
 .exact q.elim
def rg:Lf2 W (rI0 λi j=>.bl (decide (i<j))) pLt:=IJ λ_ _ _ _=>rfl
def Fm:Lf2 W (rI0 λi j=>.bl (decide (i<=j))) pLe:=IJ λ_ _ _ _=>rfl
def Jk:Lf2 W (rI0 λi j=>.bl (decide (j<i))) pGt:=IJ λ_ _ _ _=>rfl
def IS:Lf2 W (rI0 λi j=>.bl (decide (j<=i))) pGe:=IJ λ_ _ _ _=>rfl
def isN:PV->Bool
 |.n=>true
 |_=>false
def By(a:Bool):PV->PV->Out PV
 |x,.n=>.ok (.b (xor a (isN x)))
 |_,_=>.wall
def IT(h:qb W N M H x v):decide (v=.non)=isN x:=by
 cases x with
 |n=>cases h;rfl
 |i a=>cases h;rfl
 |s a=>cases h;rfl
 |b a=>cases h;rfl
 |l a=>obtain⟨p,_,rfl,_⟩:=h;rfl
 |t a=>obtain⟨p,_,rfl,_⟩:=h;rfl
 |d a=>obtain⟨p,_,rfl,_⟩:=h;rfl
 |o c a=>obtain⟨p,_,_,rfl,_⟩:=h;rfl
 |x c a=>obtain⟨p,_,_,rfl,_⟩:=h;rfl
 |sc a=>obtain⟨p,rfl,_⟩:=h;rfl
 |dt a=>obtain⟨p,rfl,_⟩:=h;rfl
def uh:Lf2 W (λx y H Q=>y=.non/\Q (.bl (decide (x=.non))) H) (By false):=λM C B H x y v u Q n a b q=>by
 unfold By at q;split at q
 .refine⟨b,?_⟩;rw[IT a];exact q _ H (zD.refl _) (by rw[a1F];rfl)
 .exact q.elim
def Fn:Lf2 W (λx y H Q=>y=.non/\Q (.bl (!decide (x=.non))) H) (By true):=λM C B H x y v u Q n a b q=>by
 unfold By at q;split at q
 .refine⟨b,?_⟩;rw[IT a];exact q _ H (zD.refl _) (by rw[a2v];rfl)
 .exact q.elim
def nh.rk(e:Rd H a (.dK kvs)):nh H a (kV k) (XH kvs k):=.inl ⟨kvs,k,e,rfl,rfl⟩
def RFr(W:RC)(M:RY)(H:Hp)(b:Hp)(x:PV)(v:V):Prop:=∃p,v=.ref p/\H p=none/\cP W (λa=>M a/\a≠p) b p x
def RFr.rep(n:New M H)(h:RFr W M H H2 x v):Rep W M H2 x v:=by obtain⟨p,rfl,hp,h⟩:=h;exact qb.iff.mp ((h.Ow (n p hp)).sub (λ_ m _=>m) λ_ m _=>m.1)
def LFr(C:LC)(S:RW)(c:TE)(m:ME):Prop:=∀B P H b a,Rel C.W B S P H b a->∀Q,ya C B H (RFr C.W (Mof B S P) H) Q (m a)->c b H Q
def FM(X:Cx)(C:LC)(S:RW)(e:Sf)(m:ME):Prop:=X.K=C.W.K->∃a,PE X e a/\LFr C S a m
def Y9(h:ya C B H R Q o)(k:∀x v a,zD H a->R' a x v->R a x v):ya C B H R' Q o:=by
 cases o with
 |ok r=>exact λv a s b=>h v a s (k _ _ _ s b)
 |exc c fs=>exact h
 |wall=>exact h
def FM.em(h:FM X C S e m):EM X C S false e m:=λg=>by obtain⟨i,f,b⟩:=h g;exact⟨i,f,λB P H a d R Q q=>b B P H a d R Q (Y9 q λx v j s c=>RV.of (c.rep R.new))⟩
def RVs(C:LC)(B:Bs)(S:RW)(P:Se)(H:Hp):List Bool->List PV->List V->Prop
 |[],b,a=>b=[]/\a=[]
 |w::e,b,a=>∃x v c d,b=x::c/\a=v::d/\RV C B S P w H x v/\RVs C B S P H e c d
def rh(C:LC)(B:Bs)(H:Hp)(R:Hp->List PV->List V->Prop)(Q:List V->Hp->Prop):Out (List PV)->Prop
 |.ok r=>∀v a,zD H a->R a r v->Q v a
 |.exc c fs=>XPo C B c fs
 |.wall=>False
def LA(C:LC)(S:RW)(ws:R_)(d:TA)(m:MA):Prop:=∀B P H b a,Rel C.W B S P H b a->∀Q,rh C B H (λc=>RVs C B S P c ws) Q (m a)->d b H Q
def AM(X:Cx)(C:LC)(S:RW)(ws:R_)(es:Sd)(m:MA):Prop:=X.K=C.W.K->∃a,PA X es a/\LA C S ws a m
def zk:MA:=λ_=>.ok []
def zb(m:ME)(ms:MA):MA:=λa=>(m a).bind λx=>(ms a).bind λb=>.ok (x::b)
def rj{b:Type}{f:PV->Out b}{T:Hp->Out b->Prop}(i:∀H a o,zD H a->T H o->T a o)(d:∀c fs,T H (.exc c fs)->XPo C B c fs)(g:T H .wall->False)
  (h:T H (o.bind f)) (k:∀r v a,zD H a->R a r v->T a (f r)->Q' v a):ya C B H R Q' o:=by
 cases o with
 |ok r=>exact λv a s e=>k r v a s e (i _ _ _ s h)
 |exc c fs=>exact d _ _ h
 |wall=>exact g h
def i8(s:zD H H2)(h:rh C B H R Q o):rh C B H2 R Q o:=by
 cases o with
 |ok x=>exact λv b d a=>h v b (s.trans d) a
 |exc c fs=>exact h
 |wall=>exact h
def jn(h:ya C B H R Q (o.bind f))(k:∀r v a,zD H a->R' a r v->ya C B a R Q (f r)->Q' v a):rh C B H R' Q' o:=by
 cases o with
 |ok r=>exact λv a s b=>k r v a s b (Q_ h s)
 |exc c fs=>exact h
 |wall=>exact h
section
variable {X:Cx}{C:LC}{S:RW}{e a b:Sf}{es:Sd}{w w1:Bool}{ws:R_}{m m1 m2:ME}{ms:MA}{t1 t2:MT}{pos:Pos}
def zd:AM X C S [] [] zk:=λ_=>⟨_,Ws,λB P H d c R Q q=>q [] H (zD.refl _) ⟨rfl,rfl⟩⟩
def za(h:EM X C S w e m)(p:AM X C S ws es ms)(D:starEach (e::es) X.env=(false,eval e X.env)::starEach es X.env:=by rfl):AM X C S (w::ws) (e::es) (zb m ms):=λl=>by
 obtain⟨J,z,y⟩:=h l;obtain⟨I,G,n⟩:=p l;refine⟨_,wY z G D,λB P H i g R Q q=>y B P H i g R _ (rj (T:=λH o=>rh C B H (λd=>RVs C B S P d (w::ws)) Q o) (λ_ _ _ s h=>i8 s h) (λ_ _ h=>h) (λh=>h) q λx v E u A f=>?_)⟩;refine n B P E i g (R.keep u) _ ?_;revert f;cases ms g with
 |ok F=>exact λf j d s2 r=>f (v::j) d s2 ⟨x,v,F,j,rfl,rfl,A.same s2,r⟩
 |exc c fs=>exact id
 |wall=>exact id
theorem RVs.IU{B:Bs}{P:Se}{H:Hp}:∀{ws:R_}{i:Sn}{g:Sh},RVs C B S P H ws i g->ws.all (!·)=true->yx C.W (Mof B S P) H i g
 |[],_,_,⟨c,d⟩,_=>by subst c;subst d;rfl
 |w::ws,_,_,⟨x,v,n,l,c,d,h,j⟩,f=>by subst c;subst d;simp only[List.all_cons,Bool.and_eq_true,Bool.not_eq_true']at f;rw[f.1]at h;exact⟨v,l,rfl,h.rep,RVs.IU j f.2⟩
def vC(ms:MA):ME:=λd=>(ms d).bind λc=>if c.length<=sizeLine then .ok (.l c)else .wall
def i9(ms:MA):ME:=λd=>(ms d).bind λc=>if c.length<=sizeLine then .ok (.t c)else .wall
def qc(h:AM X C S ws es ms)(s:ws.all (!·)=true:=by rfl):FM X C S (.List es pos) (vC ms):=λu=>by
 obtain⟨v,l,i⟩:=h u;refine⟨_,C7 l,λB P H d r R Q q=>i B P H d r R _ (jn q λy j x f o c=>?_)⟩;have rs:=o.IU s;split at c
 .rename_i g;exact⟨by rw[rs.len];exact g,λp hp=>c _ _ (zD.upd hp) ⟨p,rfl,zD.none f hp,j,zj,(rs.sub λa m n=>⟨m,λz=>n (z▸hp)⟩).same (zD.upd hp)⟩⟩
 .exact c.elim
def Ww{x1}(h:AM X C S ws es ms)(n:ws.all (!·)=true:=by rfl):EM X C S false (.Tuple es x1 pos) (i9 ms):=λo=>by
 obtain⟨u,i,g⟩:=h o;refine⟨_,fj i,λB P H d l R Q q=>g B P H d l R _ (jn q λx s v r j c=>?_)⟩;have rs:=j.IU n;split at c
 .rename_i f;exact⟨by rw[rs.len];exact f,λp hp=>c _ _ (zD.upd hp) (RV.of (Fj hp rs))⟩
 .exact c.elim
def cQ(t u:MT):MT:=λd=>(t d).bind λc=>if c=true then u d else .ok false
def mOr(t u:MT):MT:=λd=>(t d).bind λc=>if c=true then .ok true else u d
def sF(t:MT):MT:=λd=>(t d).bind λc=>.ok (!c)
def rl(m1 m2:ME):ME:=λd=>(m1 d).bind λx=>(asB x).bind λc=>if c=true then m2 d else .ok (.b false)
def TWM.tm(h:TWM X C S e t1):TM X C S e t1:=λc=>let⟨tt,a1,a2⟩:=h c;⟨tt,a1.pt,a2⟩
def Uk(h:TM X C S a t1):TWM X C S (.BoolOp .And [a] pos) t1:=λc=>let⟨tt,a1,a2⟩:=h c;⟨tt,pw_and1 a1,a2⟩
def Jo(h:TM X C S a t1):TWM X C S (.BoolOp .Or [a] pos) t1:=λc=>let⟨tt,a1,a2⟩:=h c;⟨tt,pw_or1 a1,a2⟩
variable {rest:Sd}
def fQ(h:TM X C S a t1)(r:TWM X C S (.BoolOp .And (b::rest) pos) t2):TWM X C S (.BoolOp .And (a::b::rest) pos) (cQ t1 t2):=λj=>by
 obtain⟨u,p,o⟩:=h j;obtain⟨v,s,l⟩:=r j;refine⟨_,pw_and p s,λB P H d i R Q q=>o B P H d i R _ (Ki q λc g n f=>?_)⟩;cases c with
 |true=>exact Dh (l B P g d i (R.keep n) _ f)
 |false=>exact Dg (f g (zD.refl _))
def aI(h:TM X C S a t1)(r:TWM X C S (.BoolOp .Or (b::rest) pos) t2):TWM X C S (.BoolOp .Or (a::b::rest) pos) (mOr t1 t2):=λj=>by
 obtain⟨u,p,o⟩:=h j;obtain⟨v,s,l⟩:=r j;refine⟨_,pw_or p s,λB P H d i R Q q=>o B P H d i R _ (Ki q λc g n f=>?_)⟩;cases c with
 |true=>exact Dh (f g (zD.refl _))
 |false=>exact Dg (l B P g d i (R.keep n) _ f)
def nC(h:TM X C S a t1):TM X C S (.UnaryOp .Not a pos) (sF t1):=λn=>by obtain⟨p,d,f⟩:=h n;exact⟨_,HI d,λB P H g l R Q q=>f B P H g l R _ (Ki q λc i o j=>j i (zD.refl _))⟩
def KQ(h:EM X C S w e m)(he:∀c,isTrue e X.env c=(do let v<-c;standAt e.pos;holding [v] (truthy v)):=by intro _;rfl):TM X C S e (zU m):=λg=>by obtain⟨i,d,f⟩:=h g;exact⟨_,HF d he,Uj f⟩
def Dk{op}(h:EM X C S w a m):EM X C S w (.BoolOp op [a] pos) m:=λc=>let⟨tt,a1,a2⟩:=h c;⟨tt,C1 a1,a2⟩
def ui(h:EM X C S w1 a m1)(s:EM X C S false (.BoolOp .And (b::rest) pos) m2):EM X C S false (.BoolOp .And (a::b::rest) pos) (rl m1 m2):=λj=>by
 obtain⟨y,p,o⟩:=h j;obtain⟨z,u,l⟩:=s j;refine⟨_,C2 p u,λB P H f i R Q q=>o B P H f i R _ (yM q λx v g n r d=>?_)⟩;cases x with
 |b c=>
  refine⟨c,r,?_⟩;cases c with
  |true=>exact Dh (l B P g f i (R.keep n) _ d)
  |false=>exact Dg (d _ g (zD.refl _) (RV.of rfl))
 |_=>exact d.elim
end
def zM{a b:Type}[DecidableEq a](kvs:List (a×b))(k:a):Option b:=(kvs.find? λc=>decide (c.1=k)).map (·.2)
theorem jY.get{W:RC}{M:RY}{H:Hp}:∀{a:Sr}{b:Sk}{k:Key}{x:PV},jY W M H a b->zM a k=some x->∃v,XH b k=some v/\Rep W M H x v
 |[],_,_,_,_,e=>by cases e
 |f::r,_,k,x,h,e=>by
  obtain⟨v,q,rfl,g,d⟩:=h;unfold zM at e;unfold XH;rw[a1x]at e ⊢;by_cases c:f.1=k
  .simp only[c]at e ⊢;cases e;exact⟨v,rfl,g⟩
  .simp only[c]at e ⊢;exact jY.get d e
theorem jY.NG{W:RC}{M:RY}{H:Hp}:∀{a:Sr}{b:Sk}{k:Key},jY W M H a b->zM a k=none->XH b k=none
 |[],_,_,h,_=>by cases h;rfl
 |f::r,_,k,h,e=>by
  obtain⟨v,q,rfl,g,d⟩:=h;unfold zM at e;unfold XH;rw[a1x]at e ⊢;by_cases c:f.1=k
  .simp only[c]at e;cases e
  .simp only[c]at e ⊢;exact jY.NG d e
def jY.RB(h:jY W M H kvs es):(XH es k).isSome=(zM kvs k).isSome:=by
 cases e:zM kvs k with
 |none=>rw[h.NG e];rfl
 |some x=>obtain⟨v,q,_⟩:=h.get e;rw[q];rfl
def pk:PV->Option Key
 |.i n=>some (.inl n)
 |.s x=>some (.inr x)
 |_=>none
def V4(h:qb W N M H x v)(e:pk x=some k):v=kV k:=by
 cases x with
 |i n=>cases e;exact h
 |s n=>cases e;exact h
 |_=>cases e
def Px:R2:=λx y H Q=>∃a v,x=.ref a/\nh H a y (some v)/\Q v H
def i_(m:X.A.units+1<cLine):IxR X Px:=by
 intro c e f s o H x y v u Q I A z h w;obtain⟨a,p,rfl,g,q⟩:=h;cases A;have l:=iU I g;refine u8 ?_;refine u8 (wpAny_specialOf l PySem.F.slot_dict_getitem.lookup ?_);have d:wpAny (Ts X) X.A (subscripted e false (.ref a) u) (λr b=>wpAny (Ts X) X.A (letTemporaryGo c (.ref a) r >>= λ_=>pure r) (EP X f o Q) X.xe b) X.xe s:=by rw[w];exact wpAny_operating (a0G (tU m I g z λp B n j=>⟨_,H,n,j,q⟩) (λr b i=>u8 (wpAny_letTemporaryGo (T1 i))) λ_ _ x=>x)
 first
  |exact T1 (u8 d)
  |exact u8 (T1 (u8 d))
  |exact u8 d
def Py(K:Sx):R2:=λx y H Q=>rIx K x y H Q\/Px x y H Q
def ZH{b:Type}:Option b->Out b
 |some a=>.ok a
 |none=>.wall
def pIx:PV->PV->Out PV
 |.l b,.i k=>ZH (atI b k)
 |.t b,.i k=>ZH (atI b k)
 |.sc d,.i k=>ZH ((atI d k).map PV.i)
 |.s z,.i k=>if z.length<=sizeLine then ZH ((atI z.cps.toList k).map λc=>.s ⟨#[c]⟩)else .wall
 |.d a,y=>ZH ((pk y).bind λk=>zM a k)
 |_,_=>.wall
def yZ(h:ya C B H R Q (ZH o)):∃x,o=some x/\∀v a,zD H a->R a x v->Q v a:=by
 cases o with
 |none=>exact h.elim
 |some x=>exact⟨x,rfl,h⟩
def IV:Lf2 W (Py W.K) pIx:=λM C B H x y v u Q n b d q=>by
 unfold pIx at q;split at q
 .obtain⟨x,e,q⟩:=yZ q;obtain⟨p,h,rfl,_,a,r⟩:=b;obtain⟨v,g,f⟩:=r.at e;exact .inl (.inl ⟨p,h,_,v,rfl,d,SqL.of a,g,q v H (zD.refl _) f⟩)
 .obtain⟨x,e,q⟩:=yZ q;obtain⟨p,h,rfl,a,r⟩:=b;obtain⟨v,g,f⟩:=r.at e;exact .inl (.inr (.inl ⟨p,h,_,v,rfl,d,a,g,q v H (zD.refl _) f⟩))
 .obtain⟨x,e,q⟩:=yZ q;obtain⟨p,rfl,a⟩:=b;obtain⟨z,hz,rfl⟩:=v0.mp e;refine .inl (.inl ⟨p,_,_,.int z,rfl,d,a.sq,?_,q _ H (zD.refl _) rfl⟩);unfold atI at hz ⊢;rw[f8];cases c:ixN _ _ with
  |none=>rw[c]at hz;cases hz
  |some j=>rw[c,Option.bind_some]at hz;show(List.map V.int _)[j]?=_;rw[a0d,hz];rfl
 .split at q
  .rename_i a;obtain⟨x,e,q⟩:=yZ q;obtain⟨z,hz,rfl⟩:=v0.mp e;exact .inl (.inr (.inr ⟨_,_,z,b,d,a,hz,q _ H (zD.refl _) rfl⟩))
  .exact q.elim
 .obtain⟨x,e,q⟩:=yZ q;obtain⟨p,l,rfl,_,a,r⟩:=b;obtain⟨k,i,e⟩:=a0f.mp e;obtain⟨v,g,f⟩:=r.get e;exact .inr ⟨p,v,rfl,by rw[V4 d i,<- g];exact nh.rk a,q v H (zD.refl _) f⟩
 .exact q.elim
def Ox(g:X.A.units+1<cLine)(l:EM X C S w1 a m1)(h:EM X C S w2 b m2)(f:Ua b:=by intro _ _;rfl):EM X C S false (.Subscript a b pos) (mOp pIx m1 m2):=λc=>by obtain⟨m,d,e⟩:=l c;obtain⟨tb,j,i⟩:=h c;exact⟨_,EY (C9.or (i_ g)) d j f,Bx (by rw[c];exact IV) e i⟩
def toV:PV->Option V
 |.i a=>some (.int a)
 |.s a=>some (.str a)
 |.b a=>some (.bl a)
 |.n=>some .non
 |_=>none
def Ul(h:qb W N M H x v)(e:toV x=some u):v=u/\Xd u=true:=by cases x<;>first|(cases e;exact⟨h,rfl⟩)|cases e
def Hm:Option Bool->Option Bool->Option Bool
 |some a,some b=>some (a&&b)
 |_,_=>none
def Dl(f:SV):List PV->List PV->Option Bool
 |[],[]=>some true
 |x::b,y::a=>Hm (f x y) (Dl f b a)
 |_,_=>some false
def Hn(f:SV)(b:Sr):List (Key×PV)->Option Bool
 |[]=>some true
 |a::r=>match zM b a.1 with
  |none=>some false
  |some y=>Hm (f a.2 y) (Hn f b r)
def IW(x y:PV):Option Bool:=match toV x,toV y with|some a,some b=>some (eqV a b)|_,_=>none
def eZ:Nat->PV->PV->Option Bool
 |n+1,.l b,.l a=>Dl (eZ n) b a
 |n+1,.t b,.t a=>Dl (eZ n) b a
 |_,x,y=>IW x y
def Fo(n:Nat):PV->PV->Option Bool
 |.d a,.d b=>if a.length=b.length then Hn (eZ n) b a else some false
 |x,y=>eZ n x y
def KR(h:Hm a b=some c):∃p q,a=some p/\b=some q/\c=(p&&q):=by cases a<;>cases b<;>first|(cases h;done)|(cases h;exact⟨_,_,rfl,rfl,rfl⟩)
theorem nD{f:SV}:∀{c a:Sn}{b:Bool},Dl f c a=some b->c.length≠a.length->b=false
 |[],[],_,_,h=>absurd rfl h
 |[],_::_,_,h,_=>by cases h;rfl
 |_::_,[],_,h,_=>by cases h;rfl
 |x::c,y::a,b,h,n=>by obtain⟨p,q,_,d,rfl⟩:=KR h;rw[nD d (λz=>n (by rw[R4,R4,z])),a2s]
theorem lh{f:SV}:∀{g d:Sn}{b:Bool},Dl f g d=some b->∃e:Nat->Bool,(∀j x y,g[j]?=some x->d[j]?=some y->f x y=some (e j))/\b=((List.range (min g.length d.length)).all e&&g.length==d.length)
 |[],[],b,h=>⟨λ_=>true,(λj x y h=>by simp at h),by cases h;rfl⟩
 |[],_::_,b,h=>⟨λ_=>true,(λj x y h=>by simp at h),by cases h;simp⟩
 |_::_,[],b,h=>⟨λ_=>true,(λj x y _ h=>by simp at h),by cases h;simp⟩
 |x::g,y::d,b,h=>by
  obtain⟨p,q,o,m,rfl⟩:=KR h;obtain⟨e,n,rfl⟩:=lh m;refine⟨λj=>match j with|0=>p|j+1=>e j,λj a c l i=>?_,?_⟩
  .cases j with
   |zero=>simp only[List.getElem?_cons_zero,Option.some.injEq]at l i;subst l;subst i;exact o
   |succ j=>simp only[List.getElem?_cons_succ]at l i;exact n j a c l i
  .simp only[List.length_cons,Nat.add_min_add_right,List.range_succ_eq_map,List.all_cons,Bool.and_assoc];simp[Function.comp_def]
section
variable {X:Cx}{pins:RT}{σ:St}{H:Hp}{s:RZ}{W:RC}
def Fp(I:Inv X pins σ H s)(Q:W.K=X.K):∀{n:Nat}{x y:PV}{b:Bool}{v:V}{N M m g:RY},eZ n x y=some b->qb W N M H x v->qb W m g H y v->b=true:=by
 have fl:∀{x y:PV}{b:Bool}{v:V}{N M m g:RY},IW x y=some b->qb W N M H x v->qb W m g H y v->b=true:=by
  intro x y b v N M m g h f d;unfold IW at h;cases A:toV x with
  |none=>rw[A]at h;cases h
  |some a=>
   cases D:toV y with
   |none=>rw[A,D]at h;cases h
   |some c=>rw[A,D]at h;obtain⟨L,G⟩:=Ul f A;obtain⟨u,_⟩:=Ul d D;cases h;rw[<- L]at G ⊢;rw[<- u];cases v<;>first|rfl|(cases G;done)|(simp[eqV];done)
 intro n
 induction n with
 |zero=>intro x y b v N M m g h;exact fl (by cases x<;>cases y<;>exact h)
 |succ n S=>
  have z:∀{j i:Sn}{o:Sh}{b:Bool}{M g:RY},Dl (eZ n) j i=some b->yx W M H j o->yx W g H i o->b=true:=by
   intro j
   induction j with
   |nil=>intro i o b M g h f d;cases f;cases i with
    |nil=>cases h;rfl
    |cons y i=>obtain⟨_,_,e,_⟩:=d;cases e
   |cons x j C=>
    intro i o b M g h f d;obtain⟨v,r,rfl,J,K⟩:=f;cases i with
    |nil=>cases d
    |cons y i=>obtain⟨T,B,e,P,F⟩:=d;cases e;obtain⟨p,q,hp,O,rfl⟩:=KR h;rw[S hp (qb.iff.mpr J) (qb.iff.mpr P),C O K F];rfl
  intro x y b v N M m g h f d;cases x with
  |l j=>
   cases y with
   |l i=>obtain⟨p,o,rfl,_,e,r⟩:=f;obtain⟨R,E,u,_,w,B⟩:=d;cases u;rw[e]at w;cases w;exact z h r B
   |_=>exact fl h f d
  |t j=>
   cases y with
   |t i=>obtain⟨p,o,rfl,e,r⟩:=f;obtain⟨R,E,u,w,B⟩:=d;cases u;rw[Q]at e w;cases I.ff e w;exact z h r B
   |_=>exact fl h f d
  |_=>exact fl (by cases y<;>exact h) f d
def Dm(f:RelV y u)(d:RelV x v)(g:Xd y=true)(e:Xd x=true):SeqAt.RcAt A s u v (eqV y x)/\SeqAt.RcNeAt A s u v (!eqV y x):=by
 cases y with
 |non=>
  cases f;cases x with
  |non=>cases d;exact⟨SeqAt.RcAt.none_none,SeqAt.RcNeAt.none_none⟩
  |bl b=>cases d;exact⟨SeqAt.RcAt.none_bool b,SeqAt.RcNeAt.none_bool b⟩
  |int b=>obtain⟨t,rfl⟩:=d;exact⟨SeqAt.RcAt.none_int b t,SeqAt.RcNeAt.none_int b t⟩
  |str b=>obtain⟨t,rfl⟩:=d;exact⟨SeqAt.RcAt.none_str b t,SeqAt.RcNeAt.none_str b t⟩
  |_=>exact absurd e a0c
 |bl a=>
  cases f;cases x with
  |non=>cases d;exact⟨SeqAt.RcAt.bool_none a,SeqAt.RcNeAt.bool_none a⟩
  |bl b=>cases d;exact⟨SeqAt.RcAt.bool_bool a b,SeqAt.RcNeAt.bool_bool a b⟩
  |int b=>obtain⟨t,rfl⟩:=d;exact⟨SeqAt.RcAt.bool_int a b t,SeqAt.RcNeAt.bool_int a b t⟩
  |str b=>obtain⟨t,rfl⟩:=d;exact⟨SeqAt.RcAt.bool_str a b t,SeqAt.RcNeAt.bool_str a b t⟩
  |_=>exact absurd e a0c
 |int a=>
  obtain⟨c,rfl⟩:=f;cases x with
  |non=>cases d;exact⟨SeqAt.RcAt.int_none a c,SeqAt.RcNeAt.int_none a c⟩
  |bl b=>cases d;exact⟨SeqAt.RcAt.int_bool a c b,SeqAt.RcNeAt.int_bool a c b⟩
  |int b=>obtain⟨t,rfl⟩:=d;exact⟨SeqAt.RcAt.int_int a c b t,SeqAt.RcNeAt.int_int a c b t⟩
  |str b=>obtain⟨t,rfl⟩:=d;exact⟨SeqAt.RcAt.int_str a c b t,SeqAt.RcNeAt.int_str a c b t⟩
  |_=>exact absurd e a0c
 |str a=>
  obtain⟨c,rfl⟩:=f;cases x with
  |non=>cases d;exact⟨SeqAt.RcAt.str_none a c,SeqAt.RcNeAt.str_none a c⟩
  |bl b=>cases d;exact⟨SeqAt.RcAt.str_bool a c b,SeqAt.RcNeAt.str_bool a c b⟩
  |int b=>obtain⟨t,rfl⟩:=d;exact⟨SeqAt.RcAt.str_int a c b t,SeqAt.RcNeAt.str_int a c b t⟩
  |str b=>obtain⟨t,rfl⟩:=d;exact⟨SeqAt.RcAt.str_str a c b t,SeqAt.RcNeAt.str_str a c b t⟩
  |_=>exact absurd e a0c
 |_=>exact absurd g a0c
def cR(h:IW x y=some b)(m:qb W N M H x xv)(l:qb W N' M' H y yv)(e:RelV xv u)(i:RelV yv v):
  SeqAt.EqAt A s u v b/\SeqAt.RcAt A s u v b/\SeqAt.RcNeAt A s u v (!b):=by
 unfold IW at h;cases d:toV x with
 |none=>rw[d]at h;cases h
 |some a=>
  cases g:toV y with
  |none=>rw[d,g]at h;cases h
  |some c=>rw[d,g]at h;cases h;obtain⟨rfl,f⟩:=Ul m d;obtain⟨rfl,j⟩:=Ul l g;exact⟨C_ e i f j,(Dm e i f j).1,(Dm e i f j).2⟩
def Bz(I:Inv X pins σ H s)(hK:W.K=X.K):∀(n:Nat){A:Su}{x y:PV}{b:Bool}{J O:V}{u v:Value}{N M Z M':RY},eZ n x y=some b->qb W N M H x J->qb W Z M' H y O->RelV J u->RelV O v->A.units+n<cLine->
  SeqAt.EqAt A s u v b/\SeqAt.RcAt A s u v b/\SeqAt.RcNeAt A s u v (!b):=by
 intro n
 induction n with
 |zero=>intro A x y b J O u v N M Z M' h i g d a _;exact cR (by cases x<;>cases y<;>exact h) i g d a
 |succ n ih=>
  intro A x y b J O u v N M Z M' h i g d a hu;have top:∀{p q:Addr},u=.ref p->v=.ref q->J=.ref p->O=.ref q->SeqAt.RcAt A s u v b/\SeqAt.RcNeAt A s u v (!b)->SeqAt.EqAt A s u v b/\SeqAt.RcAt A s u v b/\SeqAt.RcNeAt A s u v (!b):=λ{p q} e1 e2 e3 e4 Y=>by
   refine⟨?_,Y⟩;by_cases c:p=q
   .subst c;rw[e1,e2];rw[Fp I hK h (e3▸i) (e4▸g)];exact SeqAt.EqAt.same _
   .rw[e1,e2]at Y ⊢;exact SeqAt.EqAt.of_refs c Y.1
  cases x with
  |l R=>
   cases y with
   |l Q=>
    obtain⟨p,vs,rfl,_,e,r⟩:=i;obtain⟨p',vs',rfl,_,S,P⟩:=g;cases d;cases a;refine top rfl rfl rfl rfl ?_;obtain⟨us,K,E,_⟩:=I.list (SqL.of e);obtain⟨ws,G,m,_⟩:=I.list (SqL.of S);have B:us.toArray.size=R.length:=by rw[T4,<- K.length,r.len]
    have F:ws.toArray.size=Q.length:=by rw[T4,<- `e,P.len]
    by_cases C:R.length=Q.length
    .obtain⟨f,hf,rfl⟩:=lh h;rw[C,a1I,Bool.and_true,Nat.min_self,<- C,<- B];have L:=nB (A:=A.in1) (e:=f) (s:=s) K G λj x y u v T hy d a=>by obtain⟨U,o,z⟩:=r.Hl T;obtain⟨y',w,D⟩:=P.Hl hy;exact(ih (A:=A.in1) (hf j U y' o w) (qb.iff.mpr z) (qb.iff.mpr D) d a `c).1
     exact⟨SeqAt.RcAt.lists E.isList m.isList (by rw[B,F,C]) `a L,SeqAt.RcNeAt.lists E.isList m.isList (by rw[B,F,C]) `a L⟩
    .rw[nD h C];exact⟨SeqAt.RcAt.lists_lengths E.isList m.isList (by rw[B,F];simpa using C) `a,SeqAt.RcNeAt.lists_lengths E.isList m.isList (by rw[B,F];simpa using C) `a⟩
   |_=>exact cR h i g d a
  |t R=>
   cases y with
   |t Q=>
    obtain⟨p,vs,rfl,e,r⟩:=i;obtain⟨p',vs',rfl,S,P⟩:=g;cases d;cases a;refine top rfl rfl rfl rfl ?_;rw[hK]at e S;obtain⟨us,K,E,_⟩:=I.tuple e;obtain⟨ws,G,m,_⟩:=I.tuple S;have B:us.toArray.size=R.length:=by rw[T4,<- K.length,r.len]
    have F:ws.toArray.size=Q.length:=by rw[T4,<- `e,P.len]
    obtain⟨f,hf,rfl⟩:=lh h;have L:=nB (A:=A.in1) (e:=f) (s:=s) K G λj x y u v T hy d a=>by obtain⟨U,o,z⟩:=r.Hl T;obtain⟨y',w,D⟩:=P.Hl hy;exact(ih (A:=A.in1) (hf j U y' o w) (qb.iff.mpr z) (qb.iff.mpr D) d a `c).1
    rw[<- B,<- F];exact⟨SeqAt.RcAt.tuples E m `a L,SeqAt.RcNeAt.tuples E m `a L⟩
   |_=>exact cR h i g d a
  |_=>exact cR (by cases y<;>exact h) i g d a
def IX{es:Sk}{vs:SS}(r:KV es vs){k:Key}{v:V}(h:XH es k=some v):∃u,valueAt vs k=some u/\RelV v u:=XE.some_of (by rw[<- h];exact KV.val r k)
def Fq{es:Sk}{vs:SS}(r:KV es vs){k:Key}(h:XH es k=none):valueAt vs k=none:=by
 have:=KV.val r k;rw[h]at this;cases e:valueAt vs k with
 |none=>rfl
 |some u=>rw[e]at this;exact this.elim
theorem lj(I:Inv X pins σ H s)(x:W.K=X.K){n:Nat}{A:Su}(l:A.units+n<cLine){b:Sr}{o:Sk}{m:SS}{M M':RY}(f:jY W M' H b o)(i:KV o m):
  ∀{a:Sr}{w:Sk}{z:SS}{r:Bool},jY W M H a w->KV w z->Hn (eZ n) b a=some r->KeqHits A s m z r
 |[],_,_,_,h,k,e=>by cases h;cases k;cases e;exact .nil
 |G::a,_,_,r,h,k,e=>by
  obtain⟨v,q,rfl,K,D⟩:=h;cases k with
  |@cons _ u _ P J kk=>
   obtain⟨N,u⟩:=u;obtain⟨B,F⟩:=J;cases B;unfold Hn at e;cases c:zM b G.1 with
   |none=>rw[c]at e;cases e;exact .miss (Fq i (f.NG c))
   |some y=>rw[c]at e;obtain⟨p,q,hp,C,rfl⟩:=KR e;obtain⟨O,d,E⟩:=f.get c;obtain⟨L,j,g⟩:=IX i d;exact .hit j (Bz I x n hp (qb.iff.mpr K) (qb.iff.mpr E) F g l).1 (lj I x l f i D kk C)
end
def Oy(W:RC)(a:Bool):R2:=λc d H Q=>∃M x y b,qb W (λ_=>True) M H x c/\qb W (λ_=>True) M H y d/\Fo 8 x y=some b/\Q (.bl (xor a b)) H
def uj:(∃a b,x=.d a/\y=.d b)\/Fo n x y=eZ n x y:=by
 cases x with
 |d a=>cases y with
  |d b=>exact .inl ⟨a,b,rfl,rfl⟩
  |_=>exact .inr rfl
 |_=>exact .inr rfl
def uk(D:W.K=X.K)(R:X.A.units+64<cLine):OpR X (compareOp .Eq) (Oy W false):=by
 intro g s S H T U u v Q I F E h;obtain⟨M,x,y,b,G,C,e,q⟩:=h;rw[a1F]at q;rcases uj (x:=x) (y:=y)with⟨a,c,rfl,rfl⟩|z
 .obtain⟨p,Y,rfl,_,L,B⟩:=G;obtain⟨Z,O,rfl,_,K,j⟩:=C;cases F;cases E;obtain⟨_,na,P,J,i⟩:=Kh I.hok L;obtain⟨_,l,N,w,f⟩:=Kh I.hok K;have m:P.length=a.length:=by rw[<- a1t J];have:=a0K List.length (jY.iff.mp B).1;simpa using this
  have o:N.length=c.length:=by rw[<- a1t w];have:=a0K List.length (jY.iff.mp j).1;simpa using this
  have e:(if a.length=c.length then Hn (eZ 8) c a else some false)=some b:=e;by_cases d:a.length=c.length
  .rw[if_pos d]at e;refine keq_eq na l i f `a (λ_=>lj I D `c j w B J e) ?_;rw[m,o,d,a1I];exact⟨.bl b,H,I,rfl,q⟩
  .rw[if_neg d]at e;cases e;refine keq_eq (r:=false) na l i f `a (λz=>absurd `a d) ?_;rw[a2s];exact⟨.bl false,H,I,rfl,q⟩
 .rw[z]at e;exact(Bz I D 8 e G C F E `a).2.1 _ _ _ _ ⟨.bl b,H,I,rfl,q⟩
def IY(D:W.K=X.K)(R:X.A.units+64<cLine):OpR X (compareOp .NotEq) (Oy W true):=by
 intro g s S H T U u v Q I F E h;obtain⟨M,x,y,b,G,C,e,q⟩:=h;rw[a2v]at q;rcases uj (x:=x) (y:=y)with⟨a,c,rfl,rfl⟩|z
 .obtain⟨p,Y,rfl,_,L,B⟩:=G;obtain⟨Z,O,rfl,_,K,j⟩:=C;cases F;cases E;obtain⟨_,na,P,J,i⟩:=Kh I.hok L;obtain⟨_,l,N,w,f⟩:=Kh I.hok K;have m:P.length=a.length:=by rw[<- a1t J];have:=a0K List.length (jY.iff.mp B).1;simpa using this
  have o:N.length=c.length:=by rw[<- a1t w];have:=a0K List.length (jY.iff.mp j).1;simpa using this
  have e:(if a.length=c.length then Hn (eZ 8) c a else some false)=some b:=e;by_cases d:a.length=c.length
  .rw[if_pos d]at e;refine keq_ne na l i f `a (λ_=>lj I D `c j w B J e) ?_;rw[m,o,d,a1I];exact⟨.bl (!b),H,I,rfl,q⟩
  .rw[if_neg d]at e;cases e;refine keq_ne (r:=false) na l i f `a (λz=>absurd `a d) ?_;rw[a2s];exact⟨.bl (!false),H,I,rfl,q⟩
 .rw[z]at e;exact(Bz I D 8 e G C F E `a).2.2 _ _ _ _ ⟨.bl (!b),H,I,rfl,q⟩
def jG(a:Bool)(x y:PV):Out PV:=match Fo 8 x y with|some b=>.ok (.b (xor a b))|none=>.wall
def nE:Lf2 W (Oy W neg) (jG neg):=λM C B H x y v u Q n a c q=>by
 unfold jG at q;cases e:Fo 8 x y with
 |none=>rw[e]at q;exact q.elim
 |some b=>rw[e]at q;exact⟨M,x,y,b,a,c,e,q _ H (zD.refl _) rfl⟩
def IZ(d:X.A.units+64<cLine)(e:EM X C S w1 a m1)(f:EM X C S w2 b m2):EM X C S false (.Compare a [.Eq] [b] pos) (mOp (jG false) m1 m2):=λc=>bI (uk c.symm d) nE e f (XF _ `b `b) c
def KS(d:X.A.units+64<cLine)(e:EM X C S w1 a m1)(f:EM X C S w2 b m2):TM X C S (.Compare a [.Eq] [b] pos) (zU (mOp (jG false) m1 m2)):=λc=>yI (uk c.symm d) nE e f (XF _ `b `b) c
def I0(d:X.A.units+64<cLine)(e:EM X C S w1 a m1)(f:EM X C S w2 b m2):TM X C S (.Compare a [.NotEq] [b] pos) (zU (mOp (jG true) m1 m2)):=λc=>yI (IY c.symm d) nE e f (XF _ `b `b) c
def inP(v:V):List PV->Option Bool
 |[]=>some false
 |y::r=>match toV y,inP v r with
  |some u,some b=>some (eqV u v||b)
  |_,_=>none
theorem um{W:RC}{M:RY}{H:Hp}{v:V}:∀{a:Sn}{d:Sh}{b:Bool},yx W M H a d->inP v a=some b->d.all Xd=true/\inV v d=b
 |[],_,_,h,e=>by cases h;cases e;exact⟨rfl,rfl⟩
 |y::a,_,b,h,e=>by
  obtain⟨u,r,rfl,l,j⟩:=h;unfold inP at e;cases c:toV y with
  |none=>rw[c]at e;cases e
  |some n=>
   cases g:inP v a with
   |none=>rw[c,g]at e;cases e
   |some o=>rw[c,g]at e;cases e;obtain⟨rfl,f⟩:=Ul (qb.iff.mpr l) c;obtain⟨m,i⟩:=um j g;exact⟨by rw[a16,f,m];rfl,by unfold inV at i ⊢;rw[a0E,i]⟩
def NH(K:Sx)(b:Bool):R2:=λx y H Q=>(rIn K b x y H Q\/∃i j,x=.str i/\y=.str j/\Q (.bl (xor b (!(Builtin.Str.occurrences j i 0 j.length 1).isEmpty))) H)\/∃a o,y=.ref a/\nh H a x o/\Q (.bl (xor b o.isSome)) H
def Dp(f:X.A.units+1<cLine):OpR X (compareOp .In) (NH X.K false):=by
 intro b s e H x y v u Q I c d h;rcases h with(h|⟨i,j,e1,e2,q⟩)|⟨a,o,rfl,g,q⟩
 .exact tQ b s e H x y v u Q I c d h
 .exact tx b s e H x y v u Q I c d ⟨i,j,e1,e2,by rw[a1F]at q;exact q⟩
 .obtain rfl:u=Value.ref a:=d;exact Rt f I g c λm l=>⟨.bl o.isSome,H,l,rfl,by rw[a1F]at q;exact q⟩
def fR(f:X.A.units+1<cLine):OpR X (compareOp .NotIn) (NH X.K true):=by
 intro b s e H x y v u Q I c d h;rcases h with(h|⟨i,j,e1,e2,q⟩)|⟨a,o,rfl,g,q⟩
 .exact fu b s e H x y v u Q I c d h
 .exact fv b s e H x y v u Q I c d ⟨i,j,e1,e2,by rw[a2v]at q;exact q⟩
 .obtain rfl:u=Value.ref a:=d;exact E_ f I g c λm l=>⟨.bl (!o.isSome),H,l,rfl,by rw[a2v]at q;exact q⟩
def pIn(a:Bool):PV->PV->Out PV
 |x,.l d=>ZH (((toV x).bind λv=>inP v d).map λb=>.b (xor a b))
 |x,.t d=>ZH (((toV x).bind λv=>inP v d).map λb=>.b (xor a b))
 |.s i,.s j=>.ok (.b (xor a (!(Builtin.Str.occurrences j i 0 j.length 1).isEmpty)))
 |x,.d c=>ZH ((pk x).map λk=>.b (xor a (zM c k).isSome))
 |_,_=>.wall
def uo:(if neg=true then !b else b)=xor neg b:=by cases neg<;>simp
def I_:Lf2 W (NH W.K neg) (pIn neg):=λM C B H x y v u Q n g h q=>by
 unfold pIn at q;split at q
 .obtain⟨z,e,q⟩:=yZ q;obtain⟨b,c,rfl⟩:=v0.mp e;obtain⟨o,a,c⟩:=a0f.mp c;obtain⟨p,i,rfl,_,d,r⟩:=h;obtain⟨rfl,f⟩:=Ul g a;obtain⟨l,j⟩:=um r c;exact .inl (.inl ⟨p,i,rfl,.inl (SqL.of d),f,l,by rw[j,uo];exact q _ H (zD.refl _) rfl⟩)
 .obtain⟨z,e,q⟩:=yZ q;obtain⟨b,c,rfl⟩:=v0.mp e;obtain⟨o,a,c⟩:=a0f.mp c;obtain⟨p,i,rfl,d,r⟩:=h;obtain⟨rfl,f⟩:=Ul g a;obtain⟨l,j⟩:=um r c;exact .inl (.inl ⟨p,i,rfl,.inr d,f,l,by rw[j,uo];exact q _ H (zD.refl _) rfl⟩)
 .exact .inl (.inr ⟨_,_,g,h,q _ H (zD.refl _) rfl⟩)
 .obtain⟨z,e,q⟩:=yZ q;obtain⟨k,m,rfl⟩:=v0.mp e;obtain⟨p,s,rfl,_,d,r⟩:=h;exact .inr ⟨p,_,rfl,by rw[V4 g m];exact nh.rk d,by rw[r.RB];exact q _ H (zD.refl _) rfl⟩
 .exact q.elim
section
variable {X:Cx}{C:LC}{S:RW}{e a b:Sf}{es:Sd}{w w1 w2:Bool}{ws:R_}{m1 m2:ME}{ms:MA}{pos p:Pos}{x:Str}
def Ld(d:X.A.units+1<cLine)(h:EM X C S w1 a m1)(f:EM X C S w2 b m2)(g:behindInMarks .In b=false:=by with_unfolding_all rfl):TM X C S (.Compare a [.In] [b] pos) (zU (mOp (pIn false) m1 m2)):=λc=>yI (Dp d) (by rw[c];exact I_) h f g c
def Ja(d:X.A.units+1<cLine)(h:EM X C S w1 a m1)(f:EM X C S w2 b m2)(g:behindInMarks .NotIn b=false:=by with_unfolding_all rfl):TM X C S (.Compare a [.NotIn] [b] pos) (zU (mOp (pIn true) m1 m2)):=λc=>yI (fR d) (by rw[c];exact I_) h f g c
def BA(W:RC)(M:RY)(H:Hp):List PV->List V->Prop
 |[],c=>c=[]
 |x::d,c=>∃v r,c=v::r/\qb W (λ_=>True) M H x v/\BA W M H d r
theorem RVs.weak{B:Bs}{P:Se}{H:Hp}:∀{ws:R_}{g:Sn}{f:Sh},RVs C B S P H ws g f->BA C.W (Mof B S P) H g f
 |[],_,_,⟨c,d⟩=>by subst c;subst d;rfl
 |w::ws,_,_,⟨x,v,l,j,c,d,i,h⟩=>by subst c;subst d;exact⟨v,j,rfl,i.weak,RVs.weak h⟩
def LfC(W:RC)(r:List V->Hp->VK->Prop)(p:Sj):Prop:=∀(M:RY)(C:LC)(B:Bs) H xs vs Q,New M H->BA W M H xs vs->ya C B H (Rep W M) Q (p xs)->r vs H Q
def LfF(W:RC)(r:List V->Hp->VK->Prop)(p:Sj):Prop:=∀(M:RY)(C:LC)(B:Bs) H xs vs Q,New M H->BA W M H xs vs->ya C B H (RFr W M H) Q (p xs)->r vs H Q
def zg(g:Sj)(ms:MA):ME:=λc=>(ms c).bind g
def Oz(L:LfC C.W r g)(h:LA C S ws ta ms):LE C S false (tCB r ta) (zg g ms):=λB P H n l R Q q=>
 h B P H n l R _ (jn q λo f i c d j=>L _ C B i o f Q (R.keep c).new d.weak (RV.eq▸j))
def vI(h:ya C B H (RFr W M H) Q o)(s:zD H H2):ya C B H2 (RFr W M H2) Q o:=by
 cases o with
 |ok x=>exact λv f g d=>h v f (s.trans g) (let⟨p,e,hp,hr⟩:=d;⟨p,e,zD.none s hp,hr⟩)
 |exc c fs=>exact h
 |wall=>exact h
def Z3(h:ya C B H (RFr W M H) Q (o.bind f))(k:∀r v d,zD H d->R' d r v->ya C B d (RFr W M d) Q (f r)->Q' v d):rh C B H R' Q' o:=by
 cases o with
 |ok r=>exact λv d s g=>k r v d s g (vI h s)
 |exc c fs=>exact h
 |wall=>exact h
def Z4(h:ya C B H (RFr W M H) Q (o.bind f))(k:∀r v d,zD H d->R' d r v->ya C B d (RFr W M d) Q (f r)->Q' v d):ya C B H R' Q' o:=by
 cases o with
 |ok r=>exact λv d s g=>k r v d s g (vI h s)
 |exc c fs=>exact h
 |wall=>exact h
def OA(L:LfF C.W r g)(h:LA C S ws ta ms):LFr C S (tCB r ta) (zg g ms):=λB P H n l R Q q=>
 h B P H n l R _ (Z3 q λo f i c d j=>L _ C B i o f Q (R.keep c).new d.weak j)
def XM{id:String}{r:List V->Hp->VK->Prop}{g:Sj}(n:X.K=C.W.K->ZZ X (.builtin id) r)(L:LfC C.W r g)(i:Gl X x)(l:X.mg x=none)(q:bootBuiltins x=some (.builtin id))(o:AM X C S ws (e::es) ms)(j:x≠"__name__":=by decide)(c:(x==("__debug__":Str))=false:=by decide)
  (he:starEach (e::es) X.env=(false,eval e X.env)::starEach es X.env:=by rfl) (hpl:(backTo pos (starEach es X.env)).any (·.1)=false:=by rfl):EM X C S false (.Call (.Name x p) (e::es) [] pos) (zg g ms):=λd=>by
 obtain⟨s,f,h⟩:=o d;exact⟨_,m8 (n d) i l q f j c he hpl,Oz L h⟩
def nF{id:String}{r:List V->Hp->VK->Prop}{g:Sj}(n:X.K=C.W.K->ZZ X (.type id) r)(L:LfF C.W r g)(i:Gl X x)(l:X.mg x=none)(q:bootBuiltins x=some (.type id))(o:AM X C S ws (e::es) ms)(j:x≠"__name__":=by decide)(c:(x==("__debug__":Str))=false:=by decide)
  (he:starEach (e::es) X.env=(false,eval e X.env)::starEach es X.env:=by rfl) (hpl:(backTo pos (starEach es X.env)).any (·.1)=false:=by rfl):FM X C S (.Call (.Name x p) (e::es) [] pos) (zg g ms):=λd=>by
 obtain⟨s,f,h⟩:=o d;exact⟨_,tM (n d) i l q f j c he hpl,OA L h⟩
end
def vq:List PV->Out PV
 |[.l a]=>.ok (.i a.length)
 |[.t a]=>.ok (.i a.length)
 |[.sc a]=>.ok (.i a.length)
 |[.d a]=>.ok (.i a.length)
 |[.s z]=>if z.length<=sizeLine then .ok (.i z.length)else .wall
 |_=>.wall
def jY.len(h:jY W M H a es):es.length=a.length:=by have:=a0K List.length (jY.iff.mp h).1;simpa using this
def Le(K:Sx):List V->Hp->VK->Prop:=λc H Q=>(∃x n,c=[x]/\Pn K x H n/\Q (.int n) H)\/∃a b,c=[V.ref a]/\Rd H a (.dK b)/\Q (.int b.length) H
def uq:ZZ X (.builtin "len") (λd H Q=>∃a b,d=[V.ref a]/\Rd H a (.dK b)/\Q (.int b.length) H):=by intro c s l H d j Q I r h;obtain⟨a,b,rfl,e,q⟩:=h;obtain⟨u,rfl,f⟩:=vals1 r;cases f;exact Og I e λt i g=>⟨.int _,H,g,⟨t,rfl⟩,q⟩
def Lf:LfC W (Le W.K) vq:=λM C B H g c Q n h q=>by
 unfold vq at q;split at q
 .obtain⟨v,r,rfl,⟨p,c,rfl,_,b,d⟩,a⟩:=h;cases a;exact .inl ⟨_,c.length,rfl,.inl ⟨c,SqL.of b,rfl⟩,q _ H (zD.refl _) (by rw[d.len];rfl)⟩
 .obtain⟨v,r,rfl,⟨p,c,rfl,b,d⟩,a⟩:=h;cases a;exact .inl ⟨_,c.length,rfl,.inr ⟨c,b,rfl⟩,q _ H (zD.refl _) (by rw[d.len];rfl)⟩
 .obtain⟨v,r,rfl,⟨p,rfl,b⟩,a⟩:=h;cases a;exact .inl ⟨_,_,rfl,.inl ⟨_,b.sq,rfl⟩,q _ H (zD.refl _) (by rw[f8];rfl)⟩
 .obtain⟨v,r,rfl,⟨p,f,rfl,_,b,d⟩,a⟩:=h;cases a;exact .inr ⟨_,f,rfl,b,q _ H (zD.refl _) (by rw[d.len];rfl)⟩
 .split at q
  .rename_i hz;obtain⟨v,r,rfl,e,a⟩:=h;cases a;cases e;exact .inl ⟨_,_,rfl,⟨hz,rfl⟩,q _ H (zD.refl _) rfl⟩
  .exact q.elim
 .exact q.elim
def qZ(c:Gl X "len")(a:X.mg "len"=none)(d:AM X C S ws [e] ms)(he:starEach [e] X.env=[(false,eval e X.env)]:=by rfl):EM X C S false (.Call (.Name "len" p) [e] [] pos) (zg vq ms):=
 XM (λb=>b▸A7.or uq) Lf c a PySem.boot_len d (he:=he)
def Fs:List PV->Out PV
 |[.l a]=>.ok (.l a)
 |[.t a]=>.ok (.l a)
 |[.sc a]=>.ok (.l (a.map PV.i))
 |_=>.wall
def Jp(r:yx W M H xs vs)(b:H l=none):RFr W M H (upd H l (.lst vs)) (.l xs) (.ref l):=
 ⟨l,rfl,b,vs,zj,(r.sub λa m n=>⟨m,λz=>n (z▸b)⟩).same (zD.upd b)⟩
def Ft(r:jY W M H xs vs)(b:H l=none):RFr W M H (upd H l (.dK vs)) (.d xs) (.ref l):=
 ⟨l,rfl,b,vs,zj,(r.sub λa m n=>⟨m,λz=>n (z▸b)⟩).same (zD.upd b)⟩
def Fu:LfF W (λf H Q=>∃p e,f=[.ref p]/\(SqL W.K H p e\/SqT W.K H p e)/\∀l,H l=none->Q (.ref l) (upd H l (.lst e))) Fs:=λM C B H f c Q n h q=>by
 unfold Fs at q;split at q
 .obtain⟨v,r,rfl,⟨p,c,rfl,_,a,d⟩,b⟩:=h;cases b;exact⟨p,c,rfl,.inl (SqL.of a),λl a=>q _ _ (zD.upd a) (Jp d a)⟩
 .obtain⟨v,r,rfl,⟨p,c,rfl,a,d⟩,b⟩:=h;cases b;exact⟨p,c,rfl,.inr a,λl a=>q _ _ (zD.upd a) (Jp d a)⟩
 .obtain⟨v,r,rfl,⟨p,rfl,a⟩,b⟩:=h;cases b;exact⟨p,_,rfl,.inl a.sq,λl a=>q _ _ (zD.upd a) (Jp yx.ints a)⟩
 .exact q.elim
def toI:PV->Option Int
 |.i a=>some a
 |_=>none
def Lg:List PV->Option (List Int)
 |[]=>some []
 |x::r=>match toI x,Lg r with|some a,some b=>some (a::b)|_,_=>none
theorem ur{W:RC}{M:RY}{H:Hp}:∀{c:Sn}{g:Sh}{f:Sw},yx W M H c g->Lg c=some f->g=f.map V.int
 |[],_,_,h,e=>by cases h;cases e;rfl
 |x::c,_,f,h,e=>by
  obtain⟨v,r,rfl,l,j⟩:=h;unfold Lg at e;cases x with
  |i a=>
   cases d:Lg c with
   |none=>rw[d]at e;cases e
   |some b=>rw[d]at e;cases e;rw[T2,<- ur j d,l]
  |_=>cases e
def BB:List Int->Int
 |[]=>0
 |[a]=>a
 |a::r=>max a (BB r)
theorem nG:∀{ns:Sw},ns≠[]->BB ns∈ns
 |[],h=>absurd rfl h
 |[a],_=>by simp[BB]
 |a::b::r,_=>by
  have ih:=nG (ns:=b::r) (by simp);show max a (BB (b::r))∈_;rcases Int.le_total a (BB (b::r))with h|h
  .rw[Int.max_eq_right h];exact R9 _ ih
  .rw[Int.max_eq_left h];exact v4
theorem uu:∀{d:Sw}{a:Int},a∈d->a<=BB d
 |[],_,h=>by cases h
 |[b],a,h=>by simp at h;subst h;exact a0R _
 |b::c::r,a,h=>by
  rcases T6.mp h with rfl|h
  .exact Int.le_max_left ..
  .exact a2N (uu h) (Int.le_max_right ..)
def Dq:List PV->Out PV
 |[.i a,.i b]=>.ok (.i (max a b))
 |[.l d]=>ZH ((Lg d).bind λc=>if c=[]then none else some (.i (BB c)))
 |_=>.wall
def Lh:LfC W (λf H Q=>(∃i j,f=[.int i,.int j]/\Q (.int (if j>i then j else i)) H)\/IH W.K f H Q) Dq:=λM C B H f o Q n h q=>by
 unfold Dq at q;split at q
 .obtain⟨v,r,rfl,l,x,w,rfl,c,a⟩:=h;cases a;cases l;cases c;exact .inl ⟨_,_,rfl,q _ H (zD.refl _) (by congr 1;omega)⟩
 .obtain⟨z,e,q⟩:=yZ q;obtain⟨d,s,e⟩:=a0f.mp e;by_cases hz:d=[]
  .rw[if_pos hz]at e;cases e
  .rw[if_neg hz]at e;cases e;obtain⟨v,r,rfl,⟨p,o,rfl,_,g,u⟩,a⟩:=h;cases a;rw[ur u s]at g;refine .inr ⟨p,d,rfl,SqL.of g,hz,λM m b=>?_⟩;have:M=BB d:=Int.le_antisymm (uu m) (b _ (nG hz));rw[this];exact q _ H (zD.refl _) rfl
 .exact q.elim
def uv:List PV->Option (List Bool)
 |[]=>some []
 |x::r=>match x,uv r with | .b a,some b=>some (a::b)|_,_=>none
theorem lq{W:RC}{M:RY}{H:Hp}:∀{c:Sn}{g:Sh}{f:R_},yx W M H c g->uv c=some f->g=f.map V.bl
 |[],_,_,h,e=>by cases h;cases e;rfl
 |x::c,_,f,h,e=>by
  obtain⟨v,r,rfl,j,i⟩:=h;unfold uv at e;cases x with
  |b a=>
   cases d:uv c with
   |none=>rw[d]at e;cases e
   |some b=>rw[d]at e;cases e;rw[T2,<- lq i d,j]
  |_=>cases e
theorem nH:∀{ns:R_},uv (ns.map PV.b)=some ns
 |[]=>rfl
 |n::ns=>by unfold uv;rw[T2];simp only[nH]
def Ho:List PV->Out PV
 |[.l a]=>ZH ((uv a).map λb=>.b (b.all id))
 |_=>.wall
def Li:LfC W (Pw W.K) Ho:=λM C B H i c Q n h q=>by
 unfold Ho at q;split at q
 .obtain⟨z,e,q⟩:=yZ q;obtain⟨f,d,rfl⟩:=v0.mp e;obtain⟨v,r,rfl,⟨p,c,rfl,_,a,g⟩,b⟩:=h;cases b;rw[lq g d]at a;exact⟨p,f,rfl,SqL.of a,q _ H (zD.refl _) rfl⟩
 .exact q.elim
def Dr(a:X.calm=true)(b:Gl X "max")(c:X.mg "max"=none)(f:AM X C S ws (e::es) ms)(he:starEach (e::es) X.env=(false,eval e X.env)::starEach es X.env:=by rfl)(hpl:(backTo pos (starEach es X.env)).any (·.1)=false:=by rfl):EM X C S false (.Call (.Name "max" p) (e::es) [] pos) (zg Dq ms):=
 XM (λd=>d▸(tF a).or (ub a)) Lh b c PyProof.Rows.boot_max f (he:=he) (hpl:=hpl)
def Lj(d:X.calm=true)(a:Gl X "all")(b:X.mg "all"=none)(f:AM X C S ws [e] ms)(he:starEach [e] X.env=[(false,eval e X.env)]:=by rfl):EM X C S false (.Call (.Name "all" p) [e] [] pos) (zg Ho ms):=
 XM (λc=>c▸Bu d) Li a b PyProof.Rows.boot_all f (he:=he)
def j0(W:RC)(M:RY)(H:Hp):List Bool->List PV->List V->Prop
 |[],b,a=>b=[]/\a=[]
 |w::e,b,a=>∃x v c d,b=x::c/\a=v::d/\qb W (if w=true then λ_=>True else M) M H x v/\j0 W M H e c d
theorem RVs.args{C:LC}{B:Bs}{S:RW}{P:Se}{H:Hp}:∀{a:R_}{c:Sn}{b:Sh},RVs C B S P H a c b->j0 C.W (Mof B S P) H a c b
 |[],_,_,h=>h
 |w::a,_,_,⟨x,v,d,j,e,g,i,f⟩=>⟨x,v,d,j,e,g,i,RVs.args f⟩
theorem j0.len{W:RC}{M:RY}{H:Hp}:∀{a:R_}{f:Sn}{d:Sh},j0 W M H a f d->d.length=a.length/\f.length=a.length
 |[],_,_,⟨b,c⟩=>by subst b;subst c;exact⟨rfl,rfl⟩
 |w::a,_,_,⟨x,v,g,i,b,c,h,e⟩=>by subst b;subst c;exact⟨by rw[R4,R4,(j0.len e).1],by rw[R4,R4,(j0.len e).2]⟩
theorem j0.same{W:RC}{M:RY}{H H':Hp}(s:zD H H'):∀{a:R_}{c:Sn}{b:Sh},j0 W M H a c b->j0 W M H' a c b
 |[],_,_,h=>h
 |w::a,_,_,⟨x,v,d,j,e,g,i,f⟩=>⟨x,v,d,j,e,g,i.same s,j0.same s f⟩
def RtV(W:RC)(fr:Bool)(M:RY)(H b:Hp)(r:PV)(v:V):Prop:=if fr=true then RFr W (λa=>M a\/H a=none) H b r v else Rep W (λa=>M a\/H a=none) b r v
def OB(W:RC)(fr:Bool)(M:RY)(H:Hp)(Q:VK)(E:XK):Out PV->Prop
 |.ok r=>∀v b,zD H b->RtV W fr M H b r v->Q v b
 |.exc c fs=>∀e d f b,zD H b->b e=some (XC e (W.cls c) d)->b d=some (XD d f)->vp W (λa=>M a\/H a=none) b fs f->E (.ref e) (some d) b
 |.wall=>False
def lsp(W:RC)(fr:Bool)(ws:R_)(g:Sj):Sp:=λb H Q E=>∃M a,j0 W M H ws a b/\OB W fr M H Q E (g a)
def Fv{W:RC}{fr:Bool}{ws:R_}{g:Sj}{n:Nat}(h:ws.length=n):∀b H Q E,lsp W fr ws g b H Q E->b.length=n:=λb H Q E ⟨M,c,a,_⟩=>a.len.1.trans h
def RFr.sub(h:RFr W M H H2 x v)(s:∀a,M a->M' a):RFr W M' H H2 x v:=by obtain⟨p,e,hp,h⟩:=h;exact⟨p,e,hp,h.gen rfl Fr.refl λa m _=>⟨s a m.1,m.2⟩⟩
section
variable {X:Cx}{C:LC}{S:RW}{e a b o:Sf}{es:Sd}{w fr:Bool}{ws:R_}{m:ME}{ms:MA}{pos p jm:Pos}{x mn:Str}{k:Nat}{f:Addr}{fd:Sq}{ps:RS}{g:Sj}
def uw(R:Rel C.W B S P H σ ρ)(q:XPo C B c fs):∀e h es d,zD H d->d e=some (XC e (C.W.cls c) h)->d h=some (XD h es)->vp C.W (λa=>Mof B S P a\/H a=none) d fs es->C.E (.ref e) (some h) d:=
 λe h es d s l i j=>q e h es d (R.same.trans s) l i (j.sub λa m _=>m.elim (λm=>m.1.1) λn=>.inr (zD.none R.same n))
def Ds{B:Bs}{P:Se}{H:Hp}{σ:St}{ρ:Sto}{Q:VK}{o:Out PV}(R:Rel C.W B S P H σ ρ)(q:ya C B H (RV C B S P false) Q o):OB C.W fr (Mof B S P) H Q C.E o:=by
 have sM:∀a,(Mof B S P a\/H a=none)->Mof B S P a:=λa m=>m.elim id λn=>R.new a n;cases o with
 |ok r=>
  intro v h s d;refine q v h s (RV.of ?_);unfold RtV at d;cases fr with
  |true=>exact(d.sub sM).rep R.new
  |false=>exact d.sub λa m _=>sM a m
 |exc c fs=>exact uw R q
 |wall=>exact q
def ux{B:Bs}{P:Se}{H:Hp}{σ:St}{ρ:Sto}{Q:VK}{o:Out PV}(R:Rel C.W B S P H σ ρ)(q:ya C B H (RFr C.W (Mof B S P) H) Q o):OB C.W true (Mof B S P) H Q C.E o:=by
 have sM:∀a,(Mof B S P a\/H a=none)->Mof B S P a:=λa m=>m.elim id λn=>R.new a n;cases o with
 |ok r=>intro v h s d;unfold RtV at d;exact q v h s (d.sub sM)
 |exc c fs=>exact uw R q
 |wall=>exact q
def Fx(F:y_ X.prog X.w X.K X.mg X.base (CXe X.prog X.w) k f fd ps (lsp C.W fr ws g))(i:vB k X.A)(G:Gl X x)(h:X.mg x=some (.ref f))(r:keepIn X.K (.ref f)=true)(j:Binds X.K fd ps [])(d:Passes (CXe X.prog X.w) X C.E)(n:AM X C S ws (e::es) ms)
  (c:(x==("__debug__":Str))=false:=by decide) (he:starEach (e::es) X.env=(false,eval e X.env)::starEach es X.env:=by rfl) (hpl:(backTo pos (starEach es X.env)).any (·.1)=false:=by rfl):EM X C S false (.Call (.Name x p) (e::es) [] pos) (zg g ms):=λD=>by
 obtain⟨J,y,u⟩:=n D;refine⟨_,iQ F i G h r j .nil d y c he hpl,λB P H l A R Q q=>u B P H l A R _ (jn q λE I K s z v=>?_)⟩;rw[a0i];exact⟨_,E,z.args,Ds (R.keep s) v⟩
def Um(F:y_ X.prog X.w X.K X.mg X.base (CXe X.prog X.w) k f fd ps (lsp C.W true ws g))(i:vB k X.A)(G:Gl X x)(h:X.mg x=some (.ref f))(r:keepIn X.K (.ref f)=true)(j:Binds X.K fd ps [])(d:Passes (CXe X.prog X.w) X C.E)(n:AM X C S ws (e::es) ms)
  (c:(x==("__debug__":Str))=false:=by decide) (he:starEach (e::es) X.env=(false,eval e X.env)::starEach es X.env:=by rfl) (hpl:(backTo pos (starEach es X.env)).any (·.1)=false:=by rfl):FM X C S (.Call (.Name x p) (e::es) [] pos) (zg g ms):=λD=>by
 obtain⟨J,y,u⟩:=n D;refine⟨_,iQ F i G h r j .nil d y c he hpl,λB P H l A R Q q=>u B P H l A R _ (Z3 q λE I K s z v=>?_)⟩;rw[a0i];exact⟨_,E,z.args,ux (R.keep s) v⟩
def Kj(cs:RW)(f:Str)(m:ME):ME:=λd=>(m d).bind λx=>match x with
 |.o c fs=>if c∈cs then ZH (fs.lookup f)else .wall
 |_=>.wall
def ZM(h:EM X C S w e m)(l:∀c∈cs,Cls X.K (C.W.cls c)/\vm X.K (C.W.cls c) fn)(n:attributeBase e fn X.env (eval e X.env)=eval e X.env:=by rfl):EM X C S false (.Attribute e fn pos) (Kj cs fn m):=λE=>by
 obtain⟨J,z,s⟩:=h E;refine⟨_,C5 z n,λB P H r D R Q q=>s B P H r D R _ (yM q λx v j I A d=>?_)⟩;cases x with
 |o c fs=>
  obtain⟨p,u,es,rfl,_,hp,hf⟩:=A;by_cases i:c∈cs
  .have d:ya C B j (RV C B S P false) Q (if c∈cs then ZH (fs.lookup fn)else .wall):=d;rw[if_pos i]at d;obtain⟨y,e,d⟩:=yZ d;obtain⟨v,G,F⟩:=hf.lookup e;exact⟨p,_,u,es,v,rfl,hp,(l c i).1,(l c i).2,G,d v j (zD.refl _) (RV.of F)⟩
  .have d:ya C B j (RV C B S P false) Q (if c∈cs then ZH (fs.lookup fn)else .wall):=d;rw[if_neg i]at d;exact d.elim
 |_=>exact d.elim
def kX(tab:List (Nat×(List PV->Out PV)))(mn:Str)(m:ME)(ms:MA):ME:=λd=>(m d).bind λx=>match x with
 |.o c fs=>match tab.lookup c with
  |some g=>if(fs.lookup mn).isSome=true then .wall else(ms d).bind λh=>g (x::h)
  |none=>.wall
 |_=>.wall
def NI(W:RC)(fr:Bool)(ws:R_)(tab:List (Nat×(List PV->Out PV)))(K:Addr)(sp:Sp):Prop:=∃q∈tab,K=W.cls q.1/\sp=lsp W fr (true::ws) q.2
theorem lookup_mem{d:Type}:∀{tab:List (Nat×d)}{c:Nat}{g:d},tab.lookup c=some g->(c,g)∈tab
 |[],_,_,h=>by cases h
 |q::r,c,g,h=>by
  rw[a0w]at h;by_cases e:(c==q.1)=true
  .simp only[e]at h;cases h;rw[a0t.mp e];exact v4
  .simp only[e]at h;exact R9 _ (lookup_mem h)
def uy{B:Bs}{P:Se}{H:Hp}{σ:St}{ρ:Sto}{Q:VK}{c:Nat}{fs:Ss}{v:V}{tab:List (Nat×(List PV->Out PV))}{t:TA}(R:Rel C.W B S P H σ ρ)(s:RV C B S P w H (.o c fs) v)
  (u:∀g,tab.lookup c=some g->fs.lookup mn=none->t σ H λj d=>lsp C.W fr (true::ws) g (v::j) d Q C.E)
  (q:(∃g,tab.lookup c=some g/\fs.lookup mn=none)):∃a i es K l,NI C.W fr ws tab K l/\v=.ref a/\H a=some (.ins K i es)/\es.lookup mn=none/\t σ H λj d=>l (v::j) d Q C.E:=by
 obtain⟨g,n,r⟩:=q;have h:=u g n r;obtain⟨p,i,es,rfl,_,hp,hf⟩:=s;exact⟨p,i,es,_,_,⟨(c,g),lookup_mem n,rfl,rfl⟩,rfl,hp,hf.ud r,h⟩
def RVs.consW{B:Bs}{P:Se}{H:Hp}{x:PV}{v:V}{xs:Sn}{vs:Sh}(h:RV C B S P w H x v)(t:RVs C B S P H ws xs vs):j0 C.W (Mof B S P) H (true::ws) (x::xs) (v::vs):=⟨x,v,xs,vs,rfl,rfl,by exact h.weak,t.args⟩
def vJ(h:EM X C S w o m)(r:∀K A,NI C.W fr ws tab K A->Hk X.prog X.w X.K X.mg X.base X.A mn K A)(I:Passes (CXe X.prog X.w) X C.E)(L:AM X C S ws (e::es) ms)
  (u:starEach (e::es) X.env=(false,eval e X.env)::starEach es X.env:=by rfl) (hpl:(backTo pos (starEach es X.env)).any (·.1)=false:=by rfl)
  (O:eval (.Call (.Attribute o mn jm) (e::es) [] pos) X.env=(do
   let ov<-eval o X.env
   standAt jm.atName
   let(f,first)<-holding [ov] (getMethod ov mn pl)
   callWith pos f first (backTo pos (starEach (e::es) X.env)) (backToKw pos (keywordEach [] X.env))):=by rfl):EM X C S false (.Call (.Attribute o mn jm) (e::es) [] pos) (kX tab mn m ms):=λF=>by
 obtain⟨Y,T,W⟩:=h F;obtain⟨ta,U,N⟩:=L F;refine⟨_,Bw T r I U u hpl O,λB P H y s R Q q=>W B P H y s R _ (yM q λx v E l D d=>?_)⟩;cases x with
 |o c fs=>
  dsimp only at d;cases j:tab.lookup c with
  |none=>rw[j]at d;exact d.elim
  |some g=>
   rw[j]at d;cases n:fs.lookup mn with
   |some z=>rw[n]at d;exact d.elim
   |none=>rw[n]at d;have d:=d;refine uy (R.keep l) D (λg' i _=>?_) ⟨g,j,n⟩;rw[j]at i;cases i;exact N B P E y s (R.keep l) _ (jn d λG vs Z s2 J M=>⟨_,_,RVs.consW (RV.same D s2) J,Ds ((R.keep l).keep s2) M⟩)
 |_=>exact d.elim
def BC(h:EM X C S w o m)(n:∀K r,NI C.W true [] tab K r->Hk X.prog X.w X.K X.mg X.base X.A mn K r)(y:Passes (CXe X.prog X.w) X C.E)
  (D:eval (.Call (.Attribute o mn jm) [] [] pos) X.env=(do
   let ov<-eval o X.env
   standAt jm.atName
   let(f,first)<-holding [ov] (getMethod ov mn pl)
   callWith pos f first (backTo pos (starEach [] X.env)) (backToKw pos (keywordEach [] X.env))):=by rfl):FM X C S (.Call (.Attribute o mn jm) [] [] pos) (kX tab mn m zk):=λI=>by
 obtain⟨J,E,F⟩:=h I;refine⟨_,uc E n y D,λB P H A G R Q q=>F B P H A G R _ (Z4 q λx v M s u d=>?_)⟩;cases x with
 |o c fs=>
  dsimp only at d;cases j:tab.lookup c with
  |none=>rw[j]at d;exact d.elim
  |some g=>
   rw[j]at d;cases l:fs.lookup mn with
   |some z=>rw[l]at d;exact d.elim
   |none=>rw[l]at d;refine uy (R.keep s) u (λL i _=>?_) ⟨g,j,l⟩;rw[j]at i;cases i;exact⟨_,_,RVs.consW u ⟨rfl,rfl⟩,ux (R.keep s) d⟩
 |_=>exact d.elim
def erase(H:Hp)(x:Addr):Hp:=λa=>if a=x then none else H a
def Pz(W:RC)(M:RY)(H:Hp)(x:Addr)(Q:VK)(E:XK):Out PV->Prop
 |.ok r=>∀d,zD (erase H x) d->cP W (λa=>(M a\/erase H x a=none)/\a≠x) d x r->Q .non d
 |.exc c fs=>∀e h es d,zD (erase H x) d->d e=some (XC e (W.cls c) h)->d h=some (XD h es)->vp W (λa=>M a\/erase H x a=none) d fs es->E (.ref e) (some h) d
 |.wall=>False
def NJ(W:RC)(c:Nat)(ws:R_)(g:Sj):Sp:=λj H Q E=>∃M x i h d,j=.ref x::d/\H x=some (.ins (W.cls c) i [])/\j0 W M (erase H x) ws h d/\Pz W M H x Q E (g h)
def BD(h:ws.length+1=n):∀d H Q E,NJ W c ws g d H Q E->d.length=n:=λd H Q E ⟨M,x,j,l,i,e,_,a,_⟩=>by rw[e,R4,a.len.1,h]
def uz{H:Hp}{x c K:Addr}(i:H x=none)(j:H c=none)(l:c≠x):zD H (erase (upd (upd H c (.own x)) x (.ins K c [])) x):=λb o d=>by unfold erase;have h:b≠x:=zY d i;rw[if_neg h,zm h,zm (zY d j)];exact d
def uA{H:Hp}{x c K a:Addr}(i:H x=none)(h:erase (upd (upd H c (.own x)) x (.ins K c [])) x a=none):H a=none:=by
 by_cases e:a=x
 .rw[e];exact i
 .unfold erase at h;rw[if_neg e,zm e]at h;by_cases d:a=c
  .subst d;rw[zj]at h;cases h
  .rwa [zm d]at h
def Fy(M:Mk X.K (C.W.cls c) f)(F:y_ X.prog X.w X.K X.mg X.base (CXe X.prog X.w) k f fd ps (NJ C.W c ws g))(j:vB (k+1) X.A)(hg:Gl X x)(D:X.mg x=some (.ref (C.W.cls c)))(G:Binds X.K fd ps [])(d:Passes (CXe X.prog X.w) X C.E)(J:AM X C S ws (e::es) ms)
  (s:(x==("__debug__":Str))=false:=by decide) (he:starEach (e::es) X.env=(false,eval e X.env)::starEach es X.env:=by rfl) (hpl:(backTo pos (starEach es X.env)).any (·.1)=false:=by rfl):FM X C S (.Call (.Name x p) (e::es) [] pos) (zg g ms):=λhK=>by
 obtain⟨ta,T,N⟩:=J hK;refine⟨_,tK M F j hg D G .nil d T s he hpl,λB P H I ρ R Q q=>N B P H I ρ R _ (Z3 q λA O W L U h=>?_)⟩;intro x u d E y;rw[a0i];have z:=R.keep L;have v:=uz (K:=C.W.cls c) d E y;refine⟨_,x,u,A,O,rfl,zj,U.args.same v,?_⟩;have sM:∀a,(Mof B S P a\/erase (upd (upd W u (.own x)) x (.ins (C.W.cls c) u [])) x a=none)->Mof B S P a:=λa m=>m.elim id λn=>z.new a (uA d n);revert h;cases g A with
 |ok r=>exact λh i s2 j=>⟨rfl,h _ i (v.trans s2) ⟨x,rfl,d,j.gen rfl Fr.refl λa m _=>⟨sM a m.1,m.2⟩⟩⟩
 |exc c fs=>exact λh e l es i s2 h1 Y Z=>h e l es i ((z.same.trans v).trans s2) h1 Y (Z.sub λa m _=>(sM a m).1.1)
 |wall=>exact id
inductive Kd where
 |int|str|bool|none|list|tuple|dict|obj (c:Nat)|exc (c:Nat)
 deriving DecidableEq
def kd:PV->Option Kd
 |.i _=>some .int | .s _=>some .str | .b _=>some .bool | .n=>some .none | .l _=>some .list | .t _=>some .tuple | .d _=>some .dict | .o c _=>some (.obj c) | .x c _=>some (.exc c)
 |.sc _=>Option.none
 |.dt _=>Option.none
def tyK(W:RC):Kd->Value
 |.int=>.type "int" | .str=>.type "str" | .bool=>.type "bool" | .none=>.type "NoneType" | .list=>.type "list" | .tuple=>.type "tuple" | .dict=>.type "dict" | .obj c=>.ref (W.cls c) | .exc c=>.ref (W.cls c)
def NK(W:RC):Kd->Prop
 |.obj c=>Cls W.K (W.cls c)/\findIn W.K (.ref (W.cls c)) "__class__"=some (some (.builtin "object.__class__"))/\specialIn W.K (.builtin "object.__class__") "__get__"=some (some (.builtin "getset_descriptor.__get__"))/\takesIn W.K (.builtin "object.__class__")=some true/\mroIn W.K (W.cls c) (.type "object")=some true
 |.exc c=>Y5 W.K (W.cls c)/\XIs W.K (W.cls c)
 |_=>True
def uB(W:RC)(f:Tg):List (Kd×Bool)->Prop
 |[]=>True
 |q::r=>(NK W q.1/\f (tyK W q.1)=some q.2)/\uB W f r
theorem uB.get{W:RC}{f:Tg}:∀{tab:List (Kd×Bool)}{k:Kd}{b:Bool},uB W f tab->tab.lookup k=some b->NK W k/\f (tyK W k)=some b
 |[],_,_,_,h=>by cases h
 |q::r,k,b,t,h=>by
  rw[a0w]at h;by_cases e:(k==q.1)=true
  .simp only[e]at h;cases h;rw[a0t.mp e];exact t.1
  .simp only[e]at h;exact uB.get t.2 h
def PB(tab:List (Kd×Bool))(x:PV):Out PV:=ZH (((kd x).bind λk=>tab.lookup k).map PV.b)
def RD(W:RC)(f:Tg)(d:V):List V->Hp->VK->Prop:=λc H Q=>∃(M:RY)(x:PV)(v:V)(k:Kd)(b:Bool),c=[v,d]/\qb W (λ_=>True) M H x v/\kd x=some k/\NK W k/\f (tyK W k)=some b/\Q (.bl b) H
def Lk{pins:RT}{σ:St}{H:Hp}{s:RZ}{W:RC}{N M:RY}{x:PV}{v:V}{u:Value}{k:Kd}(D:X.K=W.K)(I:Inv X pins σ H s)(h:qb W N M H x v)(r:RelV v u)(j:kd x=some k)(ok:NK W k):∃P,KitX X.K u (tyK W k) P/\P s.heap/\u≠.builtin "__main__.__loader__#opaque":=by
 cases x with
 |i a=>cases j;exact iX I r (.inl (by rw[h];exact .int a))
 |s a=>cases j;exact iX I r (.inl (by rw[h];exact .str a))
 |b a=>cases j;exact iX I r (.inl (by rw[h];exact .bl a))
 |n=>cases j;exact iX I r (.inl (by rw[h];exact .non))
 |l a=>cases j;obtain⟨p,G,rfl,_,q,_⟩:=h;exact iX I r (.inl (.lst q))
 |t a=>cases j;obtain⟨p,G,rfl,q,_⟩:=h;cases r;rw[<- D]at q;obtain⟨R,_,⟨o,E,B,_⟩,_⟩:=I.tuple q;exact⟨_,kitx_tuple,⟨o,E,B⟩,λz=>nomatch z⟩
 |d a=>cases j;obtain⟨p,G,rfl,_,q,_⟩:=h;cases r;obtain⟨_,_,ws,_,Q⟩:=Kh I.hok q;obtain⟨o,es,T,E,B,_⟩:=Q;exact⟨_,kitx_dict,⟨o,E,B.1⟩,λz=>nomatch z⟩
 |o c a=>cases j;obtain⟨p,F,es,rfl,_,q,_⟩:=h;obtain⟨y,A,L,K,J⟩:=ok;rw[<- D]at y A L K J;exact iX I r (.inl (.ins q y A L K J))
 |x c a=>cases j;obtain⟨p,F,es,rfl,q,O,_⟩:=h;obtain⟨y,A⟩:=ok;rw[<- D]at y A;exact iX I r (.inr ⟨p,_,F,es,rfl,rfl,y,A,.inl q,O⟩)
 |sc a=>cases j
 |dt a=>cases j
def BE(l:X.K=W.K)(z:Ov cv=some cl):ZZ X (.builtin "isinstance") (RD W (λt=>kitOne W.K t cl) cv):=by intro i s E H G J Q I r h;obtain⟨M,x,v,k,b,rfl,n,y,ok,j,q⟩:=h;obtain⟨u,c,rfl,B,A⟩:=vals2 r;obtain⟨P,D,hP,d⟩:=Lk l I n B y ok;rw[Bp A z];rw[<- l]at j;exact kia_one D I.kIn hP j d λF=>⟨.bl b,H,I.tok _,rfl,q⟩
def Ll(J:Gl X "isinstance")(r:X.mg "isinstance"=none)(h:EM X C S w e m)(A:PE X ce (tC cv))(j:Ov cv=some cl)(tb:uB C.W (λt=>kitOne C.W.K t cl) tab)
  (he:starEach [e,ce] X.env=[(false,eval e X.env),(false,eval ce X.env)]:=by rfl) (c:starEach [ce] X.env=[(false,eval ce X.env)]:=by rfl):EM X C S false (.Call (.Name "isinstance" p) [e,ce] [] pos) (mUn (PB tab) m):=λl=>by
 obtain⟨L,D,y⟩:=h l;refine⟨_,m8 (BE l j) J r PyProof.Rows.boot_isinstance (wY D (wY A Ws c) (by rw[he,c])) `b `b (by rw[he,c]) (by rw[c];rfl),λB P H s G R Q q=>y B P H s G R _ (yM q λx v F K E i=>?_)⟩;obtain⟨z,n,i⟩:=yZ i;obtain⟨b,d,rfl⟩:=v0.mp n;obtain⟨k,u,d⟩:=a0f.mp d;obtain⟨ok,I⟩:=tb.get d;exact⟨_,x,v,k,b,rfl,E.weak,u,ok,I,i _ F (zD.refl _) (RV.of rfl)⟩
abbrev MO:=Sto->Out (Option Int)
def LO(C:LC)(S:RW)(j:TO)(m:MO):Prop:=∀B P H i h,Rel C.W B S P H i h->∀Q:Option Int->Hp->Prop,(match m h with | .ok r=>∀d,zD H d->Q r d | .exc c fs=>XPo C B c fs | .wall=>False)->j i H Q
def OM(X:Cx)(C:LC)(S:RW)(e:SY)(m:MO):Prop:=X.K=C.W.K->∃c,PO X e c/\LO C S c m
def iJ:MO:=λ_=>.ok none
def asI:PV->Out (Option Int)
 |.i a=>.ok (some a)
 |_=>.wall
def wZ(m:ME):MO:=λc=>(m c).bind asI
def Uo:OM X C S none iJ:=λ_=>⟨_,EW,λB P H d c R Q q=>q H (zD.refl _)⟩
def Kk(h:EM X C S w e m):OM X C S (some e) (wZ m):=λu=>by
 obtain⟨z,l,n⟩:=h u;refine⟨_,EX l,λB P H y d R Q q=>n B P H y d R _ ?_⟩;unfold wZ at q;revert q;cases m d with
 |ok x=>
  intro q v j s r;cases x with
  |i a=>exact⟨a,r,q j s⟩
  |_=>exact q.elim
 |exc c fs=>exact id
 |wall=>exact id
def Jl{d:Type}(xs:List d)(c h:SQ):List d:=(xs.drop (HT.sIx xs.length 0 c)).take (HT.sIx xs.length xs.length h-HT.sIx xs.length 0 c)
def pSl:PV->Option Int->Option Int->Out PV
 |.l i,c,d=>.ok (.l (Jl i c d))
 |.sc h,c,d=>.ok (.l ((Jl h c d).map PV.i))
 |.s z,c,d=>if z.length<=sizeLine then .ok (.s (Txt.slice z c d))else .wall
 |_,_,_=>.wall
def sG:PV->Option Int->Option Int->Out PV
 |.l h,d,c=>.ok (.l (Jl h d c))
 |.sc i,d,c=>.ok (.l ((Jl i d c).map PV.i))
 |_,_,_=>.wall
def mSl(d:PV->Option Int->Option Int->Out PV)(m:ME)(i j:MO):ME:=λc=>(m c).bind λx=>(i c).bind λl=>(j c).bind λh=>d x l h
def nI{ns:Sw}{d c:SQ}:C8 (ns.map V.int) d c=(Jl ns d c).map V.int:=by unfold C8 Jl;rw[f8,a1g,a1u]
variable {lo hi:SY}{ml mh:MO}{p2:Pos}
def nJ(h:EM X C S w e m)(F:OM X C S lo ml)(E:OM X C S hi mh):FM X C S (.Subscript e (.Slice lo hi none p2) pos) (mSl sG m ml mh):=λj=>by
 obtain⟨Z,J,G⟩:=h j;obtain⟨U,M,D⟩:=F j;obtain⟨th,O,L⟩:=E j;refine⟨_,m9 tO J M O,λB P H n i R Q q=>G B P H n i R _ (Z4 q λx v r u K d=>D B P r n i (R.keep u) _ ?_)⟩;revert d;cases ml i with
 |exc c fs=>exact id
 |wall=>exact id
 |ok l=>
  intro d A s2;refine L B P A n i ((R.keep u).keep s2) _ ?_;have d:=d;have d:=vI d s2;revert d;cases mh i with
  |exc c fs=>exact id
  |wall=>exact id
  |ok h=>
   intro d T s;have d:=vI d s;have y:=(K.same s2).same s;cases x with
   |l Y=>obtain⟨p,I,rfl,_,hp,N⟩:=y;exact⟨p,I,rfl,SqL.of hp,λz hz=>d _ _ (zD.upd hz) (Jp N.cut hz)⟩
   |sc W=>obtain⟨p,rfl,hp⟩:=y;exact⟨p,_,rfl,j▸hp.sq,λz hz=>d _ _ (zD.upd hz) (by rw[nI];exact Jp yx.ints hz)⟩
   |_=>exact d.elim
def XN(h:EM X C S w e m)(J:OM X C S lo ml)(I:OM X C S hi mh):EM X C S false (.Subscript e (.Slice lo hi none p2) pos) (mSl pSl m ml mh):=λj=>by
 obtain⟨te,M,K⟩:=h j;obtain⟨Y,T,F⟩:=J j;obtain⟨th,W,O⟩:=I j;refine⟨_,m9 (tO.or ID) M T W,λB P H r i R Q q=>K B P H r i R _ (yM q λx v A u N d=>F B P A r i (R.keep u) _ ?_)⟩;revert d;cases ml i with
 |exc c fs=>exact id
 |wall=>exact id
 |ok l=>
  intro d E s2;refine O B P E r i ((R.keep u).keep s2) _ ?_;have d:=d;have d:=Q_ d s2;revert d;cases mh i with
  |exc c fs=>exact id
  |wall=>exact id
  |ok h=>
   intro d G n;have d:=Q_ d n;have y:=(N.same s2).same n;have D:=(((R.keep u).keep s2).keep n).new;cases x with
   |l xs=>obtain⟨p,L,rfl,_,hp,U⟩:=y;exact .inl ⟨p,L,rfl,SqL.of hp,λz hz=>d _ _ (zD.upd hz) (RV.of ((Jp U.cut hz).rep D))⟩
   |sc Z=>obtain⟨p,rfl,hp⟩:=y;exact .inl ⟨p,_,rfl,j▸hp.sq,λz hz=>d _ _ (zD.upd hz) (by rw[nI];exact RV.of ((Jp yx.ints hz).rep D))⟩
   |s z=>
    unfold pSl at d;by_cases hz:z.length<=sizeLine
    .simp only[hz]at d;exact .inr ⟨z,y,hz,d _ G (zD.refl _) (RV.of rfl)⟩
    .simp only[hz]at d;exact d.elim
   |_=>exact d.elim
end
def Dt(C:LC)(B:Bs)(H:Hp)(x:PV)(v:V):Prop:=if C.fr=true then RFr C.W B.Mt B.H0 H x v else Rep C.W B.Mt H x v
def ZN(C:LC)(B:Bs)(S' Sb Sc:RW)(D:Ends):Out Fw->Prop
 |.ok (.nx d)=>∀e b a,Rel C.W B S' e b a d->D.nx a b
 |.ok (.rt x)=>∀v b,zD B.H0 b->Dt C B b x v->D.rt v b
 |.ok (.bk d)=>∀e b a,Rel C.W B Sb e b a d->D.bk a b
 |.ok (.ct d)=>∀e b a,Rel C.W B Sc e b a d->D.ct a b
 |.exc c fs=>XPo C B c fs
 |.wall=>False
def LS(C:LC)(S S' Sb Sc:RW)(ts:TS)(m:MS):Prop:=∀B P H b a,Rel C.W B S P H b a->∀D,ZN C B S' Sb Sc D (m a)->ts D b H
def SM(X:Cx)(C:LC)(S S' Sb Sc:RW)(st:SN)(m:MS):Prop:=X.K=C.W.K->∃a,PS X st a/\LS C S S' Sb Sc a m
def SsM(X:Cx)(C:LC)(S S' Sb Sc:RW)(st:SE)(m:MS):Prop:=X.K=C.W.K->∃a,PSs X st a/\LS C S S' Sb Sc a m
def yB:MS:=λa=>.ok (.nx a)
def yk(a b:MS):MS:=λd=>(a d).bind λf=>match f with
 |.nx c=>b c
 |.rt x=>.ok (.rt x)
 |.bk c=>.ok (.bk c)
 |.ct c=>.ok (.ct c)
def qJ(i:Nat)(m:ME):MS:=λa=>(m a).bind λx=>.ok (.nx (a.set i (some x)))
def jo(m:ME):MS:=λa=>(m a).bind λ_=>.ok (.nx a)
def vt(m:ME):MS:=λa=>(m a).bind λx=>.ok (.rt x)
def sIf(t:MT)(a b:MS):MS:=λd=>(t d).bind λc=>if c=true then a d else b d
section
variable {X:Cx}{C:LC}{S S' S1 Sb Sc:RW}{e a o:Sf}{w:Bool}{m:ME}{t1:MT}{s1 s2:MS}{pos p pos':Pos}{x:Str}{st:SN}{sts stt:SE}{i:Nat}
def yo:SsM X C S S Sb Sc [] yB:=λ_=>⟨_,sU,λB P H c d R D q=>q P H c R⟩
def Lm(n:LS C S S1 Sb Sc t s1)(j:LS C S1 S' Sb Sc u s2):LS C S S' Sb Sc (NX t u) (yk s1 s2):=λB P H r h R D q=>by
 refine n B P H r h R _ ?_;unfold yk at q;revert q;cases s1 h with
 |ok f=>
  cases f with
  |nx d=>exact λq v s g l=>j B v s g d l D q
  |rt x=>exact id
  |bk d=>exact id
  |ct d=>exact id
 |exc c fs=>exact id
 |wall=>exact id
def zh(l:SM X C S S1 Sb Sc st s1)(g:SsM X C S1 S' Sb Sc sts s2):SsM X C S S' Sb Sc (st::sts) (yk s1 s2):=λc=>by obtain⟨t,d,f⟩:=l c;obtain⟨u,j,h⟩:=g c;exact⟨_,XG d j,Lm f h⟩
def zr(c:SM X C S S' Sb Sc st s1):SsM X C S S' Sb Sc [st] s1:=λg=>by obtain⟨t,d,f⟩:=c g;exact⟨_,j4 d,f⟩
def Du(h:LE C S false te m):LS C S (S.set i 0) Sb Sc (Hh te (iP i)) (qJ i m):=λB P H g d R D q=>by
 refine h B P H g d R _ ?_;unfold qJ at q;revert q;cases m d with
 |ok x=>exact λq v f s r=>q P f _ ((R.keep s).set r.rep)
 |exc c fs=>exact id
 |wall=>exact id
def Ln(g:X.N.Nodup)(l:X.N[i]?=some x)(c:Loc X.env.scope x)(h:EM X C S false e m)(j:swapsWith e (some (.Name x pos')) pos.line X.env=pure false:=by rfl)(hf:X.fn x=true\/X.env.scope.names.lookup x=some .local:=by first|exact .inl rfl|exact .inr rfl|assumption):
  SM X C S (S.set i 0) Sb Sc (.Assign [.Name x pos'] e pos) (qJ i m):=λn=>by
 obtain⟨q,d,f⟩:=h n;exact⟨_,sW g l c d j hf,Du f⟩
def Fz(h:LFr C S te m)(g:i<S.length)(j:i≠0):LS C S (S.set i 2) Sb Sc (Hh te (iP i)) (qJ i m):=λB P H l d R D q=>by
 refine h B P H l d R _ ?_;unfold qJ at q;revert q;cases m d with
 |ok x=>exact λq v f s ⟨p,e,hp,r⟩=>by subst e;exact q _ f _ (R.Rz s hp g j r)
 |exc c fs=>exact id
 |wall=>exact id
def V5(g:X.N.Nodup)(q:X.N[i]?=some x)(c:Loc X.env.scope x)(h:FM X C S e m)(f:i<S.length:=by decide)(n:i≠0:=by decide)(j:swapsWith e (some (.Name x pos')) pos.line X.env=pure false:=by rfl)(hf:X.fn x=true\/X.env.scope.names.lookup x=some .local:=by first|exact .inl rfl|exact .inr rfl|assumption):
  SM X C S (S.set i 2) Sb Sc (.Assign [.Name x pos'] e pos) (qJ i m):=λr=>by
 obtain⟨s,d,l⟩:=h r;exact⟨_,sW g q c d j hf,Fz l f n⟩
def yy(h:EM X C S w e m)(n:swapsWith e none pos.line X.env=pure false:=by rfl):SM X C S S Sb Sc (.Expr e pos) (jo m):=λu=>by
 obtain⟨y,j,l⟩:=h u;refine⟨_,Y6 j n,λB P H f d R D q=>l B P H f d R _ ?_⟩;unfold jo at q;revert q;cases m d with
 |ok x=>exact λq v g s r=>q P g f (R.keep s)
 |exc c fs=>exact id
 |wall=>exact id
def yN(h:EM X C S false e m)(hf:C.fr=false:=by rfl):SM X C S S' Sb Sc (.Return (some e) pos) (vt m):=λl=>by
 obtain⟨u,g,j⟩:=h l;refine⟨_,m6 g,λB P H n d R D q=>j B P H n d R _ ?_⟩;unfold vt at q;revert q;cases m d with
 |ok x=>exact λq v f s r=>q v f (R.same.trans s) (by unfold Dt;rw[hf];exact r.rep.sub λa m _=>m.1.1)
 |exc c fs=>exact id
 |wall=>exact id
def FA(h:FM X C S e m)(hf:C.fr=true:=by rfl):SM X C S S' Sb Sc (.Return (some e) pos) (vt m):=λl=>by
 obtain⟨u,g,j⟩:=h l;refine⟨_,m6 g,λB P H n d R D q=>j B P H n d R _ ?_⟩;unfold vt at q;revert q;cases m d with
 |ok x=>exact λq v f s r=>q v f (R.same.trans s) (by
   unfold Dt;rw[if_pos hf];obtain⟨p,e,hp,r⟩:=r;exact⟨p,e,zD.none R.same hp,r.gen rfl Fr.refl λa m _=>⟨m.1.1.1,m.2⟩⟩)
 |exc c fs=>exact id
 |wall=>exact id
def Uq(h:PE X e (pH i))(d:S[i]?=some 2:=by rfl)(hf:C.fr=true:=by rfl):SM X C S S' Sb Sc (.Return (some e) pos) (vt (zc i)):=λn=>by
 refine⟨_,m6 h,λB P H r j R D q=>?_⟩;unfold vt zc at q;cases c:j[i]? with
 |none=>rw[c]at q;exact q.elim
 |some o=>
  cases o with
  |none=>rw[c]at q;exact q.elim
  |some y=>rw[c]at q;obtain⟨v,l,g,_,_⟩:=R.var i y c;obtain⟨rfl,f⟩:=g d;refine⟨_,l,q _ H R.same ?_⟩;unfold Dt;rw[if_pos hf];exact⟨P i,rfl,(R.act i d).1,f.gen rfl Fr.refl λa m _=>⟨m.1.1,λz=>m.2 i d z.symm⟩⟩
def qw(h:TM X C S c t1)(A:SsM X C S S' Sb Sc sts s1)(v:SsM X C S S' Sb Sc stt s2):SM X C S S' Sb Sc (.If c sts stt pos) (sIf t1 s1 s2):=λg=>by
 obtain⟨F,r,n⟩:=h g;obtain⟨t,z,l⟩:=A g;obtain⟨u,E,y⟩:=v g;refine⟨_,HJ r z E,λB P H f d R D q=>n B P H f d R _ ?_⟩;unfold sIf at q;revert q;cases t1 d with
 |ok k=>
  intro q j s;cases k with
  |true=>exact Dh (l B P j f d (R.keep s) D q)
  |false=>exact Dg (y B P j f d (R.keep s) D q)
 |exc c fs=>exact id
 |wall=>exact id
def Rel.at2(R:Rel W B S P H σ ρ)(d:S[i]?=some 2)(e:ρ[i]?=some (some y)):σ[i]?=some (some (.ref (P i)))/\cP W (Mof B S P) H (P i) y/\i<ρ.length:=by obtain⟨v,f,c,_,_⟩:=R.var i y e;obtain⟨rfl,g⟩:=c d;exact⟨f,g,(R8.mp e).1⟩
def Mof.wr{W:RC}{B:Bs}{P:Se}{H:Hp}{σ:St}{ρ:Sto}{o:HO}(R:Rel W B S P H σ ρ)(c:S[i]?=some 2):Fr (Mof B S P) H (upd H (P i) o):=λa q e m=>by
 obtain⟨_,g,d,f⟩:=R.act i c;have:a≠P i:=λz=>by
  rcases m with m|m
  .exact m.2 i c z.symm
  .rw[z,d]at e;cases e;exact f m
 rw[zm this];exact e
def Dv(i:Nat)(m:ME):MS:=λc=>match c[i]? with
 |some (some (.l d))=>(m c).bind λy=>if d.length<sizeLine then .ok (.nx (c.set i (some (.l (d++[y])))))else .wall
 |_=>.wall
def Ur(I:PE X o (pH i))(h:EM X C S false e m)(l:S[i]?=some 2:=by rfl)(G:attributeBase o "append" X.env (eval o X.env)=eval o X.env:=by rfl)
  (L:((backTo p (starEach [e] X.env)).all (λx=>!x.1)&&(backToKw p (keywordEach [] X.env)).all (λx=>x.1.isSome)&&decide ([e].length+([]:List Keyword).length+(if([]:List Keyword).isEmpty then 0 else 1)<30))=true:=by rfl)
  (O:(jm.endLine==p.line)=true:=by rfl) (z:starEach [e] X.env=[(false,eval e X.env)]:=by rfl) (g:swapsWith (.Call (.Attribute o "append" jm) [e] [] p) none pos.line X.env=pure false:=by rfl):
  SM X C S S Sb Sc (.Expr (.Call (.Attribute o "append" jm) [e] [] p) pos) (Dv i m):=λN=>by
 obtain⟨T,M,K⟩:=h N;refine⟨_,Y6 (tR a00 a2O a2P Uc I (wY M Ws z) G L O z rfl) g,λB P H n j R D q=>?_⟩;unfold Dv at q;split at q
 .rename_i A F;obtain⟨d,⟨u,hp,E⟩,J⟩:=R.at2 l F;refine⟨_,d,.inl ⟨rfl,_,SqL.of hp⟩,K B P H n j R _ ?_⟩;revert q;cases m j with
  |ok y=>
   intro q v Q s r;have q:=q;split at q
   .rename_i hz;have R2:=R.keep s;refine⟨_,u,v,rfl,rfl,s _ _ hp,by rw[E.len];exact hz,q P _ n (R2.wr l J d (by exact id) ?_)⟩;have f:=Mof.wr (o:=.lst (u++[v])) R2 l;exact⟨_,zj,((E.same s).append (.cons r.rep .nil)).gen f λ_ m _=>m⟩
   .exact q.elim
  |exc c fs=>exact id
  |wall=>exact id
 .exact q.elim
def Lo(i:Nat)(m:ME):MS:=λc=>match c[i]? with
 |some (some (.l f))=>(m c).bind λy=>match y with
  |.l d=>if f.length+d.length<=sizeLine then .ok (.nx (c.set i (some (.l (f++d)))))else .wall
  |_=>.wall
 |_=>.wall
def uC(N:PE X o (pH i))(h:EM X C S w e m)(u:S[i]?=some 2:=by rfl)(M:attributeBase o "extend" X.env (eval o X.env)=eval o X.env:=by rfl)
  (T:((backTo p (starEach [e] X.env)).all (λx=>!x.1)&&(backToKw p (keywordEach [] X.env)).all (λx=>x.1.isSome)&&decide ([e].length+([]:List Keyword).length+(if([]:List Keyword).isEmpty then 0 else 1)<30))=true:=by rfl)
  (Z:(jm.endLine==p.line)=true:=by rfl) (E:starEach [e] X.env=[(false,eval e X.env)]:=by rfl) (g:swapsWith (.Call (.Attribute o "extend" jm) [e] [] p) none pos.line X.env=pure false:=by rfl):
  SM X C S S Sb Sc (.Expr (.Call (.Attribute o "extend" jm) [e] [] p) pos) (Lo i m):=λW=>by
 obtain⟨te,U,Q⟩:=h W;refine⟨_,Y6 (tR a00 PySem.F.slot_list_extend PySem.F.type_list_extend tT N (wY U Ws E) M T Z E rfl) g,λB P H z n R D q=>?_⟩;unfold Lo at q;split at q
 .rename_i G L;obtain⟨d,⟨A,hp,K⟩,O⟩:=R.at2 u L;refine⟨_,d,.inl ⟨rfl,_,SqL.of hp⟩,Q B P H z n R _ ?_⟩;revert q;cases m n with
  |ok y=>
   intro q v H2 s r;cases y with
   |l F=>
    have q:ZN C B S Sb Sc D (if `e+F.length<=sizeLine then .ok (.nx (n.set i (some (.l (G++F)))))else .wall):=q;split at q
    .rename_i hz;have R2:=R.keep s;obtain⟨Y,J,rfl,_,j,I⟩:=r;refine⟨_,Y,A,J,rfl,rfl,s _ _ hp,j,by rw[K.len,I.len];exact hz,q P _ z (R2.wr u O d (by exact id) ?_)⟩;have f:=Mof.wr (o:=.lst (A++J)) R2 u;exact⟨_,zj,((K.same s).append I).gen f λ_ m _=>m⟩
    .exact q.elim
   |_=>exact q.elim
  |exc c fs=>exact id
  |wall=>exact id
 .exact q.elim
def dput{d f:Type}[DecidableEq d](kvs:List (d×f))(k:d)(v:f):List (d×f):=
 if kvs.any (λc=>decide (c.1=k))=true then kvs.map (λc=>if c.1=k then(c.1,v)else c)else kvs++[(k,v)]
end
def jY.put(h:jY W M H a c)(j:Rep W M H x v):jY W M H (dput a k x) (putK c k v):=by
 have f:∀{a:Sr}{c:Sk},jY W M H a c->a.any (λb=>decide (b.1=k))=c.any (λb=>decide (b.1=k))/\jY W M H (a.map λb=>if b.1=k then(b.1,x)else b) (c.map λb=>if b.1=k then(b.1,v)else b)/\jY W M H (a++[(k,x)]) (c++[(k,v)]):=by
  intro a
  induction a with
  |nil=>intro c h;cases h;exact⟨rfl,rfl,v,[],rfl,j,rfl⟩
  |cons n a o=>
   intro c h;obtain⟨u,q,rfl,l,m⟩:=h;obtain⟨g,d,i⟩:=o m;refine⟨by rw[a0E,a0E,g],?_,⟨u,_,rfl,l,i⟩⟩;rw[T2,T2];by_cases e:n.1=k
   .rw[if_pos e,if_pos e];exact⟨v,_,rfl,j,d⟩
   .rw[if_neg e,if_neg e];exact⟨u,_,rfl,l,d⟩
 obtain⟨g,d,i⟩:=f h;unfold dput putK;rw[g];split
 .exact d
 .exact i
section
variable {X:Cx}{C:LC}{S Sb Sc:RW}{e a o:Sf}{es:Sd}{w:Bool}{m m1 m2:ME}{pos pos':Pos}{i:Nat}
def FC(i:Nat)(mk mv:ME):MS:=λd=>(mv d).bind λv=>match d[i]? with
 |some (some (.d c))=>(mk d).bind λy=>match pk y with
  |some k=>if c.length<sizeLine then .ok (.nx (d.set i (some (.d (dput c k v)))))else .wall
  |none=>.wall
 |_=>.wall
def Dw(J:X.A.units+1<cLine)(L:PE X o (pH i))(r:EM X C S w a m1)(W:EM X C S false e m2)(E:S[i]?=some 2:=by rfl)(Q:swapsWith e (some (.Subscript o a pos')) pos.line X.env=pure false:=by rfl):
  SM X C S S Sb Sc (.Assign [.Subscript o a pos'] e pos) (FC i m1 m2):=λF=>by
 obtain⟨ta,O,N⟩:=r F;obtain⟨tv,Z,K⟩:=W F;refine⟨_,iV J L O Z Q,λB P H n h R D q=>K B P H n h R _ ?_⟩;unfold FC at q;revert q;cases m2 h with
 |ok y=>
  intro q v T s U;have A:=R.keep s;have q:ZN C B S Sb Sc D (match h[i]? with
   |some (some (.d d))=>(m1 h).bind λz=>match pk z with
    |some k=>if d.length<sizeLine then .ok (.nx (h.set i (some (.d (dput d k y)))))else .wall
    |none=>.wall
   |_=>.wall):=q
  split at q
  .rename_i d I;obtain⟨j,⟨es,hp,G⟩,M⟩:=A.at2 E I;refine⟨_,j,N B P T n h A _ ?_⟩;revert q;cases m1 h with
   |ok z=>
    intro q u H2 g Y;have R2:=A.keep g;have q:ZN C B S Sb Sc D (match pk z with
     |some k=>if d.length<sizeLine then .ok (.nx (h.set i (some (.d (dput d k y)))))else .wall
     |none=>.wall):=q
    split at q
    .rename_i k r;split at q
     .rename_i hz;have l:=g _ _ hp;refine⟨_,_,rfl,by rw[V4 Y.weak r];exact Bd.k l (by rw[jY.len G];exact hz),q P _ n (R2.wr E M j (by exact id) ?_)⟩;have f:=Mof.wr (o:=.dK (putK es k v)) R2 E;exact⟨_,zj,((G.same g).put (U.rep.same g)).gen f λ_ m _=>m⟩
     .exact q.elim
    .exact q.elim
   |exc c fs=>exact id
   |wall=>exact id
  .exact q.elim
 |exc c fs=>exact id
 |wall=>exact id
def AQ(fs:Ss)(f:Str)(v:PV):List (Str×PV):=match fs with
 |[]=>[(f,v)]
 |c::r=>if c.1=f then(f,v)::r else c::AQ r f v
end
theorem vp.put{W:RC}{M:RY}{H:Hp}{f:Str}{x:PV}{v:V}(b:Rep W M H x v):∀{a:Ss}{c:Sy},vp W M H a c->vp W M H (AQ a f x) (KN f v c)
 |[],_,h=>by cases h;exact⟨v,[],rfl,b,rfl⟩
 |g::a,_,h=>by
  obtain⟨u,q,rfl,i,d⟩:=h;unfold AQ KN;by_cases e:g.1=f
  .rw[if_pos e,if_pos e,e];exact⟨v,q,rfl,b,d⟩
  .rw[if_neg e,if_neg e];exact⟨u,_,rfl,i,vp.put b d⟩
def vp.len(h:vp W M H a es):es.length=a.length:=by have:=a0K List.length (vp.iff.mp h).1;simpa using this
section
variable {X:Cx}{C:LC}{S S' S1 Sb Sc:RW}{e a b o:Sf}{es:Sd}{w:Bool}{m:ME}{pos p pos':Pos}{x:Str}{i:Nat}
def lz(i:Nat)(cs:RW)(f:Str)(m:ME):MS:=λd=>(m d).bind λv=>match d[i]? with
 |some (some (.o c fs))=>if c∈cs/\fs.length<1000 then .ok (.nx (d.set i (some (.o c (AQ fs f v)))))else .wall
 |_=>.wall
def uD(E:PE X o (pH i))(K:EM X C S false e m)(s:∀c∈cs,Cls X.K (C.W.cls c)/\vm X.K (C.W.cls c) fn)(n:S[i]?=some 2:=by rfl)(G:swapsWith e (some (.Attribute o fn pos')) pos.line X.env=pure false:=by rfl):
  SM X C S S Sb Sc (.Assign [.Attribute o fn pos'] e pos) (lz i cs fn m):=λI=>by
 obtain⟨M,L,A⟩:=K I;refine⟨_,C6 E L G,λB P H r g R D q=>A B P H r g R _ ?_⟩;unfold lz at q;revert q;cases m g with
 |ok y=>
  intro q v N h J;have l:=R.keep h;have q:ZN C B S Sb Sc D (match g[i]? with
   |some (some (.o c fs))=>if c∈cs/\fs.length<1000 then .ok (.nx (g.set i (some (.o c (AQ fs fn y)))))else .wall
   |_=>.wall):=q
  split at q
  .rename_i c fs z;split at q
   .rename_i hz;obtain⟨d,⟨j,es,hp,u⟩,F⟩:=l.at2 n z;refine⟨_,d,_,_,j,es,rfl,hp,(s c hz.1).1,(s c hz.1).2,by rw[u.len];exact hz.2,q P _ r (l.wr n F d (by exact id) ?_)⟩;have f:=Mof.wr (o:=.ins (C.W.cls c) j (KN fn v es)) l n;exact⟨j,_,zj,(vp.put J.rep u).gen f λ_ m _=>m⟩
   .exact q.elim
  .exact q.elim
 |exc c fs=>exact id
 |wall=>exact id
def Lp(i:Nat)(g:Tc)(m:ME):MS:=λc=>match c[i]? with
 |some (some x)=>(m c).bind λy=>(g x y).bind λz=>.ok (.nx (c.set i (some z)))
 |_=>.wall
def FD(N:X.N.Nodup)(K:X.N[i]?=some x)(j:Loc X.env.scope x)(h:EM X C S w e m)(E:PIp X op (ipI f))(g:S[i]?≠some 2/\S[i]?≠some 1:=by decide)(hf:X.fn x=true\/X.env.scope.names.lookup x=some .local:=by first|exact .inl rfl|exact .inr rfl|assumption):
  SM X C S (S.set i 0) Sb Sc (.AugAssign (.Name x pos') op e pos) (Lp i (pI λa b=>.i (f a b)) m):=λL=>by
 obtain⟨O,I,F⟩:=h L;refine⟨_,HP N K j I E hf,λB P H A d R D q=>?_⟩;unfold Lp at q;split at q
 .rename_i y G;obtain⟨v,M,_,_,n⟩:=R.var i y G;refine⟨v,M,F B P H A d R _ ?_⟩;have J:=n g.1 g.2;revert q;cases m d with
  |ok z=>
   intro q u l s r;have R2:=R.keep s;have q:=q;cases y with
   |i a=>
    cases z with
    |i b=>exact⟨a,b,J,r,q P l _ (R2.set rfl)⟩
    |_=>exact q.elim
   |_=>exact q.elim
  |exc c fs=>exact id
  |wall=>exact id
 .exact q.elim
abbrev MG:=PV->Sto->Option Sto
def LG(C:LC)(S S':RW)(g:TG)(j:MG):Prop:=∀B P H h f x v,Rel C.W B S P H h f->Rep C.W (Mof B S P) H x v->∀Q:St->Hp->Prop,(∃d,j x f=some d/\∀c,Rel C.W B S' P H c d->Q c H)->g v h H Q
def GM(X:Cx)(C:LC)(S S':RW)(d:Sf)(c:MG):Prop:=X.K=C.W.K->∃g,PG X d g/\LG C S S' g c
def gNm(i:Nat):MG:=λx c=>some (c.set i (some x))
def j6(d:X.N.Nodup)(f:X.N[i]?=some x)(c:Loc X.env.scope x)(hf:X.fn x=true\/X.env.scope.names.lookup x=some .local:=by first|exact .inl rfl|exact .inr rfl|assumption):GM X C S (S.set i 0) (.Name x pos) (gNm i):=
 λ_=>⟨_,sV d f c hf,λB P H j h x v R r Q ⟨g,e,k⟩=>by cases e;exact k _ (R.set r)⟩
abbrev MGs:=List PV->Sto->Option Sto
def LGs(C:LC)(S S':RW)(g:TGs)(n:MGs):Prop:=∀B P H j h l f,Rel C.W B S P H j h->yx C.W (Mof B S P) H l f->∀Q:St->Hp->Prop,(∃d,n l h=some d/\∀c,Rel C.W B S' P H c d->Q c H)->g f j H Q
def GsM(X:Cx)(C:LC)(S S':RW)(c:Sd)(d:MGs):Prop:=X.K=C.W.K->∃g,PGs X c g/\LGs C S S' g d
def rq:MGs:=λc d=>match c with
 |[]=>some d
 |_=>none
def wA(g:MG)(d:MGs):MGs:=λh f=>match h with
 |x::r=>(g x f).bind λc=>d r c
 |[]=>none
def fS:GsM X C S S [] rq:=λ_=>⟨_,EH,λB P H h g c f R r Q ⟨d,e,k⟩=>by
 cases c with
 |nil=>cases e;cases r;exact⟨rfl,k _ R⟩
 |cons x c=>cases e⟩
def Mof.le{B:Bs}{S S':RW}{P:Se}(h:∀j:Nat,S'[j]?=some 2->S[j]?=some 2){a:Addr}(m:Mof B S P a):Mof B S' P a:=⟨m.1,λj c=>m.2 j (h j c)⟩
def j7(M:GM X C S S1 e g)(G:GsM X C S1 S' es gs)(A:∀j:Nat,S1[j]?=some 2->S[j]?=some 2)(F:(assignEach (e::es) X.env).map (·.2)=assign e X.env::(assignEach es X.env).map (·.2):=by rfl):GsM X C S S' (e::es) (wA g gs):=λq=>by
 obtain⟨t,E,D⟩:=M q;obtain⟨u,J,y⟩:=G q;refine⟨_,A4 E J F,λB P H z l f N R r Q ⟨c,e,k⟩=>?_⟩;cases f with
 |nil=>cases e
 |cons x f=>
  obtain⟨v,s,rfl,I,L⟩:=r;have e:(g x l).bind (λc=>gs f c)=some c:=e;cases n:g x l with
  |none=>rw[n]at e;cases e
  |some d=>rw[n]at e;exact⟨v,s,rfl,D B P H z l x v R I _ ⟨d,n,λh K=>y B P H h d f s K (L.sub λa m _=>Mof.le A m) Q ⟨c,e,k⟩⟩⟩
def gTp(n:Nat)(f:MGs):MG:=λx d=>match x with
 |.t c=>if c.length=n then f c d else none
 |_=>none
def fT(A:X.calm=true)(h:GsM X C S S' es gs)(z:(assignEach es X.env).length=n:=by rfl)(g:(assignEach es X.env).findIdx? (·.1)=none:=by rfl):GM X C S S' (.Tuple es k pos) (gTp n gs):=λq=>by
 obtain⟨t,D,y⟩:=h q;refine⟨_,HK A D z g,λB P H u l x v R r Q ⟨c,e,k⟩=>?_⟩;cases x with
 |t d=>
  obtain⟨p,j,rfl,hp,s⟩:=r;have e:(if d.length=n then gs d l else none)=some c:=e;by_cases f:d.length=n
  .rw[if_pos f]at e;exact⟨p,j,rfl,q▸hp,by rw[s.len];exact f,y B P H u l d j R s Q ⟨c,e,k⟩⟩
  .rw[if_neg f]at e;cases e
 |_=>cases e
def NA(B:Bs)(S:RW)(P:Se):Addr->Prop:=λa=>¬B.xc a/\∀i,S[i]?=some 2->P i≠a
def FE(W:RC)(M N:RY)(f:Hp)(J:It)(xs:Sn):Prop:=∀d,Fr N f d->
 (∀i x,xs[i]?=some x->J.go i d/\∀v c,J.yld i d v c->zD d c/\∀g:Addr->Prop,(∀a,M a->f a≠none->g a)->Rep W g c x v)/\J.stop xs.length d
abbrev MI:=Sto->Out (List PV)
def NAc(c:Bool)(B:Bs)(S:RW)(P:Se):Addr->Prop:=if c=true then λ_=>True else NA B S P
def lA(C:LC)(B:Bs)(S:RW)(P:Se)(c:Bool)(H:Hp)(R:It->Hp->Prop):Out (List PV)->Prop
 |.ok f=>∀J d,zD H d->FE C.W (Mof B S P) (NAc c B S P) d J f->R J d
 |.exc c fs=>XPo C B c fs
 |.wall=>False
def LI(C:LC)(S:RW)(c:Bool)(g:TI)(mi:MI):Prop:=∀B P H f d,Rel C.W B S P H f d->∀R:It->Hp->Prop,lA C B S P c H R (mi d)->g f H R
def IM(X:Cx)(C:LC)(S:RW)(c:Bool)(g f:Sf)(mi:MI):Prop:=X.K=C.W.K->∃d,PI X g f d/\LI C S c d mi
def ZX(g:MG)(b:MS):List PV->Sto->Out Fw
 |[],h=>.ok (.nx h)
 |x::j,h=>(ZH (g x h)).bind λd=>(b d).bind λf=>match f with
  |.nx c=>ZX g b j c
  |.ct c=>ZX g b j c
  |.bk c=>.ok (.nx c)
  |.rt v=>.ok (.rt v)
def KU(mi:MI)(g:MG)(b:MS):MS:=λc=>(mi c).bind λd=>ZX g b d c
end
open Classical in
def Bs.loop(B:Bs)(S:RW)(P:Se)(H:Hp)(hz:∀a,B.N0 a->(¬((∃i,S[i]?=some 2/\P i=a)\/B.xc a))/\H a≠none):Bs where
 H0:=λa=>if(∃i,S[i]?=some 2/\P i=a)\/B.xc a then none else H a
 M0:=B.Mt
 N0:=B.N0
 nz:=λa h=>by rw[if_neg (hz a h).1];exact(hz a h).2
 pin:=B.pin
 xc:=B.xc
section
variable {W:RC}{B:Bs}{S S':RW}{P P':Se}{H H':Hp}{σ σ':St}{ρ ρ':Sto}
def Rel.hz(R:Rel W B S P H σ ρ):∀a,B.N0 a->(¬((∃i,S[i]?=some 2/\P i=a)\/B.xc a))/\H a≠none:=λa h=>by
 have b:=B.nz a h;refine⟨λz=>z.elim (λ⟨i,c,e⟩=>b (e▸(R.act i c).1)) (λz=>b (R.exc a z).choose_spec.2.2),λz=>?_⟩;cases q:B.H0 a with
 |none=>exact b q
 |some o=>rw[R.same a o q]at z;cases z
def KW(R:Rel W B S P H σ ρ)(h:(B.loop S P H R.hz).H0 a=none):B.H0 a=none:=by
 cases q:B.H0 a with
 |none=>rfl
 |some o=>have n:¬((∃i,S[i]?=some 2/\P i=a)\/B.xc a):=λz=>z.elim (λ⟨i,b,e⟩=>by rw[<- e,(R.act i b).1]at q;cases q) (λz=>by rw[(R.exc a z).choose_spec.2.2]at q;cases q);unfold Bs.loop at h;dsimp only at h;rw[if_neg n,R.same a o q]at h;cases h
def Us(R:Rel W B S P H σ ρ):zD B.H0 (B.loop S P H R.hz).H0:=λa o h=>by have n:¬((∃i,S[i]?=some 2/\P i=a)\/B.xc a):=λz=>z.elim (λ⟨i,b,e⟩=>by rw[<- e,(R.act i b).1]at h;cases h) (λz=>by rw[(R.exc a z).choose_spec.2.2]at h;cases h);unfold Bs.loop;dsimp only;rw[if_neg n];exact R.same a o h
def cT(R:Rel W B S P H σ ρ)(h:(B.loop S P H R.hz).Mt a):B.Mt a:=h.elim id λz=>.inr (KW R z)
def Rel.loop(R:Rel W B S P H σ ρ):Rel W (B.loop S P H R.hz) S P H σ ρ:=by
 have sM:∀a,Mof B S P a->H a≠none->Mof (B.loop S P H R.hz) S P a:=λa m _=>⟨⟨.inl m.1.1,m.1.2⟩,m.2⟩;refine⟨λa o h=>?_,R.len,λi x e=>?_,λi c=>⟨?_,(R.act i c).2⟩,R.inj,R.pin,λa h=>?_,R.axc⟩
 .unfold Bs.loop at h;dsimp only at h;split at h
  .cases h
  .exact h
 .obtain⟨v,g,b,d,f⟩:=R.var i x e;exact⟨v,g,λz=>⟨(b z).1,(b z).2.gen rfl Fr.refl sM⟩,λz=>(d z).sub (λ_ m _=>m) sM,λz j=>(f z j).sub sM⟩
 .unfold Bs.loop;dsimp only;rw[if_pos (.inl ⟨i,c,rfl⟩)]
 .obtain⟨o,e,n,_⟩:=R.exc a h;exact⟨o,e,n,by unfold Bs.loop;dsimp only;rw[if_pos (.inr h)]⟩
def Rel.Dx(R:Rel W B S P H σ ρ)(b:Rel W (B.loop S P H R.hz) S' P' H' σ' ρ'):Rel W B S' P' H' σ' ρ':=by have sM:∀a,Mof (B.loop S P H R.hz) S' P' a->H' a≠none->Mof B S' P' a:=λa m _=>⟨⟨cT R m.1.1,m.1.2⟩,m.2⟩;refine⟨(Us R).trans b.same,b.len,λi x e=>?_,λi d=>⟨KW R (b.act i d).1,(b.act i d).2⟩,b.inj,b.pin,λa h=>let⟨o,e,n⟩:=b.exc a h;⟨o,e,n.1,KW R n.2⟩,b.axc⟩;obtain⟨v,j,c,f,g⟩:=b.var i x e;exact⟨v,j,λz=>⟨(c z).1,(c z).2.gen rfl Fr.refl sM⟩,λz=>(f z).sub (λ_ m _=>m) sM,λz l=>(g z l).sub sM⟩
def FF(R:Rel W B S P H σ ρ)(s:zD (B.loop S P H R.hz).H0 H'):Fr (NA B S P) H H':=λa o h m=>by
 have n:¬((∃i,S[i]?=some 2/\P i=a)\/B.xc a):=λz=>by
  rcases z with⟨i,d,e⟩|z
  .rcases m with m|m
   .exact m.2 i d e
   .obtain⟨_,f,b,c⟩:=R.act i d;rw[e,h]at b;cases b;exact c m
  .rcases m with m|m
   .exact m.1 z
   .obtain⟨f,b,c,_⟩:=R.exc a z;rw[h]at b;cases b;exact c m
 refine s a o ?_;unfold Bs.loop;dsimp only;rw[if_neg n];exact h
def BF(j:C.W=W)(R:Rel W B S P H σ ρ)(q:XPo C B c fs):XPo C (B.loop S P H R.hz) c fs:=λe f d b s i g h=>q e f d b ((Us R).trans s) i g (h.sub λa m _=>cT R m)
def FG(b:C.W=W)(R:Rel W B S P H σ ρ)(h:Dt C (B.loop S P H R.hz) H' x v):Dt C B H' x v:=by
 unfold Dt at h ⊢;by_cases f:C.fr=true
 .rw[if_pos f]at h ⊢;obtain⟨p,e,hp,r⟩:=h;exact⟨p,e,KW R hp,r.gen rfl Fr.refl λa m _=>⟨cT R m.1,m.2⟩⟩
 .rw[if_neg f]at h ⊢;exact h.sub λa m _=>cT R m
end
section
variable {X:Cx}{C:LC}{S S1 Sb Sc:RW}{pos:Pos}
def BG(hi:∀R:It->Hp->Prop,lA C B S P false H R (mi ρ)->wi σ H R)(hg:LG C S S1 g mg)(hb:LS C S1 S S S tb mb)(R:Rel C.W B S P H σ ρ)(D:Ends)(q:ZN C B S Sb Sc D (KU mi mg mb ρ)):NC wi g tb D σ H:=by
 refine hi _ ?_;unfold KU at q;revert q;cases mi ρ with
 |exc c fs=>exact id
 |wall=>exact id
 |ok o=>
  intro q J O s2 io;have R2:=R.keep s2;have q:=q;refine⟨λi n s M=>n=o.length-i/\i<=o.length/\∃l u,Rel C.W (B.loop S P O R2.hz) S u M s l/\ZN C B S Sb Sc D (ZX mg mb (o.drop i) l),⟨_,rfl,a0A _,ρ,P,R2.loop,q⟩,?_⟩
  rintro i n s M ⟨rfl,Y,l,u,N,d⟩
  have L:=io M (FF R2 N.same);by_cases r:i<o.length
  .have T:=S6 r;obtain⟨go,U⟩:=L.1 i _ T;refine .inr ⟨go,λI F=>i+1<=o.length/\∃l u,Rel C.W (B.loop S P O R2.hz) S u F I l/\ZN C B S Sb Sc D (ZX mg mb (o.drop (i+1)) l),λI F h=>⟨o.length-(i+1),`d,rfl,h.1,h.2⟩,λv A hy=>?_⟩;obtain⟨W,ry⟩:=U v A hy;have Ry:=N.keep W;have rx:=ry (Mof (B.loop S P O R2.hz) S u) λa m hn=>⟨⟨.inl m.1.1,m.1.2⟩,λj hj e=>by
    have z:=(N.act j hj).1;rw[e]at z;unfold Bs.loop at z;dsimp only at z;rw[if_neg (λz=>z.elim (λ⟨k,hk,Z⟩=>m.2 k hk Z) m.1.2)]at z;exact hn z⟩
   rw[a1i r]at d;have d:ZN C B S Sb Sc D ((ZH (mg o[i] l)).bind λp=>(mb p).bind λf=>match f with
    |.nx b=>ZX mg mb (o.drop (i+1)) b
    |.ct b=>ZX mg mb (o.drop (i+1)) b
    |.bk b=>.ok (.nx b)
    |.rt v=>.ok (.rt v)):=d
   cases w:mg o[i] l with
   |none=>rw[w]at d;exact d.elim
   |some p=>
    rw[w]at d;refine hg _ u A s l _ v Ry rx _ ⟨p,w,λQ R1=>hb _ u A Q p R1 _ ?_⟩;have d:ZN C B S Sb Sc D ((mb p).bind λf=>match f with
     |.nx b=>ZX mg mb (o.drop (i+1)) b
     |.ct b=>ZX mg mb (o.drop (i+1)) b
     |.bk b=>.ok (.nx b)
     |.rt v=>.ok (.rt v)):=d
    revert d;cases mb p with
    |exc c fs=>exact λd=>BF rfl R2 d
    |wall=>exact id
    |ok f=>
     cases f with
     |nx b=>exact λd G E y K=>⟨r,b,G,K,d⟩
     |ct b=>exact λd G E y K=>⟨r,b,G,K,d⟩
     |bk b=>exact λd G E y K=>d G E y (R2.Dx K)
     |rt x=>exact λd v E s3 h3=>d v E ((Us R2).trans s3) (FG rfl R2 h3)
  .have e:i=o.length:=`d
   subst e;rw[a18]at d;exact .inl ⟨L.2,d u M s (R2.Dx N)⟩
def Lq(c:LI C S false wi mi)(a:LG C S S1 g mg)(d:LS C S1 S S S tb mb):LS C S S Sb Sc (NC wi g tb) (KU mi mg mb):=λB P H e b R D q=>BG (c B P H e b R) a d R D q
def jt(hp:PassesOwn (Ts X) X.A X.env X.xe)(m:X.calm=true)(j:IM X C S false tg qI mi)(f:GM X C S S1 tg mg)(l:SsM X C S1 S S S body mb)(d:∀x,foldedSetIterable qI X.env x=pure x:=by intro _;rfl):
  SM X C S S Sb Sc (.For tg qI body [] pos) (KU mi mg mb):=λa=>by
 obtain⟨o,b,c⟩:=j a;obtain⟨g,i,e⟩:=f a;obtain⟨tb,h,n⟩:=l a;exact⟨_,s_ hp m b i h d,Lq c e n⟩
def j3(c:MT)(b:MS):Nat->Sto->Out Fw
 |0,_=>.wall
 |n+1,d=>(c d).bind λt=>if t=true then(b d).bind λf=>match f with
   |.nx a=>j3 c b n a
   |.ct a=>j3 c b n a
   |.bk a=>.ok (.nx a)
   |.rt v=>.ok (.rt v)
  else .ok (.nx d)
open Classical in
def bK(c:MT)(b:MS):MS:=λa=>if h:∃n,j3 c b n a≠.wall then j3 c b (choose h) a else .wall
def BH(A:LT C S tc c)(z:LS C S S S S tb b):LS C S S Sb Sc (C3 tc tb) (bK c b):=λB P H F E R D q=>by
 unfold bK at q;split at q
 .rename_i h;generalize Classical.choose h=n0 at q;refine⟨λn g m=>∃a i,Rel C.W B S i m g a/\ZN C B S Sb Sc D (j3 c b n a),⟨n0,E,P,R,q⟩,?_⟩
  rintro n g m ⟨a,i,r,e⟩
  cases n with
  |zero=>exact e.elim
  |succ n=>
   refine A B i m g a r _ ?_;unfold j3 at e;revert e;cases c a with
   |exc c fs=>exact id
   |wall=>exact id
   |ok k=>
    intro e w u;cases k with
    |false=>exact Dg (e i w g (r.keep u))
    |true=>
     refine Dh ⟨λj s=>∃a i,Rel C.W B S i s j a/\ZN C B S Sb Sc D (j3 c b n a),λj s h=>⟨n,a0L n,h⟩,z B i w g a (r.keep u) _ ?_⟩;have e:ZN C B S Sb Sc D ((b a).bind λf=>match f with
      |.nx d=>j3 c b n d
      |.ct d=>j3 c b n d
      |.bk d=>.ok (.nx d)
      |.rt v=>.ok (.rt v)):=e
     revert e;cases b a with
     |exc c fs=>exact id
     |wall=>exact id
     |ok f=>
      cases f with
      |nx d=>exact λe l y o p=>⟨d,l,p,e⟩
      |ct d=>exact λe l y o p=>⟨d,l,p,e⟩
      |bk d=>exact λe=>e
      |rt x=>exact λe=>e
 .exact q.elim
def BI(hp:PassesOwn (Ts X) X.A X.env X.xe)(f:TM X C S c mc)(e:SsM X C S S S S body mb):SM X C S S Sb Sc (.While c body [] pos) (bK mc mb):=λa=>by obtain⟨i,b,d⟩:=f a;obtain⟨tb,g,h⟩:=e a;exact⟨_,A5 hp b g,BH d h⟩
end
def LEn(C:LC)(S:RW)(d:TE)(m:ME):Prop:=∀B P H b a,Rel C.W B S P H b a->∀Q,ya C B H (λc=>qb C.W (NA B S P) (Mof B S P) c) Q (m a)->d b H Q
def EN(X:Cx)(C:LC)(S:RW)(e:Sf)(m:ME):Prop:=X.K=C.W.K->∃a,PE X e a/\LEn C S a m
section
variable {X:Cx}{C:LC}{S:RW}{e a b o tg:Sf}{w:Bool}{ws:R_}{m:ME}{ms:MA}{s1:MS}{pos p:Pos}{x:Str}{i:Nat}
def Mof.na{B:Bs}{P:Se}{a:Addr}(m:Mof B S P a):NA B S P a:=⟨m.1.2,m.2⟩
def EM.en(h:EM X C S false e m):EN X C S e m:=λj=>by obtain⟨n,c,d⟩:=h j;exact⟨n,c,λB P H l g R Q q=>d B P H l g R Q (Y9 q λx v r s f=>qb.sub f (λa m _=>Mof.na m) λ_ m _=>m)⟩
def ZO(h:PE X e (pH i))(f:S[i]?=some 1:=by rfl):EN X C S e (zc i):=λ_=>⟨_,h,λB P H s y R Q q=>lv R q λx v r e=>by
 obtain⟨u,c,_,g,_⟩:=R.var i x e;rw[r]at c;cases c;refine qb.sub (g f) (λa n _=>?_) λ_ m _=>m;have d:=B.nz a n;exact⟨λz=>d (R.exc a z).choose_spec.2.2,λj l e=>d (e▸(R.act j l).1)⟩⟩
def PC(K:Sx)(f:TE):TI:=λg H R=>f g H λx c=>(∃a,x=.ref a/\(∃d,SqL K c a d)/\R (Itl K a) c)\/∃a,x=.ref a/\(∃d,SqT K c a d)/\R (Itt K a) c
def uE(y:PE X l tl):PI X tg l (PC X.K tl):=by
 intro d s u H R I h;refine thn (y d s u H _ I h) λv s1 ⟨x,r,c,n,z⟩=>?_;rcases z with⟨a,e,⟨B,j⟩,q⟩|⟨a,e,⟨B,j⟩,q⟩
 .subst e;cases n;obtain⟨f,A,p,hz⟩:=c.list j;refine a12 p.isList ?_;refine⟨s1.heap.objs.size,[s1.heap.objs.size],_,_,r,rfl,c.kept λb o e=>S4 _ e,sX a _,⟨_,a0k _ rfl,rfl,rfl⟩,λb g=>?_,q⟩;have e:=by simpa using g
  subst e;exact c.Hi (S0 _) (c.hok.fresh (S0 _))
 .subst e;cases n;obtain⟨f,A,p,hz⟩:=c.tuple j;refine wpAny_pyIter_tuple p ?_;refine⟨s1.heap.objs.size,[s1.heap.objs.size],_,_,r,rfl,c.kept λb o e=>S4 _ e,pK a _,⟨_,a0k _ rfl,rfl,rfl⟩,λb g=>?_,q⟩;have e:=by simpa using g
  subst e;exact c.Hi (S0 _) (c.hok.fresh (S0 _))
def uF{W:RC}{K:Sx}{M N:RY}{d:Hp}{a:Addr}{xs:Sn}{vs:Sh}(g:∀a,M a->N a)(h:∀c,Fr N d c->SqL K c a vs)(r:yx W M d xs vs):FE W M N d (Itl K a) xs:=λc f=>by refine⟨λi x l=>?_,vs,h c f,by rw[r.len];exact S0 _⟩;obtain⟨v,j,u⟩:=r.get l;refine⟨⟨vs,v,h c f,j⟩,λz q s=>?_⟩;obtain⟨rfl,y⟩:=s;have:=y vs (h _ f);rw[j]at this;cases this;exact⟨zD.refl _,λA sM=>Rep.gen (λa o h m=>f a o h (m.imp (g a) id)) (λa m n=>sM a m n) u⟩
def Lr{W:RC}{K:Sx}{M N:RY}{d:Hp}{a:Addr}{xs:Sn}{vs:Sh}(g:∀a,M a->N a)(h:∀c,Fr N d c->SqT K c a vs)(r:yx W M d xs vs):FE W M N d (Itt K a) xs:=λc f=>by refine⟨λi x l=>?_,vs,h c f,by rw[r.len];exact S0 _⟩;obtain⟨v,j,u⟩:=r.get l;refine⟨⟨vs,v,h c f,j⟩,λz q s=>?_⟩;obtain⟨rfl,y⟩:=s;have:=y vs (h _ f);rw[j]at this;cases this;exact⟨zD.refl _,λA sM=>Rep.gen (λa o h m=>f a o h (m.imp (g a) id)) (λa m n=>sM a m n) u⟩
def items:PV->Out (List PV)
 |.l c=>.ok c
 |.t c=>.ok c
 |.sc d=>.ok (d.map PV.i)
 |_=>.wall
def ye(m:ME):MI:=λc=>(m c).bind items
variable {cc:Bool}
def Mof.nac{B:Bs}{P:Se}{a:Addr}(m:Mof B S P a):NAc cc B S P a:=by
 unfold NAc;cases cc with
 |true=>trivial
 |false=>exact Mof.na m
def uG(A:X.K=C.W.K)(D:∀B P H h g,Rel C.W B S P H h g->∀Q,ya C B H (λd=>qb C.W (NAc cc B S P) (Mof B S P) d) Q (m g)->te h H Q):LI C S cc (PC X.K te) (ye m):=λB P H h g R Q q=>by
 refine D B P H h g R _ ?_;unfold ye at q;revert q;cases m g with
 |exc c fs=>exact id
 |wall=>exact id
 |ok y=>
  intro q v d s r;cases y with
  |l F=>obtain⟨p,j,rfl,n,hp,u⟩:=r;exact .inl ⟨p,rfl,⟨j,SqL.of hp⟩,q _ d s (uF (λa m=>Mof.nac m) (λz f=>SqL.of (f _ _ hp (.inl n))) u)⟩
  |t F=>obtain⟨p,j,rfl,hp,u⟩:=r;rw[<- A]at hp;exact .inr ⟨p,rfl,⟨j,hp⟩,q _ d s (Lr (λa m=>Mof.nac m) (λz f=>f.sqT hp) u)⟩
  |sc E=>obtain⟨p,rfl,hp⟩:=r;rw[<- A]at hp;exact .inl ⟨p,rfl,⟨_,hp.sq⟩,q _ d s (uF (λa m=>Mof.nac m) (λz f=>(hp.frame f).sq) yx.ints)⟩
  |_=>exact q.elim
def wB(h:EN X C S e m):IM X C S false tg e (ye m):=λc=>by obtain⟨g,d,f⟩:=h c;exact⟨_,uE d,uG c f⟩
def Z5(h:EM X C S w e m):IM X C S true tg e (ye m):=λc=>by obtain⟨n,d,f⟩:=h c;exact⟨_,uE d,uG c λB P H j g R Q q=>f B P H j g R Q (Y9 q λx v l s r=>r.weak)⟩
def aJ(c:Int)(n:Nat):List PV:=(List.range n).map λk=>.i (c+(k:Nat))
def FH{g:Int}{n i:Nat}{x:PV}(h:(aJ g n)[i]?=some x):i<n/\x=.i (g+i):=by unfold aJ at h;rw[a0d]at h;obtain⟨k,f,rfl⟩:=v0.mp h;rw[R8]at f;obtain⟨d,c⟩:=f;rw[a0v]at d;rw[a0P]at c;subst c;exact⟨d,rfl⟩
def FI{c:Int}{n:Nat}:(aJ c n).length=n:=by unfold aJ;rw[f8,a0v]
def Ls{W:RC}{M N:RY}{g:Hp}{c:Int}{n:Nat}:FE W M N g (Itr c n) (aJ c n):=λq f=>by refine⟨λi x d=>?_,by rw[FI];exact S0 _⟩;obtain⟨j,rfl⟩:=FH d;refine⟨j,λv h l=>?_⟩;obtain⟨rfl,rfl⟩:=l;exact⟨zD.refl _,λ_ _=>rfl⟩
def uH:List PV->Out (List PV)
 |[.i n]=>if -(2 ^ 62)<=n/\n<2 ^ 62 then .ok (aJ 0 n.toNat)else .wall
 |_=>.wall
def Xe(ms:MA):MI:=λc=>(ms c).bind uH
def V6(F:Gl X "range")(j:X.mg "range"=none)(n:AM X C S ws [a] ms)(A:starEach [a] X.env=[(false,eval a X.env)]:=by rfl):IM X C S cc tg (.Call (.Name "range" p) [a] [] pos) (Xe ms):=λD=>by
 obtain⟨I,z,y⟩:=n D;refine⟨_,sY F j z A,λB P H u f R Q q=>y B P H u f R _ ?_⟩;unfold Xe at q;revert q;cases ms f with
 |exc c fs=>exact id
 |wall=>exact id
 |ok E=>
  intro q G h s r;have r:=r.weak;have q:lA C B S P cc H Q (uH E):=q;unfold uH at q;split at q
  .split at q
   .rename_i d;obtain⟨v,J,rfl,g,l⟩:=r;cases l;cases g;exact⟨_,rfl,d.1,d.2,q _ h s Ls⟩
   .exact q.elim
  .exact q.elim
end
def noX{a:Type}:Out a->Out a
 |.exc _ _=>.wall
 |o=>o
def lcP(g:MG)(c:MT)(e:ME):List PV->Sto->List PV->Out PV
 |[],_,a=>.ok (.l a)
 |x::d,f,a=>(ZH (g x f)).bind λb=>(noX (c b)).bind λt=>if t=true then(noX (e b)).bind λy=>if a.length<sizeLine then lcP g c e d b (a++[y])else .wall else lcP g c e d b a
def cU(ρ:Sto)(fr:Sm):Sto:=fr.map λo=>match o with|none=>none|some j=>(ρ[j]?).join
def mLC(mi:MI)(fr:Sm)(g:MG)(c:MT)(e:ME):ME:=λa=>(mi a).bind λb=>lcP g c e b (cU a fr) []
def lB:MT:=λ_=>.ok true
def inS(S:RW)(fr:Sm):List Nat:=fr.map λo=>match o with|none=>0|some j=>if S[j]?=some 2\/S[j]?=some 1 then 1 else 0
def lcB(B:Bs)(S:RW)(P:Se)(H:Hp)(acc:Addr):Bs:=⟨H,Mof B S P,λa=>H a≠none,λ_ h=>h,none,λa=>a=acc⟩
def lC{S:RW}{fr:Sm}{k c:Nat}(h:(inS S fr)[k]?=some c):c≠2:=by
 unfold inS at h;rw[a0d]at h;obtain⟨o,a,e⟩:=v0.mp h;intro z;rw[z]at e;cases o with
 |none=>cases e
 |some j=>dsimp only at e;split at e<;>cases e
section
variable {X:Cx}{C:LC}{S S1 Sb Sc:RW}{e a o qI tg elt:Sf}{ifs:Sd}{w:Bool}{m me:ME}{mc:MT}{mg:MG}{mi:MI}{s1:MS}{pos:Pos}{x:Str}{i:Nat}{scope:Scope}
def Rel.comp{W:RC}{B:Bs}{P:Se}{H H':Hp}{σ:St}{ρ:Sto}{acc:Addr}{fr:Sm}{ys:Sh}(R:Rel W B S P H σ ρ)(r:H acc=none)(s:zD H H')(E:H' acc=some (.lst ys)):Rel W (lcB B S P H acc) (inS S fr) (λ_=>0) H' (AO σ fr) (cU ρ fr):=by
 have f:∀{k:Nat},(inS S fr)[k]?=some 2->False:=λ{k} h=>lC h rfl;have sM:∀a,Mof B S P a->H a≠none->Mof (lcB B S P H acc) (inS S fr) (λ_=>0) a:=λa m n=>⟨⟨.inl m,λz=>n (z▸r)⟩,λi d=>(f d).elim⟩;refine⟨s,by unfold AO cU;rw[f8,f8],λk x e=>?_,λi d=>(f d).elim,λi j d=>(f d).elim,λd=>(f d).elim,λa h=>?_,λi d=>(f d).elim⟩
 .unfold cU at e;rw[a0d]at e;obtain⟨o,u,e⟩:=v0.mp e;cases o with
  |none=>cases e
  |some j=>
   have e:(ρ[j]?).join=some x:=e;have K:ρ[j]?=some (some x):=by
    cases q:ρ[j]? with
    |none=>rw[q]at e;cases e
    |some z=>rw[q]at e;cases z with
     |none=>cases e
     |some z=>cases e;rfl
   obtain⟨v,L,I,J,D⟩:=R.var j x K;have y:(inS S fr)[k]?=some (if S[j]?=some 2\/S[j]?=some 1 then 1 else 0):=by unfold inS;rw[a0d,u];rfl
   refine⟨v,by unfold AO;rw[a0d,u];show some ((σ[j]?).join)=_;rw[L];rfl,λz=>(f z).elim,λz=>?_,λz g=>?_⟩
   .rw[y]at z;by_cases l:S[j]?=some 2
    .obtain⟨rfl,G⟩:=I l;obtain⟨_,o,F,_⟩:=R.act j l;exact((G.Ow (N:=λa=>H a≠none) `c).sub (λ_ m _=>m) sM).same s
    .by_cases A:S[j]?=some 1
     .exact((J A).sub (λa n q=>(R.hz a n).2) sM).same s
     .rw[if_neg `c]at z;cases z
   .rw[y]at g;by_cases c:S[j]?=some 2\/S[j]?=some 1
    .rw[if_pos c]at g;exact absurd rfl g
    .exact((D (λq=>c (.inl q)) (λq=>c (.inr q))).sub sM).same s
 .cases h;exact⟨_,E,id,r⟩
def TsM(X:Cx)(C:LC)(S:RW)(ifs:Sd)(m:MT):Prop:=X.K=C.W.K->∃c,PTs X ifs c/\LT C S c m
def Y_:TsM X C S [] lB:=λ_=>⟨_,Fh,λB P H d c R Q q=>q H (zD.refl _)⟩
def cV{j:Type}{Y:j->Cx}(h:∀z,EM (Y z) C S w e m)(f:∀z,(Y z).K=C.W.K):∃g,(∀z,PE (Y z) e g)/\LE C S w g m:=
 ⟨λd H Q=>∀z,(Classical.choose (h z (f z))) d H Q,λz c s d H Q I q=>(a0p (h z (f z))).1 c s d H Q I (q z),λB P H d l R Q q z=>(a0p (h z (f z))).2 B P H d l R Q q⟩
def V7{j:Type}{Y:j->Cx}(h:∀z,TsM (Y z) C S ifs mc)(f:∀z,(Y z).K=C.W.K):∃g,(∀z,PTs (Y z) ifs g)/\LT C S g mc:=
 ⟨λd H Q=>∀z,(Classical.choose (h z (f z))) d H Q,λz c s d H Q I q=>(a0p (h z (f z))).1 c s d H Q I (q z),λB P H d l R Q q z=>(a0p (h z (f z))).2 B P H d l R Q q⟩
def V8{j:Type}{Y:j->Cx}(h:∀z,GM (Y z) C S S1 tg mg)(f:∀z,(Y z).K=C.W.K):∃g,(∀z,PG (Y z) tg g)/\LG C S S1 g mg:=
 ⟨λv d H Q=>∀z,(Classical.choose (h z (f z))) v d H Q,λz c s d H v u Q I r q=>(a0p (h z (f z))).1 c s d H v u Q I r (q z),λB P H d l x v R r Q q z=>(a0p (h z (f z))).2 B P H d l x v R r Q q⟩
def FJ{wi:TI}{g:TG}{tc:TT}{te:TE}{fr:Sm}{Si:RW}{W:RC}{B:Bs}{P:Se}{H:Hp}{σ:St}{ρ:Sto}(hi:∀R:It->Hp->Prop,lA C B S P true H R (mi ρ)->wi σ H R)(hW:W=C.W)(hS:Si=inS S fr)(hg:LG ⟨W,E0,false⟩ Si Si g mg)(ht:LT ⟨W,E0,false⟩ Si tc mc)(he:LE ⟨W,E0,false⟩ Si false te me)(R:Rel C.W B S P H σ ρ)(Q:VK)(q:ya C B H (RFr C.W (Mof B S P) H) Q (mLC mi fr mg mc me ρ)):tLC wi g tc te fr σ H Q:=by
 subst hW hS;refine hi _ ?_;unfold mLC at q;revert q;cases mi ρ with
 |exc c fs=>exact id
 |wall=>exact id
 |ok s=>
  intro q J I s1 io d ha;have R1:=R.keep s1;have q:=q;have sM:∀a,Mof (lcB B S P I d) (inS S fr) (λ_=>0) a->Mof B S P a/\a≠d:=λa m=>⟨m.1.1.elim id λn=>R1.new a n,m.1.2⟩;refine⟨λi n M O=>n=s.length-i/\i<=s.length/\∃r A D,Rel C.W (lcB B S P I d) (inS S fr) (λ_=>0) O M r/\O d=some (.lst D)/\yx C.W (Mof (lcB B S P I d) (inS S fr) (λ_=>0)) O A D/\ya C B H (RFr C.W (Mof B S P) H) Q (lcP mg mc me (s.drop i) r A),
   ⟨_,rfl,a0A _,cU ρ fr,[],[],R1.comp ha (zD.upd ha) zj,zj,rfl,q⟩,?_⟩
  rintro i n M O ⟨rfl,hle,r,A,D,R',K,rys,l⟩
  have Z:=io O (zD.fr R'.same);by_cases G:i<s.length
  .have hx:=S6 G;obtain⟨go,yl⟩:=Z.1 i _ hx;refine .inr ⟨go,λY F=>i+1<=s.length/\∃r A D,Rel C.W (lcB B S P I d) (inS S fr) (λ_=>0) F Y r/\F d=some (.lst D)/\yx C.W (Mof (lcB B S P I d) (inS S fr) (λ_=>0)) F A D/\ya C B H (RFr C.W (Mof B S P) H) Q (lcP mg mc me (s.drop (i+1)) r A),λY F h=>⟨s.length-(i+1),`d,rfl,h.1,h.2⟩,λv N hy=>?_⟩;obtain⟨sy,ry⟩:=yl v N hy;have Ry:=R'.keep sy;have rx:=ry (Mof (lcB B S P I d) (inS S fr) (λ_=>0)) λa m hn=>⟨⟨.inl m,λz=>hn (z▸ha)⟩,λj hj=>(lC hj rfl).elim⟩;rw[a1i G]at l;unfold lcP at l;cases L:mg s[i] r with
   |none=>rw[L]at l;exact l.elim
   |some f=>
    rw[L]at l;refine hg _ _ N M r _ v Ry rx _ ⟨f,L,λT U=>ht _ _ N T f U _ ?_⟩;have l:ya C B H (RFr C.W (Mof B S P) H) Q ((noX (mc f)).bind λt=>if t=true then(noX (me f)).bind λy=>if A.length<sizeLine then lcP mg mc me (s.drop (i+1)) f (A++[y])else .wall else lcP mg mc me (s.drop (i+1)) f A):=l;revert l;cases mc f with
    |exc c fs=>exact λl=>l.elim
    |wall=>exact id
    |ok t=>
     intro l H5 s5;have R5:=U.keep s5;have u:=s5 _ _ (sy _ _ K);have E:=(rys.same sy).same s5;cases t with
     |false=>exact Dg ⟨G,f,A,D,R5,u,E,l⟩
     |true=>
      refine Dh (he _ _ H5 T f R5 _ ?_);have l:=l;revert l;cases me f with
      |exc c fs=>exact λl=>l.elim
      |wall=>exact id
      |ok y=>
       intro l v6 H6 s6 r6;have l:=l;split at l
       .rename_i hz;have R6:=R5.keep s6;have fr6:Fr (Mof (lcB B S P I d) (inS S fr) (λ_=>0)) H6 (upd H6 d (.lst (D++[v6]))):=λa o h m=>by
         have:a≠d:=λz=>by
          rcases m with m|m
          .exact m.1.2 z
          .rw[z,s6 _ _ u]at h;cases h;exact m
         rw[zm this];exact h
        exact⟨D,s6 _ _ u,by rw[E.len];exact hz,G,f,A++[y],D++[v6],R6.wrx (show(lcB B S P I d).xc d from rfl) (by exact id),zj,((E.same s6).append (.cons r6.rep .nil)).gen fr6 λ_ m _=>m,l⟩
       .exact l.elim
  .have e:i=s.length:=`d
   subst e;rw[a18]at l;exact .inl ⟨Z.2,l _ O (s1.trans R'.same) ⟨d,rfl,zD.none s1 ha,D,K,rys.sub λa m _=>sM a m⟩⟩
def BJ{f:TI}{g:TG}{d:TT}{h:TE}{fr:Sm}{c:RW}{W:RC}(u:LI C S true f mi)(l:W=C.W)(j:c=inS S fr)(r:LG ⟨W,E0,false⟩ c c g mg)(n:LT ⟨W,E0,false⟩ c d mc)(he:LE ⟨W,E0,false⟩ c false h me):LFr C S (tLC f g d h fr) (mLC mi fr mg mc me):=λB P H v s R Q q=>FJ (u B P H v s R) l j r n he R Q q
abbrev CI:=List Addr×List (Addr×Obj)×Shared×Hp×Addr
abbrev cxI(X:Cx)(scope:Scope)(N:RS)(z:CI):Cx:=qV X scope N z.1 z.2.1 z.2.2.1 z.2.2.2.1 z.2.2.2.2
def rA(N:RS)(fr:Sm)(f:RW)(u:X.calm=true)(j:p4 X scope N fr=true)(B:IM X C S true tg qI mi)(E:∀z:CI,GM (cxI X scope N z) ⟨C.W,E0,false⟩ f f tg mg)(r:∀z:CI,TsM (cxI X scope N z) ⟨C.W,E0,false⟩ f ifs mc)(he:∀z:CI,EM (cxI X scope N z) ⟨C.W,E0,false⟩ f false elt me)(n:f=inS S fr:=by rfl)
  (y:∀x,foldedSetIterable qI X.env x=pure x:=by intro _;rfl):FM X C S (.ListComp elt [⟨tg,qI,ifs,0⟩] scope pos) (mLC mi fr mg mc me):=λh=>by
 obtain⟨K,v,q⟩:=B h;obtain⟨g,G,l⟩:=V8 E λ_=>h;obtain⟨J,I,D⟩:=V7 r λ_=>h;obtain⟨M,F,A⟩:=cV he λ_=>h;exact⟨_,IC N fr u j v (λc d s H L=>G ⟨c,d,s,H,L⟩) (λc d s H L=>I ⟨c,d,s,H,L⟩) (λc d s H L=>F ⟨c,d,s,H,L⟩) y,BJ q rfl n l D A⟩
variable {y:Str}{m4 py:Pos}
def OC(N:RS)(fr:Sm)(f:RW)(W:X.N.Nodup)(G:X.N[i]?=some y)(D:X.env.scope.names.lookup y=some .local)(I:X.calm=true)(l:p4 X scope N fr=true)(T:IM X C S true tg qI mi)(Y:∀z:CI,GM (cxI X scope N z) ⟨C.W,E0,false⟩ f f tg mg)(F:∀z:CI,TsM (cxI X scope N z) ⟨C.W,E0,false⟩ f ifs mc)(he:∀z:CI,EM (cxI X scope N z) ⟨C.W,E0,false⟩ f false elt me)(A:f=inS S fr:=by rfl)
  (j:swapsWith (.ListComp elt [⟨tg,qI,ifs,0⟩] scope pos) (some (.Name y py)) m4.line X.env=pure true:=by rfl) (K:∀x,foldedSetIterable qI X.env x=pure x:=by intro _;rfl):SM X C S (S.set i 0) Sb Sc (.Assign [.Name y py] (.ListComp elt [⟨tg,qI,ifs,0⟩] scope pos) m4) (qJ i (mLC mi fr mg mc me)):=λh=>by
 obtain⟨wi,J,E⟩:=T h;obtain⟨g,b1,n⟩:=V8 Y λ_=>h;obtain⟨tc,c1,U⟩:=V7 F λ_=>h;obtain⟨te,Z,M⟩:=cV he λ_=>h;refine⟨_,Br N fr W G D I l J (λc d s H L=>b1 ⟨c,d,s,H,L⟩) (λc d s H L=>c1 ⟨c,d,s,H,L⟩) (λc d s H L=>Z ⟨c,d,s,H,L⟩) j K,Du λB P H u O R Q q=>BJ E rfl A n U M B P H u O R Q (Y9 q λx v H2 s r=>RV.of (r.rep R.new))⟩
end
def ZI(fr:Bool)(n:Nat)(ms:MS)(xs:Sn):Out PV:=match ms (xs.map some++List.replicate (n-xs.length) none)with
 |.ok (.nx _)=>if fr=true then .wall else .ok .n
 |.ok (.rt x)=>.ok x
 |.ok (.bk _)=>.wall
 |.ok (.ct _)=>.wall
 |.exc c fs=>.exc c fs
 |.wall=>.wall
def KY(ws:R_)(n:Nat):List Nat:=ws.map (λw=>if w=true then 1 else 0)++List.replicate (n-ws.length) 0
def fU{ws:R_}{n k:Nat}:(KY ws n)[k]?≠some 2:=by
 unfold KY;rw[a2k];split
 .rw[a0d];intro h;obtain⟨w,_,e⟩:=v0.mp h;split at e<;>cases e
 .rw[a06];intro h;split at h<;>cases h
theorem j0.get{W:RC}{M:RY}{H:Hp}:∀{c:R_}{g:Sn}{d:Sh}{k:Nat}{x:PV},j0 W M H c g d->g[k]?=some x->∃v w,d[k]?=some v/\c[k]?=some w/\qb W (if w=true then λ_=>True else M) M H x v
 |[],_,_,_,_,⟨a,b⟩,h=>by subst a;simp at h
 |w::c,_,_,0,x,⟨y,v,i,j,a,b,f,e⟩,h=>by subst a;subst b;simp at h;subst h;exact⟨v,w,rfl,rfl,f⟩
 |w::c,_,_,k+1,x,⟨y,v,i,j,a,b,f,e⟩,h=>by subst a;subst b;simp only[List.getElem?_cons_succ]at h ⊢;exact j0.get e h
def fV{xs:Sn}{n k:Nat}{x:PV}(h:(xs.map some++List.replicate (n-xs.length) none)[k]?=some (some x)):xs[k]?=some x:=by grind
def uI(H:Hp)(M:RY):Bs:=⟨H,M,λa=>H a≠none,λ_ h=>h,none,λ_=>False⟩
def uJ(h:j0 W M H ws xs vs)(q:ws.length<=N.length):Rel W (uI H M) (KY ws N.length) (λ_=>0) H (start N vs) (xs.map some++List.replicate (N.length-xs.length) none):=by
 have c:∀{k:Nat},(KY ws N.length)[k]?=some 2->False:=λ{k} h=>fU h;have sM:∀a,M a->H a≠none->Mof (uI H M) (KY ws N.length) (λ_=>0) a:=λa m _=>⟨⟨.inl m,id⟩,λi b=>(c b).elim⟩;obtain⟨g,o⟩:=h.len;refine⟨zD.refl _,?_,λk x e=>?_,λi b=>(c b).elim,λi j b=>(c b).elim,λb=>(c b).elim,λa h=>h.elim,λi b=>(c b).elim⟩
 .unfold start;rw[R7,R7,f8,f8,a04,a04,g,o]
 .obtain⟨v,w,l,p,r⟩:=h.get (fV e);have d:=(R8.mp l).1;have f:(KY ws N.length)[k]?=some (if w=true then 1 else 0):=by unfold KY;rw[a0a `c,a0d,p];rfl
  refine⟨v,?_,λz=>(c z).elim,λz=>?_,λ_ z=>?_⟩
  .unfold L2.start;rw[a0a `c,a0d,l];rfl
  .refine qb.sub r (λa _ n=>n) sM
  .rw[f]at z;cases w with
   |true=>exact absurd rfl z
   |false=>exact(qb.iff.mp r).sub sM
section
variable {P:Sl}{w:So}{K:Sx}{mg:RU}{base:Heap}
def zL{x b:Str}{st:SN}{f:Addr}{fd:Sq}{N ps:RS}{k n:Nat}{W:RC}{fr:Bool}{ws:R_}{ms:MS}{S' Sb Sc:RW}(F:Fun K x b st f fd)(S:zy N ps (zl st))(D:K=W.K)(p:ws.length=ps.length)(O:N.length=n)(B:ws.length<=n)
  (h:∀(d:Value)(A:Su)(a:List Env)(s:RZ)(H:Hp)(E:XK),vB k (A.deeper (envOfC b (zl st) s.heap.objs.size f d))->SsM (thr (pT (CXe P w) P w K mg base N b (zl st) f d A a s H E) E) ⟨W,E,fr⟩ (KY ws n) S' Sb Sc (Z0 st) ms):
  y_ P w K mg base (CXe P w) (k+1) f fd ps (lsp W fr ws (ZI fr n ms)):=by
 subst O;refine F.okX S (Fv p) λd A a s H Y Q E m ⟨M,j,o,q⟩=>?_;obtain⟨U,z,C⟩:=h d A a s H E m D;refine⟨U,z,C (uI H M) _ H _ _ (uJ o B) _ ?_⟩;unfold ZI at q;revert q;cases ms (j.map some++List.replicate (N.length-j.length) none)with
 |exc c fs=>exact λq e u L l s T I J=>q e u L l s T I J
 |wall=>exact id
 |ok fl=>
  cases fl with
  |nx g=>
   intro q X i G R;cases fr with
   |true=>exact q.elim
   |false=>exact q .non i R.same rfl
  |rt y=>exact λq v i s r=>q v i s r
  |bk g=>exact λq=>q.elim
  |ct g=>exact λq=>q.elim
def OD(c:Nat)(n:Nat)(ms:MS)(xs:Sn):Out PV:=match ms (some (.o c [])::(xs.map some++List.replicate (n-xs.length) none))with
 |.ok (.nx a)=>match a[0]? with
  |some (some x)=>.ok x
  |_=>.wall
 |.ok (.rt _)=>.wall
 |.ok (.bk _)=>.wall
 |.ok (.ct _)=>.wall
 |.exc c fs=>.exc c fs
 |.wall=>.wall
def bsI(H:Hp)(M:RY)(x:Addr):Bs:=⟨erase H x,M,λa=>erase H x a≠none,λ_ h=>h,some x,λ_=>False⟩
def Jb:zD (erase H x) H:=λa o h=>by
 unfold erase at h;split at h
 .cases h
 .exact h
def rB(h:j0 W M (erase H x) ws xs vs)(f:H x=some (.ins (W.cls c) dx []))(D:N.length=n+1)(F:ws.length<=n):
  Rel W (bsI H M x) (2::KY ws n) (λ_=>x) H (start N (.ref x::vs)) (some (.o c [])::(xs.map some++List.replicate (n-xs.length) none)):=by
 have s:erase H x x=none:=by unfold erase;rw[if_pos rfl]
 have d:∀{k:Nat},(2::KY ws n)[k]?=some 2->k=0:=λ{k} h=>by
  cases k with
  |zero=>rfl
  |succ k=>exact(fU h).elim
 have sM:∀a,M a->erase H x a≠none->Mof (bsI H M x) (2::KY ws n) (λ_=>x) a:=λa m z=>⟨⟨.inl m,id⟩,λi b q=>z (q▸s)⟩;obtain⟨l,u⟩:=h.len;refine⟨Jb,?_,λk y e=>?_,λi b=>⟨s,_,f,id⟩,λi j b C _=>(d b).trans (d C).symm,λb p hp=>(a0y hp),λa h=>h.elim,λi b=>id⟩
 .unfold L2.start;simp only[List.length_cons,List.length_append,List.length_map,List.length_replicate,l,u,D];omega
 .cases k with
  |zero=>cases e;exact⟨.ref x,rfl,λ_=>⟨rfl,dx,[],f,rfl⟩,(λz=>by cases z),λz=>absurd rfl z⟩
  |succ k=>
   obtain⟨v,w,o,B,r⟩:=h.get (fV e);have g:=(R8.mp o).1;have A:(2::KY ws n)[k+1]?=some (if w=true then 1 else 0):=by rw[a0h];unfold KY;rw[a0a `c,a0d,B];rfl
   have E:=qb.same r Jb;refine⟨v,?_,(λz=>by cases(d z)),λz=>?_,λ_ z=>?_⟩
   .unfold L2.start;rw[T2,a2Q,a0h,a0a `c,a0d,o];rfl
   .exact qb.same (qb.sub r (λa _ n=>n) sM) Jb
   .rw[A]at z;cases w with
    |true=>exact absurd rfl z
    |false=>exact Rep.same ((qb.iff.mp r).sub sM) Jb
def uK{x d:Str}{st:SN}{f:Addr}{fd:Sq}{N ps:RS}{k n c:Nat}{W:RC}{ws:R_}{ms:MS}{S' Sb Sc:RW}(F:Fun K x d st f fd)(S:zy N ps (zl st))(R:K=W.K)(D:ws.length+1=ps.length)(Z:N.length=n+1)(I:ws.length<=n)(j:S'[0]?=some 2)
  (h:∀(g:Value)(A:Su)(b:List Env)(s:RZ)(H:Hp)(E:XK),vB k (A.deeper (envOfC d (zl st) s.heap.objs.size f g))->SsM (thr (pT (CXe P w) P w K mg base N d (zl st) f g A b s H E) E) ⟨W,E,false⟩ (2::KY ws n) S' Sb Sc (Z0 st) ms):
  y_ P w K mg base (CXe P w) (k+1) f fd ps (NJ W c ws (OD c n ms)):=by
 refine F.okX S (BD D) λg A b s H vs Q E B ⟨M,x,o,r,U,e,u,C,q⟩=>?_;subst e;obtain⟨ts,G,L⟩:=h g A b s H E B R;refine⟨ts,G,L (bsI H M x) _ H _ _ (rB C u Z I) _ ?_⟩;unfold OD at q;revert q;cases ms (some (.o c [])::(r.map some++List.replicate (n-r.length) none))with
 |exc c fs=>exact λq e o Y v s h1 j X=>q e o Y v s h1 j X
 |wall=>exact id
 |ok fl=>
  cases fl with
  |nx i=>
   intro q P' O T l;have q:Pz W M H x Q E (match i[0]? with|some (some x)=>.ok x|_=>.wall):=q;split at q
   .rename_i y J;obtain⟨_,p,_⟩:=l.at2 j J;have e:=l.pin j x rfl;rw[e]at p;exact q O l.same (p.gen rfl Fr.refl λa m _=>⟨m.1.1,λz=>m.2 0 j (e.trans z.symm)⟩)
   .exact q.elim
  |rt y=>exact λq=>q.elim
  |bk i=>exact λq=>q.elim
  |ct i=>exact λq=>q.elim
end
def sH(C:Addr)(fs:RS):Sp:=λc H Q _=>∃e b,c=.ref e::b/\b.length=fs.length/\H e=some (XO e C none .none)/\∀a,H a=none->Q .non (upd (upd H a (XD a (fs.zip b))) e (XO e C (some a) .none))
def vL(c:Nat)(a:RS)(ms:MA):MS:=λd=>(ms d).bind λb=>if b.length=a.length/\b.length<=1000 then .exc c (a.zip b)else .wall
theorem vp.zip{W:RC}{M:RY}{H:Hp}:∀{a:RS}{b:Sn}{c:Sh},yx W M H b c->b.length=a.length->vp W M H (a.zip b) (a.zip c)
 |[],[],_,h,_=>by cases h;rfl
 |f::a,x::b,_,h,e=>by obtain⟨v,r,rfl,g,d⟩:=h;exact⟨v,_,rfl,g,vp.zip d `c⟩
 |[],_::_,_,_,e=>by cases e
 |_::_,[],_,_,e=>by cases e
def qK(E:X.calm=true)(M:XMk X.K (C.W.cls c) f)(A:Y5 X.K (C.W.cls c))(F:y_ X.prog X.w X.K X.mg X.base (CXe X.prog X.w) k f fd ps (sH (C.W.cls c) fns))(I:vB (k+1) X.A)(U:Gl X x)(G:X.mg x=some (.ref (C.W.cls c)))(g:Binds X.K fd ps [])
  (J:AM (thr X C.E) C S ws (e::es) ms) (T:ws.all (!·)=true:=by rfl) (i:(x==("__debug__":Str))=false:=by decide) (he:starEach (e::es) X.env=(false,eval e X.env)::starEach es X.env:=by rfl) (hpl:(backTo ZW (starEach es X.env)).any (·.1)=false:=by rfl):
  SM (thr X C.E) C S S' Sb Sc (.Raise (some (.Call (.Name x p) (e::es) [] ZW)) none pos) (vL c fns ms):=λv=>by
 obtain⟨N,O,L⟩:=J v;refine⟨_,Bo E (Bn M F I U G g zz O i he hpl),λB P H n u R D q=>?_⟩;refine L B P H n u R _ ?_;unfold vL at q;revert q;cases ms u with
 |exc c fs=>exact id
 |wall=>exact id
 |ok l=>
  intro q j r K Q;have rs:=Q.IU T;have q:ZN C B S' Sb Sc D (if l.length=fns.length/\l.length<=1000 then .exc c (fns.zip l)else .wall):=q;split at q
  .rename_i hz;refine⟨by rw[rs.len];exact hz.2,λy o=>⟨y,j,rfl,by rw[rs.len];exact hz.1,zj,λh d=>⟨rfl,y,_,h,rfl,v▸A,zj,?_⟩⟩⟩;have w:h≠y:=λz=>by rw[z,zj]at d;cases d
   rw[zm w]at d;rw[ZY];have s:zD r (upd (upd (upd r y (XO y (C.W.cls c) none .none)) h (XD h (fns.zip j))) y (XC y (C.W.cls c) h)):=λb q g=>by rw[zm (zY g o),zm (zY g d),zm (zY g o)];exact g
   exact q y h (fns.zip j) _ (R.same.trans (K.trans s)) zj (by rw[zm w,zj]) ((vp.zip rs hz.1).gen s.fr λa m _=>m.1.1)
  .exact q.elim
def ZP{S:RW}{i:Nat}:∀j:Nat,(S.set i 0)[j]?=some 2->S[j]?=some 2:=λ_ h=>(wz (c:=0) h).1
def lE:PV->PV->Out PV
 |.l a,.l b=>if a.length+b.length<=sizeLine then .ok (.l (a++b))else .wall
 |_,_=>.wall
section
variable {X:Cx}{C:LC}{S:RW}{a b:Sf}{w1 w2:Bool}{m1 m2:ME}{pos:Pos}
def Lu(L:EM X C S w1 a m1)(I:EM X C S w2 b m2):FM X C S (.BinOp a .Add b pos) (mOp lE m1 m2):=λl=>by
 obtain⟨N,F,A⟩:=L l;obtain⟨tb,K,o⟩:=I l;refine⟨_,HU De F K,λB P H i j R Q q=>A B P H i j R _ (Z4 q λx v G s h E=>o B P G i j (R.keep s) _ (Z4 E λy u M s2 r c=>?_))⟩;have h:=h.same s2;unfold lE at c;split at c
 .split at c
  .rename_i hz;obtain⟨p,D,rfl,_,hp,n⟩:=h;obtain⟨J,f,rfl,_,g,d⟩:=r;exact⟨p,J,D,f,rfl,rfl,hp,g,by rw[n.len,d.len];exact hz,λz hz=>c _ _ (zD.upd hz) (Jp (n.append d) hz)⟩
  .exact c.elim
 .exact c.elim
def BK:ME:=λ_=>.ok (.d [])
def uL:FM X C S (.Dict [] [] pos) BK:=λd=>⟨_,Bf,λB P H f c R Q q=>λp hp=>q _ _ (zD.upd hp) (Ft rfl hp)⟩
end
section
variable {α β:Type}
def vM{a:α}{f:α->Out β}:(Out.ok a).bind f=f a:=rfl
def Qa(d:-(2 ^ 64)<a)(c:a<2 ^ 64):jZ (.i a) (.i b)=.ok (.i (a*b)):=by show(if C4 a b\/_ then _ else _)=_;rw[if_pos (.inl (.inl ⟨d,c⟩))]
def Dy(d:0<b)(c:b<1073741824):p9 (.i a) (.i b)=.ok (.i (a / b)):=by show(if Hj a b then _ else _)=_;rw[if_pos ⟨d,c⟩]
def fW(c:0<b):Jj (.i a) (.i b)=.ok (.i (a % b)):=by show(if 0<b then _ else _)=_;rw[if_pos c]
def BL:pIx (.l xs) (.i a)=ZH (atI xs a):=rfl
def Ut{a:α}:ZH (some a)=.ok a:=rfl
def Lw(h:z.length<=sizeLine):vq [.s z]=.ok (.i z.length):=by show(if _ then _ else _)=_;rw[if_pos h]
def OE{xs:List α}{x:α}:atI (x::xs) 0=some x:=by unfold atI ixN;rw[if_pos (a0R _),if_pos (by simp)];rfl
def bL{xs:List α}(h:0<=k):atI xs k=xs[k.toNat]?:=by
 unfold atI ixN;rw[if_pos h];by_cases c:k<xs.length
 .rw[if_pos c];rfl
 .rw[if_neg c];symm;exact a2G.mpr `a
def nK{xs:List α}:atI xs (-1)=xs.getLast?:=by
 unfold atI ixN;rw[if_neg `b];cases xs with
 |nil=>rfl
 |cons x xs=>rw[if_pos `c];rw[List.getLast?_eq_getElem?];show(x::xs)[((-1:Int)+((xs.length+1:Nat):Int)).toNat]?=(x::xs)[xs.length+1-1]?;congr 1;omega
def uM(h:j3 c b n a=o)(j:o≠.wall):bK c b a=o:=by
 have mono:∀(n k:Nat)(a:Sto),j3 c b n a≠.wall->j3 c b (n+k) a=j3 c b n a:=by
  intro n
  induction n with
  |zero=>intro k a h;exact absurd rfl h
  |succ n l=>
   intro k a h;rw[show n+1+k=(n+k)+1 by omega];unfold j3 at h ⊢;cases m:c a with
   |exc c fs=>rfl
   |wall=>rfl
   |ok t=>
    rw[m]at h;cases t with
    |false=>rfl
    |true=>
     simp only[vM]at h ⊢;cases p:b a with
     |exc c fs=>rfl
     |wall=>rfl
     |ok f=>
      rw[p]at h;cases f with
      |nx d=>exact l k d h
      |ct d=>exact l k d h
      |bk d=>rfl
      |rt v=>rfl
 have e:∃n,j3 c b n a≠.wall:=⟨n,h▸j⟩;unfold bK;rw[dif_pos e];have i:=a0p e;generalize Classical.choose e=n0 at i;rcases Nat.le_total n n0 with g|g
 .obtain⟨k,rfl⟩:=Nat.le.dest g;rw[mono n k a (h▸j)];exact h
 .obtain⟨k,rfl⟩:=Nat.le.dest g;rw[<- mono n0 k a i];exact h
def KZ:ZX g b (x::xs) ρ=(ZH (g x ρ)).bind λc=>(b c).bind λf=>match f with
  |.nx a=>ZX g b xs a
  |.ct a=>ZX g b xs a
  |.bk a=>.ok (.nx a)
  |.rt v=>.ok (.rt v):=rfl
def fX:aJ k (n+1)=.i k::aJ (k+1) n:=by
 unfold aJ;rw[a15,T2,a0q];congr 1
 .simp
 .apply a0T;intro x _;simp only[Function.comp];congr 1;omega
def uN{α:Type}[BEq α][LawfulBEq α][DecidableEq α]{a b:α}:(a==b)=decide (a=b):=by grind
def OF:jG n (.i a) (.i b)=.ok (.b (xor n (decide (a=b)))):=rfl
def Lx:eZ n (.s x) (.s y)=some (decide (x=y)):=by cases n<;>(show some (x==y)=_;rw[uN])
def FK:Dq [.i a,.i b]=.ok (.i (max a b)):=rfl
def zN{fr:Bool}{n:Nat}{ms:MS}{xs:Sn}{x:PV}(h:ms (xs.map some++List.replicate (n-xs.length) none)=.ok (.rt x)):ZI fr n ms xs=.ok x:=by unfold ZI;rw[h]
def FL(h:s ρ=.ok (.nx ρ')):yk s t ρ=t ρ':=by unfold yk;rw[h];rfl
def qy(h:s ρ=.ok (.rt x)):yk s t ρ=.ok (.rt x):=by unfold yk;rw[h];rfl
def fY{k:Str}{v:PV}{r:Ss}:List.lookup k ((k,v)::r)=some v:=by simp[List.lookup]
def w4{k j:Str}{v:PV}{r:Ss}(h:(k==j)=false):List.lookup k ((j,v)::r)=List.lookup k r:=by simp[List.lookup,h]
def Dz:List.lookup k ([]:List (Str×PV))=none:=rfl
def cW:AQ [] k v=[(k,v)]:=rfl
def Uu(h:(j==k)=false):AQ ((j,x)::r) k v=(j,x)::AQ r k v:=by show(if j=k then _ else _)=_;rw[if_neg `c]
end
def DA{b:Type}{a:b}:noX (.ok a)=.ok a:=rfl
theorem lF{j:Type}{g:MG}{c:MT}{e:ME}(l:j->PV)(keep:j->Bool)(d:j->PV)(J:Sto->Prop):∀(i:List j)(f:Sto)(a:Sn),J f->(∀x∈i,∀f,J f->∃b,g (l x) f=some b/\J b/\c b=.ok (keep x)/\(keep x=true->e b=.ok (d x)))->a.length+i.length<=100000->lcP g c e (i.map l) f a=.ok (.l (a++(i.filter keep).map d))
 |[],f,a,_,_,_=>by simp[lcP]
 |x::i,f,a,s,h,o=>by
  obtain⟨b,r,n,p,q⟩:=h x v4 f s;rw[R4]at o;rw[T2];unfold lcP;rw[r,Ut,vM,p,DA,vM];cases m:keep x with
  |true=>rw[q m,DA,vM,if_pos (T7 (show a.length<100000 by omega) `b),List.filter_cons_of_pos m];rw[lF l keep d J i b (a++[d x]) n (λz hz=>h z (R9 _ hz)) `c,a0n];rfl
  |false=>rw[List.filter_cons_of_neg `c];exact lF l keep d J i b a n (λz hz=>h z (R9 _ hz)) `a
def w_{i:Type}(j:i->PV)(f:i->PV)(J:Sto->Prop)(xs:List i)(ρ:Sto)(o:J ρ)(h:∀x∈xs,∀ρ,J ρ->∃d,g (j x) ρ=some d/\J d/\e d=.ok (f x))(n:xs.length<=100000):lcP g lB e (xs.map j) ρ []=.ok (.l (xs.map f)):=by rw[lF (c:=lB) j (λ_=>true) f J xs ρ [] o (λx m ρ l=>let⟨d,a,b,c⟩:=h x m ρ l;⟨d,a,b,rfl,λ_=>c⟩) `c];rw[List.filter_eq_self.mpr λ_ _=>rfl];rfl
def fZ{α:Type}{f:α->Bool}{xs:List α}:uv (xs.map λx=>PV.b (f x))=some (xs.map f):=by
 have:=nH (ns:=xs.map f)
 rwa [a0q]at this
def BM{a:Type}{f:a->Bool}{xs:List a}:Ho [.l (xs.map λx=>PV.b (f x))]=.ok (.b (xs.all f)):=by show ZH ((uv (xs.map λx=>PV.b (f x))).map _)=_;rw[fZ,Option.map_some,List.all_map];rfl
end L2
namespace L2
open PySem
end L2
namespace L2
open PySem PySem.Spec PyProof.Rows PySem.W
section
variable {X:Cx}
theorem Uv:∀{b:Sh}{a:Sa},b.length=a.length->(∀(j:Nat) x u,b[j]?=some x->a[j]?=some u->RelV x u)->Vals b a
 |[],[],_,_=>.nil
 |x::b,u::a,d,h=>.cons (h 0 x u rfl rfl) (Uv `c λj y v c e=>h (j+1) y v `c `c)
def BO(I:Inv X pins σ H s)(a:`g<=l)(i:∀b o,s.heap.get? b=some o->h'.get? b=some o)
  (e:h'.get? l=some { cls:=.type "list",dict:=none,data:=.seq acc c,slots:=#[] }) (hz:ys.length<=sizeLine) (g:ys.length=acc.size) (h:∀(j:Nat) x u,ys[j]?=some x->acc[j]?=some u->RelV x u) (q:∀l,H l=none->Q (.ref l) (upd H l (.lst ys))):
  EP X pins σ Q (.ref l) { s with heap:=h',toks:=tk }:=
 ⟨.ref l,_,I.laid i a (show qu X.prog X.w _ h' _ (.lst ys)from⟨hz,acc.toList,c,Uv `a (λj x u d f=>h j x u d `c),by exact e⟩),rfl,q _ (I.hok.fresh a)⟩
end
def Ly(h:KV es vs):∀{i:Nat}{k:Key}{v:V},es[i]?=some (k,v)->∃w,vs[i]?=some (k,w):=by
 induction h with
 |nil=>intro i k v e;simp at e
 |@cons p q _ _ hp _ a=>
  intro i k v e;cases i with
  |zero=>simp at e;subst e;exact⟨q.2,by simp;exact Prod.ext hp.1.symm rfl⟩
  |succ i=>simp at e ⊢;exact a e
def uO(h:(yK P w).is k u=true):RelV (kV k) u:=by
 rcases yR h with⟨i,t,rfl,rfl⟩|⟨x,t,rfl,rfl⟩
 .exact⟨t,rfl⟩
 .exact⟨t,rfl⟩
def kP:Key->PV
 |.inl i=>.i i
 |.inr x=>.s x
def DB{W:RC}{M:RY}{H:Hp}:∀k:Key,Rep W M H (kP k) (kV k)
 |.inl _=>rfl
 |.inr _=>rfl
def range_any(bs:R_):(List.range bs.length).any (λi=>bs.getD i false)=bs.any id:=by
 induction bs with
 |nil=>rfl
 |cons b bs a=>rw[R4,a15,a0E,a3I,a0E,<- a];rfl
def PD(K:Sx):List V->Hp->VK->Prop:=λa H Q=>∃(p:Addr)(bs:R_),a=[.ref p]/\SqL K H p (bs.map V.bl)/\Q (.bl (bs.any id)) H
def BP(n:X.calm=true):ZZ X (.builtin "any") (PD X.K):=by
 intro a s j H B C Q I r h;obtain⟨p,bs,rfl,m,q⟩:=h;obtain⟨u,rfl,x⟩:=vals1 r;cases x;obtain⟨y,w,f,_⟩:=I.list m;have e:=cO w;subst e;have c:p≠s.heap.objs.size:=by obtain⟨o,d,_⟩:=f.isList;exact a0e (S9 d)
 refine call_any_walk (a12 f.isList ⟨`g,_,_,_,_,_,_,rfl,Walks.list (A:=X.A.in1) (I.ok.hd n) s.heap.objs.size p c (bs.map Value.bool).toArray,?_,Uh,λi g l=>?_⟩)
 .refine⟨⟨_,a0k _ rfl,rfl,rfl⟩,?_⟩;obtain⟨o,d,z⟩:=f.isList;exact⟨o,S4 _ d,z⟩
 .have v:=I.kept (t':=g) λb o e=>l b o (by simp;exact a0e (S9 e)) (S4 _ e);refine⟨.bl _,H,v,rfl,?_⟩;have:(List.map Value.bool bs).toArray.size=bs.length:=by simp
  rw[this,range_any];exact q
def Hq:List PV->Out PV
 |[.l a]=>ZH ((uv a).map λb=>.b (b.any id))
 |_=>.wall
def Lz:LfC W (PD W.K) Hq:=λM C B H i c Q n h q=>by
 unfold Hq at q;split at q
 .obtain⟨z,e,q⟩:=yZ q;obtain⟨f,d,rfl⟩:=v0.mp e;obtain⟨v,r,rfl,⟨p,c,rfl,_,a,g⟩,b⟩:=h;cases b;rw[lq g d]at a;exact⟨p,f,rfl,SqL.of a,q _ H (zD.refl _) rfl⟩
 .exact q.elim
def LB:List V->Hp->VK->Prop:=λb H Q=>∃(p:Addr)(a:Sk),b=[.ref p]/\Rd H p (.dK a)/\∀l,H l=none->Q (.ref l) (upd H l (.dK a))
def rC:ZZ X (.type "dict") LB:=by intro a s f H i m Q I r h;obtain⟨p,j,rfl,b,q⟩:=h;obtain⟨u,rfl,d⟩:=vals1 r;cases d;exact Bj I b λl g c e=>⟨.ref l,_,e,rfl,q l c⟩
def LD(d:X.calm=true)(a:Gl X "any")(b:X.mg "any"=none)(f:AM X C S ws [e] ms)(he:starEach [e] X.env=[(false,eval e X.env)]:=by rfl):EM X C S false (.Call (.Name "any" p) [e] [] pos) (zg Hq ms):=
 XM (λc=>c▸BP d) Lz a b PyProof.Rows.boot_any f (he:=he)
end L2
namespace L2
open PySem
def OG{c:Type}{P:List c->Prop}{us:List c}(d:us.length=1)(h:∀a,P [a]):P us:=by rcases us with _|⟨a,_|⟨b,us⟩⟩<;>first|exact h _|cases d
def OH{d:Type}{P:List d->Prop}{us:List d}(e:us.length=2)(h:∀a b,P [a,b]):P us:=by rcases us with _|⟨a,_|⟨b,_|⟨c,us⟩⟩⟩<;>first|exact h _ _|cases e
def OI{e:Type}{P:List e->Prop}{us:List e}(f:us.length=3)(h:∀a b c,P [a,b,c]):P us:=by rcases us with _|⟨a,_|⟨b,_|⟨c,_|⟨d,us⟩⟩⟩⟩<;>first|exact h _ _ _|cases f
def OJ{f:Type}{P:List f->Prop}{us:List f}(g:us.length=4)(h:∀a b c d,P [a,b,c,d]):P us:=by rcases us with _|⟨a,_|⟨b,_|⟨c,_|⟨d,_|⟨e,us⟩⟩⟩⟩⟩<;>first|exact h _ _ _ _|cases g
def OK{g:Type}{P:List g->Prop}{us:List g}(i:us.length=5)(h:∀a b c d e,P [a,b,c,d,e]):P us:=by rcases us with _|⟨a,_|⟨b,_|⟨c,_|⟨d,_|⟨e,_|⟨f,us⟩⟩⟩⟩⟩⟩<;>first|exact h _ _ _ _ _|cases i
def f6(z:CXe P w outer H s (λ_ _ _=>False) v s'):False:=by obtain⟨_,_,_,_,_,_,_,_,_,_,_,_,_,_,_,_,_,_,q⟩:=z;exact q
def okb{b c:Type}{a:b}{f:b->Out c}:(Out.ok a).bind f=f a:=rfl
section
variable {α:Type}{g:MG}{b:MS}{c:MT}{e:ME}{ρ ρ':Sto}{s t:MS}{m:ME}{x:PV}{mi:MI}{o:Out Fw}{i:Nat}
def ze(h:∃ρ',s ρ=.ok (.nx ρ')/\t ρ'=o):yk s t ρ=o:=let⟨_,a,b⟩:=h;(FL a).trans b
def Uw{fr:Sm}{xs:Sn}(h:mi ρ=.ok xs)(a:lcP g c e xs (cU ρ fr) []=.ok x):mLC mi fr g c e ρ=.ok x:=by unfold mLC;rw[h,vM,a]
def yp(h:m ρ=.ok x):qJ i m ρ=.ok (.nx (ρ.set i (some x))):=by unfold qJ;rw[h,vM]
def qz(h:mi ρ=.ok xs)(a:ZX g b xs ρ=o):KU mi g b ρ=o:=by unfold KU;rw[h,vM,a]
def BQ{n:Nat}(h:n<=1000000):uH [.i (n:Int)]=.ok (aJ 0 n):=by unfold uH;exact(if_pos ⟨`d,`d⟩).trans rfl
def nM(h:ms ρ=.ok [.i (n:Int)])(a:n<=1000000):Xe ms ρ=.ok (aJ 0 n):=by unfold Xe;rw[h,vM,BQ a]
def lG(h:ms ρ=.ok [.i n])(a:0<=n)(d:n<=1000000):Xe ms ρ=.ok (aJ 0 n.toNat):=nM `c `a
def yc(h:m ρ=.ok (.l xs)):ye m ρ=.ok xs:=by unfold ye;rw[h];rfl
def nN:aJ 0 n=(List.range n).map λk=>PV.i ((k:Nat):Int):=by exact a0T λk _=>by congr 1;omega
theorem nO(n:α->PV)(J:Nat->Sto->Prop):∀(f:List α)(j:Nat)(ρ:Sto),J j ρ->(∀(k:Nat)(h:k<f.length)(ρ:Sto),J (j+k) ρ->∃a,g (n f[k]) ρ=some a/\∃d,J (j+k+1) d/\(b a=.ok (.nx d)\/b a=.ok (.ct d)))->∃ρ',J (j+f.length) ρ'/\ZX g b (f.map n) ρ=.ok (.nx ρ')
 |[],j,ρ,h,_=>⟨ρ,h,rfl⟩
 |x::f,j,ρ,h,r=>by
  obtain⟨a,y,d,u,l⟩:=r 0 (Nat.zero_lt_succ _) ρ h;obtain⟨p,v,w⟩:=nO n J f (j+1) d u λk z ρ q=>by have:=r (k+1) (Nat.succ_lt_succ z) ρ `c;rw[show j+(k+1)+1=j+1+k+1 by omega]at this;exact this
  refine⟨p,by rw[R4,show j+(f.length+1)=j+1+f.length by omega];exact v,?_⟩;rw[T2,KZ,show g (n x) ρ=some a from y,Ut,vM];rcases l with l|l<;>(rw[l];exact w)
def Qb(f:α->PV)(J:Nat->Sto->Prop)(xs:List α)(ρ:Sto)(h:J 0 ρ)(l:∀(k:Nat)(h:k<xs.length)(ρ:Sto),J k ρ->∃a,g (f xs[k]) ρ=some a/\∃d,J (k+1) d/\(b a=.ok (.nx d)\/b a=.ok (.ct d))):∃ρ',J xs.length ρ'/\ZX g b (xs.map f) ρ=.ok (.nx ρ'):=by
 have:=nO f J xs 0 ρ h λk n ρ j=>by have:=l k n ρ `c;rwa [a2l]
 rwa [a2l]at this
def XQ(J:Nat->Sto->Prop)(n:Nat)(ρ:Sto)(h:J 0 ρ)(j:∀(k:Nat),k<n->∀(ρ:Sto),J k ρ->∃a,g (.i (k:Int)) ρ=some a/\∃d,J (k+1) d/\(b a=.ok (.nx d)\/b a=.ok (.ct d))):∃ρ',J n ρ'/\ZX g b (aJ 0 n) ρ=.ok (.nx ρ'):=by
 have:=Qb (λk:Nat=>PV.i k) J (List.range n) ρ h λk l ρ f=>by rw[a0P];exact j k `c ρ f
 rwa [a0v,<- nN]at this
end
end L2
namespace L2
open PySem PySem.Spec PyProof.Rows PySem.W
section
variable {prog:Sl}{w:So}{A:Su}{E:RX}{h:Heap}{g:Array GenState}{d:Drawn}{t:Nat}{os:OsState}{a:Addr}{its:SJ}{n:Nat}{sl:SI}
def f7:typeLookup (.type "list") "keys"=pure none:=by kernel_rfl
def Ux:typeLookup (.type "list") "__getattr__"=pure none:=by kernel_rfl
def uP:isSubtype (.type "AttributeError") (.type "AttributeError")=pure true:=rfl
def FN(he:h.get? e=some ⟨.type "AttributeError",none,.fields #[T,.none,.none,.none,.bool false,X,rawInt 0,rawInt 0],#[]⟩)
  (l:∀c,(∀b o,b≠e->h.get? b=some o->c.get? b=some o)->(∃f,c.get? e=some f/\f.cls=.type "AttributeError")->Q () ⟨c,g,d,t,os⟩):
  wpAny (model prog w) A (noteAttr (.ref e) o name) Q E ⟨h,g,d,t,os⟩:=by
 have i:(⟨h,g,d,t,os⟩:Shared).TypeIs (.ref e) "AttributeError":=⟨_,he,rfl⟩;refine u8 ?_;refine u8 (a19 i uP ?_);refine u8 (a3l he ?_);dsimp only;refine T1 ?_;refine u8 (a3p ?_);refine u8 (a1S i ?_);refine u8 (a3l he ?_);refine wpAny_update he ?_;refine l _ (λb o m j=>(a0r _ _ (Ne.symm m)).trans j) ⟨_,a0V _ he rfl,rfl⟩
def rD(hh:A.handled=none)(hx:h.get? a=some ⟨.type "list",none,.seq its n,sl⟩)
  (hE:∀h' tk e,(∀b o,h.get? b=some o->h'.get? b=some o)->(∃oe,h'.get? e=some oe/\oe.cls=.type "AttributeError")->E (.ref e) ⟨h',g,d,tk,os⟩):
  wpAny (model prog w) A (Builtin.«object.__getattribute__» ⟨[.ref a,.str "keys" tk],[]⟩) Q E ⟨h,g,d,t,os⟩:=by
 have hT:(⟨h,g,d,t,os⟩:Shared).TypeIs (.ref a) "list":=⟨_,hx,rfl⟩;have f4:=f7
 repeat(any_goals(first|assumption|wp_step))
 unfold raiseAttrError;refine u8 (wpAny_mkStr (u8 ?_) (by decide +kernel));unfold newExc newTuple;refine u8 (a1Z ?_);refine u8 (m:=firstArgMember _ _) (a3b (a:=Value.none) (by simp only[firstArgMember];kernel_rfl) ?_);refine a1Z ?_;refine u8 (a3H (u8 ?_));refine FN (a0k _ rfl) λh' hk he=>?_;unfold raiseNew;refine u8 (wpAny_handled ?_);rw[hh]
 first
  |refine a3M ?_
  |refine u8 (T1 (a3M ?_))
 exact hE _ _ _ (λb o e=>hk b o (a0e (T7 (S9 e) (by simp))) (S4 _ (S4 _ e))) he
def uQ(m:A.handled=none)(f:h.get? a=some ⟨.type "list",none,.seq its n,sl⟩)
  (l:∀c j e,(∀b o,h.get? b=some o->c.get? b=some o)->(∃i,c.get? e=some i/\i.cls=.type "AttributeError")->R (.error (.ref e)) ⟨c,g,d,j,os⟩):
  codeAny (model prog w) A (.call (.builtin "list.__getattribute__") ⟨[.ref a,.str "keys" j],[]⟩) R ⟨h,g,d,t,os⟩:=
 a2j F.slot_list_getattribute.plain F.entry_list_ga (F.slot_list_getattribute.check _ _ _ _ _ _ _ _ (show(⟨h,g,d,t,os⟩:Shared).TypeIs (.ref a) "list" from⟨_,f,rfl⟩) (F.args_list_getattribute_2 _ _) (rD m f l))
def FO(m:A.handled=none)(l:h.get? a=some ⟨.type "list",none,.seq its n,sl⟩)(p:∀c i,(∀b o,h.get? b=some o->c.get? b=some o)->Q none ⟨c,g,d,i,os⟩):
  wpAny (model prog w) A (getAttr? (.ref a) "keys") Q E ⟨h,g,d,t,os⟩:=by
 have u:∀t,(⟨h,g,d,t,os⟩:Shared).TypeIs (.ref a) "list":=λt=>⟨_,l,rfl⟩;have r:=F.slot_list_getattribute.lookup;have s:=F.slot_list_getattribute.bind (.ref a);refine u8 (a3H ?_);refine u8 (a17 ?_);refine a0N ?_;refine u8 (a1S (u _) ?_);refine u8 (a3b r ?_);dsimp only;unfold getAttrByItsOwn hookBefore;refine u8 (T1 ?_);refine u8 (a17 ?_);refine a0N ?_;unfold callGetattribute;refine u8 (a3b s ?_);refine a1H (uQ m l λc i e v j=>?_);obtain⟨x,j,q⟩:=j;have f:(⟨c,g,d,i,os⟩:Shared).TypeIs (.ref e) "AttributeError":=⟨_,j,q⟩;refine u8 (a19 f uP ?_);rw[if_pos rfl];unfold hookBehind;refine u8 (a3b Ux ?_);unfold hookOrError attributeErrorLeaves;refine u8 (a3M ?_);refine u8 (a19 f uP ?_);exact T1 (p c i v)
end
def Jq:entryFor table "dict.update.loop"=some Builtin.«dict.update.loop»:=entryFor_of_tree (by kernel_rfl)
def ky:plainId "dict.update.loop"=true:=by decide +kernel
section
variable {prog:Sl}{w:So}{A:Su}{R:Result->Shared->Prop}{I:Addr}{fp wr:SH}{G:Array GenState->Array GenState->Prop}{n:Nat}{P:Nat->Value->Prop}{St:Nat->Shared->Prop}{K:Type}[DecidableEq K] {knd:KeyKind prog w K}
def TupAt(h:Heap)(a:Addr)(k v:Value):Prop:=∃o m,h.get? a=some o/\o.cls=.type "tuple"/\o.data=.seq #[k,v] m
def AR(key:Nat->K)(val:Th):Nat->List (K×Value)
 |0=>[]
 |i+1=>stored (AR key val i) (key i) (val i)
theorem cX(key:Nat->K)(val:Th):∀i,(AR key val i).length<=i
 |0=>S0 _
 |i+1=>by
  have:=cX key val i;unfold AR stored;split
  .rw[f8];omega
  .rw[R7];show _+1<=_;omega
def BR(W:WalksS prog w A.in1 I fp wr G n P St)(D:Addr)(x:D∉fp)(key:Nat->K)(kv val:Th)(ad:Se)(hP:∀i v,P i v->v=.ref (ad i))(hk:∀i,i<n->knd.is (key i) (kv i)=true)(hw:∀i,i<n->ad i∉D::wr)(hn:n<=sizeLine):
  ∀(k i:Nat)(M:Tok)(s:RZ),n-i=k->i<=n->St i s->(∀j,j<n->TupAt s.heap (ad j) (kv j) (val j))->s.heap.DictOf knd D (AR key val i)->
   (∀a,Moved (D::wr) G s a->a.heap.DictOf knd D (AR key val n)->R (.ok (.ret .none)) a)->
   codeAny (model prog w) A (.builtin "dict.update.loop" ⟨[.ref D,.ref I,.int (i:Int) M,.none],[]⟩) R s:=by
 have u:=λh=>x (W.sub _ h);have d:∀b∈wr,b∈D::wr:=λb r=>R9 _ r;have z:∀{s a:RZ},Moved (D::wr) G s a->(∀j,j<n->TupAt s.heap (ad j) (kv j) (val j))->∀j,j<n->TupAt a.heap (ad j) (kv j) (val j):=λf h j hj=>by obtain⟨o,m,E,U,X⟩:=h j hj;exact⟨o,m,f.heap _ _ (hw j hj) E,U,X⟩
 intro k
 induction k with
 |zero=>
  intro i M s Y hi g J hD O;have L:i=n:=`d
  subst L;refine codeAny_builtin Jq ?_;refine u8 (W.done s _ _ g λa f=>?_);refine u8 ?_;refine T1 ?_;exact T1 (O a (f.mono d) (by
   obtain⟨o,es,H,F,rest⟩:=hD;exact⟨o,es,H,f.heap D _ u F,rest⟩))
 |succ k ih=>
  intro i M s Y hi g J hD O;have c:i<n:=`d
  refine codeAny_builtin Jq ?_;refine u8 (W.item i s _ _ c g λv a S l f=>?_);cases hP i v S;have y:=f.mono d;have Z:=z y J;obtain⟨o,m,E,U,X⟩:=Z i c;have Q:a.heap.DictOf knd D (AR key val i):=by obtain⟨o,es,H,F,rest⟩:=hD;exact⟨o,es,H,f.heap D _ u F,rest⟩
  have hT:a.TypeIs (.ref (ad i)) "tuple":=⟨o,E,U⟩;refine u8 (a0N (u8 (wpAny_tryCatch ?_)));refine u8 (a1S hT ?_);refine u8 (u8 (a3l E ?_));rw[X];refine T1 (T1 ?_);refine a0N (wpAny_dictSet_pairs (hsz:=a0l (cX key val i) (a0l hi hn)) (hk i c) Q λh' hD2 B=>?_);have e1:(i+1)=((i+1:Nat):Int):=`d
  have C:=y.then_heap (a0Y _) λb o r e=>by rw[B.2 b (λh:b=D=>r `c)];exact e
  refine T1 ⟨a3u ky _,?_⟩;refine ih (i+1) 0 _ `a c (W.frame _ a _ _ l (a0Y _) λb r o e=>?_) (z C J) hD2 λN q p=>O N (Moved.trans W.gtrans C q) p;rw[B.2 b (λh:b=D=>x `c)];exact e
end
section
variable {prog:Sl}{w:So}{A:Su}{E:RX}{s:RZ}{K:Type}[DecidableEq K] {knd:KeyKind prog w K}
def cY{l:Addr}{items:SJ}{m:Nat}{sl:SI}{Q:RX}{key:Nat->K}{kv val:Th}{ad:Se}(hh:A.handled=none)(hl:s.heap.get? l=some ⟨.type "list",none,.seq items m,sl⟩)
  (hP:∀i,i<items.size->items[i]?=some (.ref (ad i))) (ht:∀i,i<items.size->TupAt s.heap (ad i) (kv i) (val i)) (hk:∀i,i<items.size->knd.is (key i) (kv i)=true) (hn:items.size<=sizeLine)
  (h:∀h' tk,(∀b o,s.heap.get? b=some o->h'.get? b=some o)->h'.DictOf knd s.heap.objs.size (AR key val items.size)->Q (.ref s.heap.objs.size) { s with heap:=h',toks:=tk }):
  wpAny (model prog w) A (call (.type "dict") [.ref l]) Q E s:=by
 refine callType_codes (Q₁:=λobj s₁=>obj=.ref s.heap.objs.size/\s₁={ s with heap:=s.heap.push { cls:=.type "dict",data:=.dict #[] } }) F.kt_called_dict (F.kt_typeCall_dict_1 _) F.entry_dict_init (kt_code_dict_new _ ⟨rfl,rfl⟩) ?_
 rintro obj s₁ ⟨rfl,rfl⟩
 have hnew:(s.heap.push { cls:=.type "dict",data:=.dict #[] }).DictOf knd s.heap.objs.size []:=Heap.DictOf.new s.heap;have hl':(s.heap.push { cls:=.type "dict",data:=.dict #[] }).get? l=some ⟨.type "list",none,.seq items m,sl⟩:=S4 _ hl;refine⟨hnew.typeIs,F.args_dict_init_2 _ _,?_⟩;unfold Builtin.«dict.__init__»;refine u8 ?_;unfold Builtin.Dict.selfAndRest;refine u8 (wpAny_notOrdered_dict hnew.typeIs ?_);show wpAny _ _ (pure (s.heap.objs.size,[Value.ref l])) _ _ _;refine T1 ?_;show wpAny _ _ (Builtin.Dict.updateFrom "dict.__init__" s.heap.objs.size (.ref l) [] .none) _ _ _;unfold Builtin.Dict.updateFrom;refine u8 (a1S (T:="list") ⟨_,hl',rfl⟩ ?_);rw[if_pos (by decide)];refine u8 ?_;refine FO hh hl' λh1 t1 k1=>?_;rw[if_pos (show(none:Option Value).isNone=true from rfl)];refine u8 (a3p ?_);have hl1:h1.get? l=some ⟨.type "list",none,.seq items m,sl⟩:=k1 _ _ hl';have hil:h1.IsList l items:=⟨_,hl1,rfl,m,rfl⟩;refine u8 (a12 hil ?_);have D1:h1.DictOf knd s.heap.objs.size []:=by obtain⟨o,es,ep,ho,rest⟩:=hnew;exact⟨o,es,ep,k1 _ _ ho,rest⟩
 have ls:l<s.heap.objs.size:=S9 hl;have l1:l<h1.objs.size:=S9 hl1;have ds:s.heap.objs.size<h1.objs.size:=by obtain⟨o,_,_,ho,_⟩:=D1;exact S9 ho
 have hne:l≠h1.objs.size:=a0e l1;have kp:∀b o,h1.get? b=some o->(h1.push { cls:=.type "list_iterator",data:=.fields #[.ref l,.int 0 0] }).get? b=some o:=λb o e=>S4 _ e;have tl:∀j,j<items.size->ad j<s.heap.objs.size:=λj hj=>by obtain⟨o,_,h1,_⟩:=ht j hj;exact S9 h1
 refine T1 ⟨a3u ky _,BR (knd:=knd) (Walks.list (A:=A.in1.in1) hh h1.objs.size l hne items).toS s.heap.objs.size (by simp;exact⟨a0e ds,a1B ls⟩) key kv val ad (λi v hv=>?_) hk (λi hi=>?_) hn items.size 0 0 _ (by omega) (a0A _) ⟨⟨_,a0k _ rfl,rfl,rfl⟩,?_⟩ (λj hj=>?_) ?_ λs' hm hD=>?_⟩
 .have hi:i<items.size:=by
   by_cases c:i<items.size
   .exact c
   .rw[a3a (by omega)]at hv;cases hv
  rw[hP i hi]at hv;cases hv;rfl
 .have:=tl i hi;intro hm;rcases T6.mp hm with e|hm
  .exact a0e this e
  .exact a0e (a2i this ds) (T9.mp hm)
 .exact⟨_,kp _ _ hl1,rfl,m,rfl⟩
 .obtain⟨o,q,e1,e2,e3⟩:=ht j hj;exact⟨o,q,kp _ _ (k1 _ _ (S4 _ e1)),e2,e3⟩
 .obtain⟨o,es,ep,ho,rest⟩:=D1;exact⟨o,es,ep,kp _ _ ho,rest⟩
 .rw[Moved.eq_with hm];refine⟨rfl,h s'.heap s'.toks (λb o e=>hm.heap b o (λhmem=>?_) (kp _ _ (k1 _ _ (S4 _ e)))) hD⟩;have:=S9 e;rcases T6.mp hmem with e'|hm
  .exact a0e this e'
  .exact a0e (a2i this ds) (T9.mp hm)
end
section
variable {X:Cx}
def cZ(K:Sx)(H:Hp):List V->List (Key×V)->Prop
 |[],b=>b=[]
 |x::c,b=>∃a k v r,x=.ref a/\b=(k,v)::r/\SqT K H a [kV k,v]/\cZ K H c r
def uR(es:Sk):List (Key×V):=es.foldl (λa b=>putK a b.1 b.2) []
def DC(K:Sx):List V->Hp->VK->Prop:=λc H Q=>∃(p:Addr)(b:Sh)(a:Sk),c=[.ref p]/\SqL K H p b/\cZ K H b a/\∀l,H l=none->Q (.ref l) (upd H l (.dK (uR a)))
theorem nP{pins:RT}{σ:St}{H:Hp}{s:RZ}(I:Inv X pins σ H s):∀{g:Sh}{f:Sk}{b:Sa},cZ X.K H g f->Vals g b->∃c:List (Addr×Value×Value),b=c.map (λp=>Value.ref p.1)/\c.length=f.length/\(∀p∈c,TupAt s.heap p.1 p.2.1 p.2.2)/\∀(i:Nat) p e,c[i]?=some p->f[i]?=some e->RelV (kV e.1) p.2.1/\RelV e.2 p.2.2
 |[],_,b,h,r=>by cases h;cases r;exact⟨[],rfl,rfl,(λ_ h=>by cases h),λ_ _ _ h=>by cases h⟩
 |x::g,_,b,h,r=>by
  obtain⟨a,k,v,f,rfl,rfl,q,j⟩:=h;cases r with
  |cons C r=>
   cases C;obtain⟨c,n,u,D,A⟩:=nP I j r;obtain⟨J,B,⟨o,F,y,m,z⟩,_⟩:=I.tuple q;obtain⟨E,G,rfl,w,l⟩:=vals2 B;refine⟨(a,E,G)::c,by rw[n];rfl,by rw[R4,R4,u],λp hp=>?_,λi p e hp d=>?_⟩
   .rcases T6.mp hp with rfl|hp
    .exact⟨o,m,F,y,z⟩
    .exact D p hp
   .cases i with
    |zero=>cases hp;cases d;exact⟨w,l⟩
    |succ i=>exact A i p e hp d
theorem uS{es:Sk}{key:Nat->Key}{val:Th}:∀n,n<=es.length->(∀i e,i<n->es[i]?=some e->key i=e.1/\RelV e.2 (val i))->KV ((es.take n).foldl (λb d=>putK b d.1 d.2) []) (AR key val n)
 |0,_,_=>.nil
 |n+1,l,h=>by have a:=l;have c:=S6 a;rw[List.take_succ,c,List.foldl_append];obtain⟨f,g⟩:=h n _ (a0L n) c;show KV (putK _ _ _) (stored (AR key val n) (key n) (val n));rw[f];exact(uS n (a2f a) λi e m j=>h i e (a10 m) j).put _ g
def rE(S:X.calm=true):ZZ X (.type "dict") (DC X.K):=by
 intro E s σ H T us Q I r h;obtain⟨p,T,b,rfl,P,hp,q⟩:=h;obtain⟨u,rfl,U⟩:=vals1 r;cases U;obtain⟨y,B,⟨o,m,Y,K,L,D⟩,hz⟩:=I.list P;obtain⟨g,F,G,W,N⟩:=nP I hp B;have d:y.length=b.length:=by rw[F,f8,G]
 have z:∀i,i<b.length->∃a,g[i]?=some a/\b[i]?=some (b.getD i (.inl 0,.non))/\g.getD i (0,.none,.none)=a:=λi c=>by
  have v:i<g.length:=by rw[G];exact c
  refine⟨g[i],S6 v,by rw[a03,S6 c];rfl,by rw[a03,S6 v];rfl⟩
 have f:y.toArray.size=b.length:=by simpa using d
 obtain⟨cls,J,M,C⟩:=o;subst K L D;refine cY (knd:=yK X.prog X.w) (key:=λi=>(b.getD i (.inl 0,.non)).1) (kv:=λi=>(g.getD i (0,.none,.none)).2.1) (val:=λi=>(g.getD i (0,.none,.none)).2.2) (ad:=λi=>(g.getD i (0,.none,.none)).1) (I.ok.hd S) Y (λi c=>?_) (λi c=>?_) (λi c=>?_) ?_ λZ R O hD=>?_
 .rw[f]at c;obtain⟨a,j,_,l⟩:=z i c;simp[F,j]
 .rw[f]at c;obtain⟨a,j,_,l⟩:=z i c;rw[l];exact W a (a0H j)
 .rw[f]at c;obtain⟨a,j,n,l⟩:=z i c;rw[l];exact fD (N i a _ j n).1
 .rw[f,<- d,<- B.length];exact hz
 .rw[f]at hD;have x:KV (uR b) (AR (λi=>(b.getD i (.inl 0,.non)).1) (λi=>(g.getD i (0,.none,.none)).2.2) b.length):=by
   have:=uS (key:=λi=>(b.getD i (.inl 0,.non)).1) (val:=λi=>(g.getD i (0,.none,.none)).2.2) b.length (S0 _) λi e c n=>?_
   .rwa [a08]at this
   .obtain⟨a,j,w,l⟩:=z i c;rw[n]at w;cases w;rw[l];exact⟨by rw[a03,n],(N i a _ j n).2⟩
  have A:=I.hok.fresh (S0 `g);refine⟨.ref `g,_,I.laid O (S0 _) (nj ?_ (a0C.mpr (Ne.symm (a0e I.big))) x hD),rfl,q _ A⟩;rw[x.length];refine a0l (cX _ _ _) ?_;rw[<- d,<- B.length];exact hz
end
def AS:List PV->Option (List (Key×PV))
 |[]=>some []
 |.t [k,v]::a=>(pk k).bind λq=>(AS a).map ((q,v)::·)
 |_=>none
def Uy(es:Sr):List (Key×PV):=es.foldl (λa b=>dput a b.1 b.2) []
def Uz:List PV->Out PV
 |[.d a]=>.ok (.d a)
 |[.l a]=>ZH ((AS a).map λb=>.d (Uy b))
 |_=>.wall
section
variable {W:RC}{M:RY}{H:Hp}
theorem uT:∀{a:Sn}{f:Sh}{b:Sr},yx W M H a f->AS a=some b->∃ev,cZ W.K H f ev/\jY W M H b ev
 |[],_,_,h,e=>by cases e;cases h;exact⟨[],rfl,rfl⟩
 |x::a,_,b,h,e=>by
  obtain⟨v,r,rfl,s,m⟩:=h;unfold AS at e;split at e
  .cases ‹_::_=[]›
  .rename_i k y z d;cases d;obtain⟨q,j,e⟩:=a0f.mp e;obtain⟨C,hz,rfl⟩:=v0.mp e;obtain⟨ev,l,n⟩:=uT m hz;obtain⟨p,B,rfl,hp,A,w,rfl,i,c,u,rfl,o,g⟩:=s;cases g;cases V4 (qb.iff.mpr i) j;exact⟨(q,c)::ev,⟨p,q,c,ev,rfl,rfl,hp,l⟩,⟨c,ev,rfl,o,n⟩⟩
  .cases e
theorem bM:∀{es:Sr}{ev:Sk}{a:Sr}{av:Sk},jY W M H a av->jY W M H es ev->jY W M H (es.foldl (λacc kv=>dput acc kv.1 kv.2) a) (ev.foldl (λacc kv=>putK acc kv.1 kv.2) av)
 |[],_,_,_,h,e=>by cases(show _=_ from e);exact h
 |kx::es,_,a,av,h,⟨v,q,e,h1,h2⟩=>by subst e;rw[a1v,a1v];exact bM (h.put h1) h2
def BS:LfF W (λc H Q=>LB c H Q\/DC W.K c H Q) Uz:=λM C B H o c Q n h q=>by
 unfold Uz at q;split at q
 .obtain⟨v,r,rfl,⟨p,f,rfl,_,a,d⟩,b⟩:=h;cases b;exact .inl ⟨p,f,rfl,a,λl a=>q _ _ (zD.upd a) (Ft d a)⟩
 .obtain⟨z,e,q⟩:=yZ q;obtain⟨f,g,rfl⟩:=v0.mp e;obtain⟨v,r,rfl,⟨p,m,rfl,_,a,d⟩,b⟩:=h;cases b;obtain⟨ev,i,j⟩:=uT d g;exact .inr ⟨p,m,ev,rfl,SqL.of a,i,λl a=>q _ _ (zD.upd a) (Ft (bM rfl j) a)⟩
 .exact q.elim
end
def nQ(d:X.calm=true)(a:Gl X "dict")(b:X.mg "dict"=none)(f:AM X C S ws [e] ms)(he:starEach [e] X.env=[(false,eval e X.env)]:=by rfl):FM X C S (.Call (.Name "dict" p) [e] [] pos) (zg Uz ms):=
 nF (λc=>c▸rC.or (rE d)) BS a b PyProof.Rows.boot_dict f (he:=he)
section
variable {prog:Sl}{w:So}{A:Su}{E:RX}{s:RZ}
def len_dict:typeLookup (.type "dict") "__len__"=pure (some (.builtin "dict.__len__")):=by rw[a22,a2c];kernel_rfl
def FP(a:s.TypeIs (.ref d) "dict")(h:Q false s):wpAny (model prog w) A (Builtin.List.listLengthHint (.ref d)) Q E s:=by
 refine u8 (wpAny_specialOf a len_dict ?_);generalize hid:("dict.__len__":String)=id0
 (fail_if_success (clear hid id0));wp_delta
 rw[show splitId id0=some ("dict","__len__")from by subst hid;decide +kernel];refine u8 (a19 (b:=true) a rfl ?_);subst hid;rw[if_neg `b];refine u8 (a1S a ?_);exact T1 h
variable {K:Type}[DecidableEq K] {knd:KeyKind prog w K}
def FQ{Q:RX}{d:Addr}{kvs:List (K×Value)}{ep:Nat}(W:A.handled=none)(X:(d==sysModules)=false)(hm:s.heap.DictAt knd d kvs ep)(hn:kvs.length<=sizeLine)
  (hQ:∀I tk c O,(∀b o,s.heap.get? b=some o->I.get? b=some o)->I.get? `g=some { cls:=.type "list",dict:=none,data:=.seq c O,slots:=#[] }->ItemsOf (λi v=>∃k x,kvs[i]?=some (k,x)/\knd.is k v=true) c kvs.length->Q (.ref `g) { s with heap:=I,toks:=tk }):
  wpAny (model prog w) A (call (.type "list") [.ref d]) Q E s:=by
 have R:d<s.heap.objs.size:=by obtain⟨o,_,Y,_⟩:=hm;exact S9 Y
 refine callType_codes (Q₁:=λF g=>F=.ref `g/\g={ s with heap:=s.heap.push { cls:=.type "list",data:=.seq #[] } }) PySem.F.called_list (PySem.F.typeCall_list_1 _) PySem.F.entry_list_init
  (code_list_new _ ⟨rfl,rfl⟩) λF g C=>?_
 obtain⟨rfl,rfl⟩:=C;have J:(s.heap.push { cls:=.type "list",data:=.seq #[] }).get? `g=some { cls:=.type "list",data:=.seq #[] }:=a0k _ rfl;refine⟨⟨_,J,rfl⟩,PySem.F.args_list_init_2 _ _,?_⟩;refine u8 ?_;refine u8 (wpAny_seqItems J rfl (T1 ?_));refine u8 (a23 J rfl ?_);have a:=a0V (Obj.mapSeq (λ_=>(#[]:Array Value))) J rfl;refine u8 (wpAny_letGo ?_);have N:∀b o,s.heap.get? b=some o->((s.heap.push { cls:=.type "list",data:=.seq #[] }).update s.heap.objs.size (Obj.mapSeq (λ_=>(#[]:Array Value)))).get? b=some o:=λb o e=>
  (a0r _ _ (a1B (S9 e))).trans (S4 _ e)
 generalize((s.heap.push { cls:=.type "list",data:=.seq #[] }).update s.heap.objs.size (Obj.mapSeq (λ_=>(#[]:Array Value))))=h2 at a N;have l:=hm.at' λo e=>N _ _ e;have B:∀{r:RZ},r.heap.DictAt knd d kvs ep->r.TypeIs (.ref d) "dict":=λz=>z.dictOf.typeIs;refine u8 (a1S (B l) ?_);have f:=a1B R;have h1:Builtin.List.listSameRef (.ref `g) (.ref d)=false:=by simp[Builtin.List.listSameRef,f]
 rw[if_neg `c];refine u8 (wpAny_pyIter_dict X l ?_);have j:∀b o,h2.get? b=some o->(h2.push { cls:=.type "dict_keyiterator",data:=.fields #[.ref d,.int 0 0,.int kvs.length 0,.int ep 0] }).get? b=some o:=λb o e=>S4 _ e;have m:=l.at' λo e=>j _ _ e;refine u8 (a0N (FP (B m) ?_));refine u8 (a3p ?_);have s2:=S9 a;have Z:=a0e (a2i R s2);have h:=j _ _ a;have n:(h2.push { cls:=.type "dict_keyiterator",data:=.fields #[.ref d,.int 0 0,.int kvs.length 0,.int ep 0] }).get? h2.objs.size=some { cls:=.type "dict_keyiterator",data:=.fields #[.ref d,.int 0 0,.int kvs.length 0,.int ep 0] }:=a0k _ rfl;have S:=λb o e=>j _ _ (N b o e);generalize(h2.push { cls:=.type "dict_keyiterator",data:=.fields #[.ref d,.int 0 0,.int kvs.length 0,.int ep 0] })=h3 at h n S m;refine u8 (u8 (a23 h rfl ?_));have p:=a0V (Obj.mapSeq (λx:Array Value=>x.push Value.none)) h rfl;refine a23 p rfl ?_;have q:=a0V (Obj.mapSeq (λx:Array Value=>x.pop)) p rfl;have L:∀b o,b≠`g->h3.get? b=some o->((h3.update s.heap.objs.size (Obj.mapSeq λx=>x.push Value.none)).update s.heap.objs.size (Obj.mapSeq λx=>x.pop)).get? b=some o:=λb o P e=>
  (a0r _ _ (Ne.symm P)).trans ((a0r _ _ (Ne.symm P)).trans e)
 have u:=m.at' λo e=>L _ _ (Ne.symm f) e;have G:=L _ _ (a1B s2) n;have U:∀b o,s.heap.get? b=some o->((h3.update s.heap.objs.size (Obj.mapSeq λx=>x.push Value.none)).update s.heap.objs.size (Obj.mapSeq λx=>x.pop)).get? b=some o:=λb o e=>L b o (a0e (S9 e)) (S b o e);generalize((h3.update s.heap.objs.size (Obj.mapSeq λx=>x.push Value.none)).update s.heap.objs.size (Obj.mapSeq λx=>x.pop))=h5 at q u G U;refine T1 ⟨a3u PySem.F.plain_extend_loop _,codeAny_extend_loopS (Walks.dictKeys (A:=A.in1.in1) W h2.objs.size d Z kvs ep).toS hn s.heap.objs.size `c _ kvs.length 0 _ _ _ rfl (a0A _) (show _/\_ from⟨⟨_,G,rfl,rfl⟩,u⟩) q (ItemsOf.nil _) λr c O D M H=>?_⟩;rw[Moved.eq_with D];refine⟨rfl,hQ r.heap r.toks c O (λb o e=>D.heap b o (λy=>?_) (U b o e)) M H⟩;have:=S9 e;rcases T6.mp y with e'|hm
 .exact a0e this e'
 .exact a0e (a2i this s2) (T9.mp hm)
end
section
variable {X:Cx}
def DD:List V->Hp->VK->Prop:=λc H Q=>∃p a,c=[.ref p]/\Rd H p (.dK a)/\∀l,H l=none->Q (.ref l) (upd H l (.lst (a.map λb=>kV b.1)))
def rF(F:X.calm=true):ZZ X (.type "list") DD:=by
 intro c s W H Z us Q I r h;obtain⟨p,M,rfl,C,q⟩:=h;obtain⟨u,rfl,P⟩:=vals1 r;cases P;obtain⟨z,w,e,a,o,N,f,D,E,S,J,O,G⟩:=Kh I.hok C;have d:e.length=M.length:=a.length.symm;refine FQ (I.ok.hd F) w ⟨o,N,D,E,S,J,O,G⟩ `a λU g b c' B R l=>?_;refine BO I (S0 _) B R ?_ ?_ ?_ q
 .rw[f8];exact z
 .rw[f8,l.1,d]
 .intro j x v i T;obtain⟨k,y,n,L⟩:=l.2 j v T;rw[a0d]at i;obtain⟨m,A,rfl⟩:=v0.mp i;obtain⟨Y,K⟩:=Ly a A;rw[K]at n;cases n;exact uO L
end
def qW:List PV->Out PV
 |[.l a]=>.ok (.l a)
 |[.t a]=>.ok (.l a)
 |[.sc a]=>.ok (.l (a.map PV.i))
 |[.d b]=>.ok (.l (b.map λc=>kP c.1))
 |_=>.wall
theorem nR{W:RC}{M:RY}{H:Hp}:∀{a:Sr}{b:Sk},jY W M H a b->yx W M H (a.map λc=>kP c.1) (b.map λd=>kV d.1)
 |[],_,h=>by cases(show _=_ from h);rfl
 |c::r,_,⟨v,q,e,g,f⟩=>by subst e;exact⟨_,_,rfl,DB _,nR f⟩
def BU(L:LfF W r Fs):LfF W (λa H Q=>r a H Q\/DD a H Q) qW:=λM C B H f a Q n h q=>by
 unfold qW at q;split at q
 .exact .inl (L M C B H _ a Q n h q)
 .exact .inl (L M C B H _ a Q n h q)
 .exact .inl (L M C B H _ a Q n h q)
 .obtain⟨v,r,rfl,⟨p,c,rfl,_,b,d⟩,e⟩:=h;cases(show _=_ from e);exact .inr ⟨p,c,rfl,b,λl b=>q _ _ (zD.upd b) (Jp (nR d) b)⟩
 .exact q.elim
def jJ(d:X.calm=true)(a:Gl X "list")(b:X.mg "list"=none)(f:AM X C S ws [e] ms)(he:starEach [e] X.env=[(false,eval e X.env)]:=by rfl):FM X C S (.Call (.Name "list" p) [e] [] pos) (zg qW ms):=
 nF (λc=>c▸fB.or (rF d)) (BU Fu) a b PyProof.Rows.boot_list f (he:=he)
inductive HV where
 |v (x:PV)|g (k:Nat)|t (xs:List HV)
inductive Cell where
 |l (xs:List HV)|d (kvs:List (Key×HV))|z (kvs:List (Key×HV))|o (c:Nat) (fs:List (Str×HV))|y (b:Bool)|m (l c:Nat) (q:Str)|u (kvs:List (List Key×HV))|w (ks:SO)
abbrev AH:=List Cell
abbrev Jc:=List (Option HV)
structure HC where
 W:RC
 H0:Hp
 M0:Addr->Prop
def HM(Z:HC)(A:Se)(n:Nat):Addr->Prop:=λa=>(Z.M0 a\/Z.H0 a=none)/\∀k,k<n->A k≠a
mutual
def wC(W:RC)(M:RY)(A:Se)(n:Nat)(H:Hp):HV->V->Prop
 |.v x,v=>Rep W M H x v
 |.g k,v=>k<n/\v=.ref (A k)
 |.t b,v=>∃p a,v=.ref p/\SqT W.K H p a/\zQ W M A n H b a
def zQ(W:RC)(M:RY)(A:Se)(n:Nat)(H:Hp):List HV->List V->Prop
 |[],a=>a=[]
 |x::b,a=>∃v r,a=v::r/\wC W M A n H x v/\zQ W M A n H b r
end
def qL{b:Type}(R:HV->V->Prop):List (b×HV)->List (b×V)->Prop
 |[],a=>a=[]
 |c::r,a=>∃v q,a=(c.1,v)::q/\R c.2 v/\qL R r q
section
variable {W:RC}{M M':RY}{A A':Se}{n n':Nat}{H H':Hp}
mutual
theorem wC.gen(f:Fr M H H')(s:∀a,M a->H a≠none->M' a)(b:n<=n')(c:∀k,k<n->A' k=A k):∀{x:HV}{v:V},wC W M A n H x v->wC W M' A' n' H' x v
 |.v x,v,h=>Rep.gen f s h
 |.g k,v,h=>⟨T7 h.1 b,by rw[c k h.1];exact h.2⟩
 |.t g,v,h=>by unfold wC at h ⊢;obtain⟨p,d,e,r,q⟩:=h;exact⟨p,d,e,f.sqT r,zQ.gen f s b c q⟩
theorem zQ.gen(f:Fr M H H')(s:∀a,M a->H a≠none->M' a)(b:n<=n')(c:∀k,k<n->A' k=A k):∀{x:List HV}{v:Sh},zQ W M A n H x v->zQ W M' A' n' H' x v
 |[],v,h=>h
 |x::j,i,h=>by unfold zQ at h ⊢;obtain⟨v,r,e,g,d⟩:=h;exact⟨v,r,e,wC.gen f s b c g,zQ.gen f s b c d⟩
end
theorem qL.imp{f:Type}{R g:HV->V->Prop}(h:∀x v,R x v->g x v):∀{c:List (f×HV)}{d:List (f×V)},qL R c d->qL g c d
 |[],_,q=>q
 |_::_,_,⟨v,q,e,a,b⟩=>⟨v,q,e,h _ _ a,qL.imp h b⟩
def Mde(l c:Nat)(q:Str)(H:Hp)(ps:SJ):Prop:=∃a b d t,ps = #[rawInt l,rawInt c,.ref a]/\H a=some (.frz b (.own a))/\b.data=.fields d/\d[1]?=some (.str q t)
def Mde.gen(f:Fr M H H'):Mde l c q H ps->Mde l c q H' ps:=λ⟨a,b,d,t,e,h,r⟩=>⟨a,b,d,t,e,f _ _ h (.inr trivial),r⟩
def f9(W:RC)(M:RY)(A:Se)(n:Nat)(H:Hp)(p:Addr):Cell->Prop
 |.l i=>∃f,H p=some (.lst f)/\zQ W M A n H i f
 |.d d=>∃a,H p=some (.dK a)/\qL (wC W M A n H) d a
 |.z d=>∃o a,H p=some (.frz o (.dK a))/\qL (wC W M A n H) d a
 |.o c fs=>∃g a,H p=some (.ins (W.cls c) g a)/\qL (wC W M A n H) fs a
 |.y b=>p=W.cls 1000/\∃e,H p=some (.tbl e)/\(b=true->e = #[])
 |.m l c q=>p=W.cls 1000/\∃e,H p=some (.tbl e)/\Mde l c q H e
 |.u d=>∃a,H p=some (.dT a)/\qL (wC W M A n H) d a
 |.w h=>H p=some (.tup (h.map kV))
def f9.gen{p:Addr}(hp:H' p=H p)(f:Fr M H H')(s:∀a,M a->H a≠none->M' a)(d:n<=n')(g:∀k,k<n->A' k=A k):∀{c:Cell},f9 W M A n H p c->f9 W M' A' n' H' p c
 |.l _,⟨l,e,q⟩=>⟨l,hp.trans e,q.gen f s d g⟩
 |.d _,⟨b,e,q⟩=>⟨b,hp.trans e,q.imp λ_ _=>wC.gen f s d g⟩
 |.z _,⟨o,b,e,q⟩=>⟨o,b,hp.trans e,q.imp λ_ _=>wC.gen f s d g⟩
 |.o _ _,⟨j,b,e,q⟩=>⟨j,b,hp.trans e,q.imp λ_ _=>wC.gen f s d g⟩
 |.y _,⟨i,h,e,q⟩=>⟨i,h,hp.trans e,q⟩
 |.m _ _ _,⟨i,h,e,q⟩=>⟨i,h,hp.trans e,q.gen f⟩
 |.u _,⟨b,e,q⟩=>⟨b,hp.trans e,q.imp λ_ _=>wC.gen f s d g⟩
 |.w _,e=>hp.trans e
def f9.ob{p:Addr}:∀{c:Cell},f9 W M A n H p c->∃o,H p=some o
 |.l _,⟨_,e,_⟩=>⟨_,e⟩
 |.d _,⟨_,e,_⟩=>⟨_,e⟩
 |.z _,⟨_,_,e,_⟩=>⟨_,e⟩
 |.o _ _,⟨_,_,e,_⟩=>⟨_,e⟩
 |.y _,⟨_,_,e,_⟩=>⟨_,e⟩
 |.m _ _ _,⟨_,_,e,_⟩=>⟨_,e⟩
 |.u _,⟨_,e,_⟩=>⟨_,e⟩
 |.w _,e=>⟨_,e⟩
end
structure Gro(Z:HC)(A:Se)(n:Nat)(H:Hp)(A':Se)(n':Nat)(H':Hp):Prop where
 le:n<=n'
 agr:∀k,k<n->A' k=A k
 fresh:∀k,n<=k->k<n'->H (A' k)=none
 fr:Fr (HM Z A n) H H'
 dom:∀a,H' a=none->H a=none
structure HH(Z:HC)(A:Se)(H:Hp)(G:AH):Prop where
 same:zD Z.H0 H
 cell:∀(k:Nat) c,G[k]?=some c->f9 Z.W (HM Z A G.length) A G.length H (A k) c
 inj:∀j k,j<G.length->k<G.length->A j=A k->j=k
 own:∀k,k<G.length->Z.H0 (A k)=none
structure HR(Z:HC)(A:Se)(H:Hp)(σ:St)(ρ:Jc)(G:AH):Prop extends HH Z A H G where
 len:σ.length=ρ.length
 var:∀(i:Nat) x,ρ[i]?=some (some x)->∃v,σ[i]?=some (some v)/\wC Z.W (HM Z A G.length) A G.length H x v
section
variable {Z:HC}{A A' A'':Se}{n n' n'':Nat}{H H' H'':Hp}{G G':AH}{σ:St}{ρ:Jc}
def Gro.sM(g:Gro Z A n H A' n' H'):∀a,HM Z A n a->H a≠none->HM Z A' n' a:=λa m h=>⟨m.1,λk b e=>by
 by_cases c:k<n
 .exact m.2 k c (by rw[<- g.agr k c];exact e)
 .exact h (e▸g.fresh k `a b)⟩
def Gro.same(s:zD H H'):Gro Z A n H A n H':=⟨S0 _,λ_ _=>rfl,λk a b=>absurd b `a,s.fr,λa h=>zD.none s h⟩
def Gro.refl:Gro Z A n H A n H:=Gro.same (zD.refl _)
def Gro.trans(g:Gro Z A n H A' n' H')(k:Gro Z A' n' H' A'' n'' H''):Gro Z A n H A'' n'' H'':=by
 refine⟨a0l g.le k.le,λj b=>(k.agr j (T7 b g.le)).trans (g.agr j b),λj e d=>?_,λa o h m=>?_,λa h=>g.dom a (k.dom a h)⟩
 .by_cases c:j<n'
  .rw[k.agr j c];exact g.fresh j e c
  .exact g.dom _ (k.fresh j `a d)
 .refine k.fr a o (g.fr a o h m) (m.imp (λm=>g.sM a m (by rw[h];exact λz=>by cases z)) id)
def wC.gro(g:Gro Z A n H A' n' H')(h:wC W (HM Z A n) A n H x v):wC W (HM Z A' n') A' n' H' x v:=h.gen g.fr g.sM g.le g.agr
def zQ.gro(g:Gro Z A n H A' n' H')(h:zQ W (HM Z A n) A n H x v):zQ W (HM Z A' n') A' n' H' x v:=h.gen g.fr g.sM g.le g.agr
def HR.gro(R:HR Z A H σ ρ G)(h:HH Z A' H' G')(g:Gro Z A G.length H A' G'.length H'):HR Z A' H' σ ρ G':=
 ⟨h,R.len,λi x e=>let⟨v,h1,h2⟩:=R.var i x e;⟨v,h1,h2.gro g⟩⟩
def HH.ob(h:HH Z A H G)(a:k<`e):∃o,H (A k)=some o:=(h.cell k _ (S6 a)).ob
def HH.keep(h:HH Z A H G)(s:zD H H'):HH Z A H' G:=⟨h.same.trans s,λk c e=>by
 have q:=h.cell k c e;obtain⟨o,a⟩:=q.ob;exact q.gen ((s _ _ a).trans a.symm) s.fr (λ_ m _=>m) (S0 _) λ_ _=>rfl,h.inj,h.own⟩
def HH.new(h:HH Z A H G):New (HM Z A `e) H:=λp hp=>⟨.inr (zD.none h.same hp),λk b e=>by
 obtain⟨o,a⟩:=h.ob b;rw[e,hp]at a;cases a⟩
def HR.keep(R:HR Z A H σ ρ G)(s:zD H H'):HR Z A H' σ ρ G:=R.gro (R.toHH.keep s) (Gro.same s)
def exA(A:Se)(n:Nat)(p:Addr):Nat->Addr:=λk=>if k=n then p else A k
def K0:exA A n p n=p:=if_pos rfl
def K1(h:k<n):exA A n p k=A k:=if_neg `a
def Gro.ext(s:zD H H')(hp:H p=none):Gro Z A n H (exA A n p) (n+1) H':=
 ⟨a0Y _,λk b=>K1 b,λk d c=>by rw[show k=n by omega,K0];exact hp,s.fr,λa h=>zD.none s h⟩
def HH.alloc(h:HH Z A H G)(s:zD H H')(hp:H p=none)(v:f9 Z.W (HM Z (exA A G.length p) (`e+1)) (exA A G.length p) (`e+1) H' p c):HH Z (exA A G.length p) H' (G++[c]):=by
 have g:Gro Z A G.length H (exA A G.length p) (`e+1) H':=Gro.ext s hp;have i:(G++[c]).length=`e+1:=by simp
 have m:∀k,k<`e->A k≠p:=λk a e=>by obtain⟨o,b⟩:=h.ob a;rw[e,hp]at b;cases b
 refine⟨h.same.trans s,λk d e=>?_,λj k u a e=>?_,λk a=>?_⟩
 .rw[i];by_cases a:k<`e
  .rw[a0a a]at e;have q:=h.cell k d e;obtain⟨o,b⟩:=q.ob;rw[K1 a];exact q.gen ((s _ _ b).trans b.symm) g.fr g.sM g.le g.agr
  .have w:=(R8.mp e).1;have r:k=G.length:=`d
   subst r;rw[a0b (S0 _),a0W]at e;cases e;rw[K0];exact v
 .by_cases f:j=`e
  .by_cases l:k=`e
   .rw[f,l]
   .rw[f,K0,K1 `a]at e;exact absurd e.symm (m k `a)
  .by_cases l:k=`e
   .rw[l,K0,K1 `a]at e;exact absurd e (m j `a)
   .rw[K1 `a,K1 `a]at e;exact h.inj j k `a `a e
 .by_cases f:k=`e
  .rw[f,K0];exact zD.none h.same hp
  .rw[K1 `a];exact h.own k `a
def HH.frw(h:HH Z A H G)(f:k<`e)(c:H (A k)=Option.some o0)(d:¬Imm o0):Gro Z A G.length H A G.length (upd H (A k) o):=by
 refine⟨S0 _,λ_ _=>rfl,λk a b=>absurd b `a,λa q e m=>?_,λa e=>?_⟩
 .have:a≠A k:=λz=>by
   rcases m with m|m
   .exact m.2 k f z.symm
   .rw[z,c]at e;cases e;exact d m
  rw[zm this];exact e
 .by_cases z:a=A k
  .rw[z,zj]at e;cases e
  .rw[zm z]at e;exact e
def HH.write(h:HH Z A H G)(l:k<`e)(m:H (A k)=Option.some o0)(p:¬Imm o0)(r:f9 Z.W (HM Z A `e) A G.length (upd H (A k) o) (A k) c):HH Z A (upd H (A k) o) (G.set k c):=by
 have g:=h.frw (o:=o) l m p;have f:(G.set k c).length=G.length:=a0s ..;refine⟨λa q e=>?_,λj d e=>?_,λi j s b=>h.inj i j (f▸s) (f▸b),λj b=>h.own j (f▸b)⟩
 .have:a≠A k:=λz=>by rw[z,h.own k l]at e;cases e
  rw[zm this];exact h.same a q e
 .rw[f];by_cases b:k=j
  .subst b;rw[a0j l]at e;cases e;exact r
  .rw[T8 b]at e;have u:=(R8.mp e).1;exact(h.cell j d e).gen (zm λz=>b (h.inj j k u l z).symm) g.fr g.sM g.le g.agr
def HR.set(R:HR Z A H σ ρ G)(c:wC Z.W (HM Z A `e) A G.length H x v):HR Z A H (σ.set i (Option.some v)) (ρ.set i (Option.some x)) G:=by
 refine⟨R.toHH,by rw[a0s,a0s];exact R.len,λj y e=>?_⟩;by_cases a:i=j
 .subst a;have b:i<ρ.length:=by
   have:=(R8.mp e).1
   rwa [a0s]at this
  rw[a0j b]at e;cases e;exact⟨v,by rw[a0j (by rw[R.len];exact b)],c⟩
 .rw[T8 a]at e ⊢;exact R.var j y e
end
inductive HX(α:Type)where
 |ok (a:α) (G:AH)|exc (c:Nat) (fs:Ss) (G:AH)|wall
def HX.bind{d b:Type}:HX d->(d->AH->HX b)->HX b
 |.ok a G,f=>f a G
 |.exc c fs G,_=>.exc c fs G
 |.wall,_=>.wall
def BV(Z:HC)(E:XK)(A:Se)(n:Nat)(H:Hp)(c:Nat)(fs:Ss)(G':AH):Prop:=∀d a e b f,HH Z d a G'->Gro Z A n H d G'.length a->a e=some (XC e (Z.W.cls c) b)->a b=some (XD b f)->vp Z.W (HM Z d G'.length) a fs f->E (.ref e) (some b) a
def HPx{e:Type}(Z:HC)(E:XK)(A:Se)(n:Nat)(H:Hp)(K:e->(Nat->Addr)->Hp->AH->Prop):HX e->Prop
 |.ok x a=>∀d b,HH Z d b a->Gro Z A n H d a.length b->K x d b a
 |.exc c fs a=>BV Z E A n H c fs a
 |.wall=>False
section
variable {α β:Type}{K:β->(Nat->Addr)->Hp->AH->Prop}{K':α->(Nat->Addr)->Hp->AH->Prop}
def BV.gro(h:BV Z E A n H c fs G)(g:Gro Z A n H A' n' H'):BV Z E A' n' H' c fs G:=λd a e f b i j=>h d a e f b i (g.trans j)
def HPx.gro{o:HX β}(h:HPx Z E A n H K o)(g:Gro Z A n H A' n' H'):HPx Z E A' n' H' K o:=by
 cases o with
 |ok x e=>exact λb a d f=>h b a d (g.trans f)
 |exc c fs e=>exact BV.gro h g
 |wall=>exact h
def HPx.bind{o:HX α}{f:α->AH->HX β}(h:HPx Z E A n H K (o.bind f))(k:∀x d b a,HH Z d b a->Gro Z A n H d a.length b->HPx Z E d a.length b K (f x a)->K' x d b a):HPx Z E A n H K' o:=by
 cases o with
 |ok x a=>exact λi g j e=>k x i g a j e (HPx.gro (o:=f x a) h e)
 |exc c fs a=>exact h
 |wall=>exact h
end
abbrev HME:=Jc->AH->HX HV
abbrev HMT:=Jc->AH->HX Bool
abbrev HMA:=Jc->AH->HX (List HV)
def KV'(Z:HC)(Q:VK):HV->(Nat->Addr)->Hp->AH->Prop:=λx c b a=>∀v,wC Z.W (HM Z c a.length) c a.length b x v->Q v b
def KT'(Q:Bool->Hp->Prop):Bool->(Nat->Addr)->Hp->AH->Prop:=λb _ a _=>Q b a
def KA'(Z:HC)(Q:List V->Hp->Prop):List HV->(Nat->Addr)->Hp->AH->Prop:=λe c d b=>∀a,zQ Z.W (HM Z c b.length) c b.length d e a->Q a d
def HE(X:Cx)(W:RC)(E:XK)(e:Sf)(m:HME):Prop:=X.K=W.K->∃b,PE X e b/\∀(Z:HC),Z.W=W->∀A H c a G,HR Z A H c a G->∀Q,HPx Z E A G.length H (KV' Z Q) (m a G)->b c H Q
def HT(X:Cx)(W:RC)(E:XK)(e:Sf)(m:HMT):Prop:=X.K=W.K->∃b,PT X e b/\∀(Z:HC),Z.W=W->∀A H c a G,HR Z A H c a G->∀Q,HPx Z E A G.length H (KT' Q) (m a G)->b c H Q
def HA(X:Cx)(W:RC)(E:XK)(es:Sd)(m:HMA):Prop:=X.K=W.K->∃b,PA X es b/\∀(Z:HC),Z.W=W->∀A H c a G,HR Z A H c a G->∀Q,HPx Z E A G.length H (KA' Z Q) (m a G)->b c H Q
mutual
def imm:PV->Bool
 |.i _=>true | .s _=>true | .b _=>true | .n=>true
 |.t a=>lH a
 |.l _=>false | .d _=>false | .o _ _=>false | .x _ _=>false | .sc _=>false | .dt _=>false
def lH:List PV->Bool
 |[]=>true
 |x::a=>imm x&&lH a
end
def BW:List (Str×PV)->Bool
 |[]=>true
 |x::a=>imm x.2&&BW a
section
variable {W:RC}{M M':RY}{H:Hp}
mutual
theorem V9:∀{x:PV}{v:V},imm x=true->Rep W M H x v->Rep W M' H x v
 |.i _,_,_,h=>h
 |.s _,_,_,h=>h
 |.b _,_,_,h=>h
 |.n,_,_,h=>h
 |.t c,_,e,h=>by obtain⟨p,b,a,r,q⟩:=h;exact⟨p,b,a,r,K2 e q⟩
 |.l _,_,e,_=>by cases e
 |.d _,_,e,_=>by cases e
 |.o _ _,_,e,_=>by cases e
 |.x _ _,_,e,_=>by cases e
 |.sc _,_,e,_=>by cases e
 |.dt _,_,e,_=>by cases e
theorem K2:∀{x:Sn}{v:Sh},lH x=true->yx W M H x v->yx W M' H x v
 |[],_,_,h=>h
 |x::d,_,e,h=>by unfold lH at e;simp only[Bool.and_eq_true]at e;obtain⟨v,r,a,c,b⟩:=h;exact⟨v,r,a,V9 e.1 c,K2 e.2 b⟩
end
theorem Jd:∀{x:Ss}{v:Sy},BW x=true->vp W M H x v->vp W M' H x v
 |[],_,_,h=>h
 |x::d,_,e,h=>by unfold BW at e;simp only[Bool.and_eq_true]at e;obtain⟨v,r,a,c,b⟩:=h;exact⟨v,r,a,V9 e.1 c,Jd e.2 b⟩
def V3:List Bool->Jc->Option Sto
 |_,[]=>some []
 |[],_::a=>(V3 [] a).map (none::·)
 |false::bs,_::a=>(V3 bs a).map (none::·)
 |true::bs,some (.v x)::a=>(V3 bs a).map (some x::·)
 |true::_,_=>none
def e9(f:HV->Option PV):List HV->Option (List PV)
 |[]=>some []
 |x::a=>(f x).bind λy=>(e9 f a).map (y::·)
def lJ{a:Type}(f:HV->Option PV):List (a×HV)->Option (List (a×PV))
 |[]=>some []
 |x::b=>(f x.2).bind λy=>(lJ f b).map ((x.1,y)::·)
def qx(G:AH):Nat->HV->Option PV
 |0,_=>none
 |_+1,.v x=>some x
 |n+1,.t b=>(e9 (qx G n) b).map .t
 |n+1,.g k=>match G[k]? with
  |some (.l b)=>(e9 (qx G n) b).map .l
  |some (.d a)=>(lJ (qx G n) a).map .d
  |some (.z a)=>(lJ (qx G n) a).map .d
  |some (.o c fs)=>(lJ (qx G n) fs).map (.o c)
  |some (.w d)=>some (.t (d.map kP))
  |_=>none
def Yu(G:AH):List Bool->Jc->Option Sto
 |_,[]=>some []
 |[],_::a=>(Yu G [] a).map (none::·)
 |false::bs,_::a=>(Yu G bs a).map (none::·)
 |true::bs,some x::a=>(qx G 8 x).bind λy=>(Yu G bs a).map (some y::·)
 |true::_,none::_=>none
theorem c9{f:HV->Option PV}{N:RY}(hf:∀x v y,wC W M A n H x v->f x=some y->Rep W N H y v):∀{b:List HV}{c:Sh}{a:Sn},zQ W M A n H b c->e9 f b=some a->yx W N H a c
 |[],_,_,h,e=>by cases e;exact h
 |x::b,_,a,h,e=>by obtain⟨v,r,rfl,j,g⟩:=h;unfold e9 at e;obtain⟨y,d,e⟩:=a0f.mp e;obtain⟨l,i,rfl⟩:=v0.mp e;exact⟨v,r,rfl,hf _ _ _ j d,c9 hf g i⟩
theorem c_{f:HV->Option PV}{N:RY}(hf:∀x v y,wC W M A n H x v->f x=some y->Rep W N H y v):∀{b:List (Key×HV)}{c:Sk}{a:Sr},qL (wC W M A n H) b c->lJ f b=some a->jY W N H a c
 |[],_,_,h,e=>by cases e;exact h
 |x::b,_,a,h,e=>by obtain⟨v,r,rfl,j,g⟩:=h;unfold lJ at e;obtain⟨y,d,e⟩:=a0f.mp e;obtain⟨l,i,rfl⟩:=v0.mp e;exact⟨v,r,rfl,hf _ _ _ j d,c_ hf g i⟩
theorem nS{f:HV->Option PV}{N:RY}(hf:∀x v y,wC W M A n H x v->f x=some y->Rep W N H y v):∀{b:List (Str×HV)}{c:Sy}{a:Ss},qL (wC W M A n H) b c->lJ f b=some a->vp W N H a c
 |[],_,_,h,e=>by cases e;exact h
 |x::b,_,a,h,e=>by obtain⟨v,r,rfl,j,g⟩:=h;unfold lJ at e;obtain⟨y,d,e⟩:=a0f.mp e;obtain⟨l,i,rfl⟩:=v0.mp e;exact⟨v,r,rfl,hf _ _ _ j d,nS hf g i⟩
end
section
variable {Z:HC}{A:Se}{H:Hp}{G:AH}{σ:St}{ρ:Jc}
theorem uU{W:RC}{M:RY}{H:Hp}:∀a:List Key,yx W M H (a.map kP) (a.map kV)
 |[]=>rfl
 |k::a=>⟨_,_,rfl,DB k,uU a⟩
theorem Qc(h:HH Z A H G):∀(n:Nat)(x:HV)(v:V)(y:PV),wC Z.W (HM Z A `e) A G.length H x v->qx G n x=some y->Rep Z.W (λ_=>True) H y v
 |0,_,_,_,_,e=>by cases e
 |n+1,.v x,v,y,r,e=>by cases e;exact Rep.sub r λ_ _ _=>trivial
 |n+1,.t i,v,y,r,e=>by obtain⟨g,a,rfl⟩:=v0.mp e;obtain⟨p,b,rfl,s,q⟩:=r;exact⟨p,b,rfl,s,c9 (Qc h n) q a⟩
 |n+1,.g k,v,y,r,e=>by
  obtain⟨m,rfl⟩:=r;unfold qx at e;split at e
  .rename_i i d;obtain⟨g,a,rfl⟩:=v0.mp e;obtain⟨b,f,q⟩:=h.cell k _ d;exact⟨A k,b,rfl,trivial,f,c9 (Qc h n) q a⟩
  .rename_i i d;obtain⟨g,a,rfl⟩:=v0.mp e;obtain⟨b,f,q⟩:=h.cell k _ d;exact⟨A k,b,rfl,trivial,.inl f,c_ (Qc h n) q a⟩
  .rename_i i d;obtain⟨g,a,rfl⟩:=v0.mp e;obtain⟨o,b,f,q⟩:=h.cell k _ d;exact⟨A k,b,rfl,trivial,.inr ⟨o,f⟩,c_ (Qc h n) q a⟩
  .rename_i c i d;obtain⟨g,a,rfl⟩:=v0.mp e;obtain⟨j,b,f,q⟩:=h.cell k _ d;exact⟨A k,j,b,rfl,trivial,f,nS (Qc h n) q a⟩
  .rename_i l d;cases e;exact⟨A k,_,rfl,.inl (.inl (h.cell k _ d)),uU l⟩
  .cases e
theorem K3:∀{bs:R_}{ρ:Jc}{r:Sto}{i:Nat}{x:PV},V3 bs ρ=some r->r[i]?=some (some x)->ρ[i]?=some (some (.v x))
 |_,[],r,i,x,e,h=>by cases e;simp at h
 |[],_::ρ,r,i,x,e,h=>by
  obtain⟨b,a,rfl⟩:=v0.mp e;cases i with
  |zero=>cases h
  |succ i=>rw[a0h]at h ⊢;exact K3 a h
 |false::bs,_::ρ,r,i,x,e,h=>by
  obtain⟨b,a,rfl⟩:=v0.mp e;cases i with
  |zero=>cases h
  |succ i=>rw[a0h]at h ⊢;exact K3 a h
 |true::bs,some (.v y)::ρ,r,i,x,e,h=>by
  obtain⟨b,a,rfl⟩:=v0.mp e;cases i with
  |zero=>cases h;rfl
  |succ i=>rw[a0h]at h ⊢;exact K3 a h
 |true::bs,none::ρ,r,i,x,e,h=>by cases e
 |true::bs,some (.g _)::ρ,r,i,x,e,h=>by cases e
 |true::bs,some (.t _)::ρ,r,i,x,e,h=>by cases e
theorem K4:∀{bs:R_}{ρ:Jc}{r:Sto},V3 bs ρ=some r->r.length=ρ.length
 |_,[],r,e=>by cases e;rfl
 |[],_::ρ,r,e=>by obtain⟨b,a,rfl⟩:=v0.mp e;rw[R4,R4,K4 a]
 |false::bs,_::ρ,r,e=>by obtain⟨b,a,rfl⟩:=v0.mp e;rw[R4,R4,K4 a]
 |true::bs,some (.v y)::ρ,r,e=>by obtain⟨b,a,rfl⟩:=v0.mp e;rw[R4,R4,K4 a]
 |true::bs,none::ρ,r,e=>by cases e
 |true::bs,some (.g _)::ρ,r,e=>by cases e
 |true::bs,some (.t _)::ρ,r,e=>by cases e
theorem XR:∀{bs:R_}{ρ:Jc}{r:Sto}{i:Nat}{x:PV},Yu G bs ρ=some r->r[i]?=some (some x)->∃y,ρ[i]?=some (some y)/\qx G 8 y=some x
 |_,[],r,i,x,e,h=>by cases e;simp at h
 |[],_::ρ,r,i,x,e,h=>by
  obtain⟨b,a,rfl⟩:=v0.mp e;cases i with
  |zero=>cases h
  |succ i=>rw[a0h]at h ⊢;exact XR a h
 |false::bs,_::ρ,r,i,x,e,h=>by
  obtain⟨b,a,rfl⟩:=v0.mp e;cases i with
  |zero=>cases h
  |succ i=>rw[a0h]at h ⊢;exact XR a h
 |true::bs,some y::ρ,r,i,x,e,h=>by
  obtain⟨z,c,e⟩:=a0f.mp e;obtain⟨b,a,rfl⟩:=v0.mp e;cases i with
  |zero=>cases h;exact⟨y,rfl,c⟩
  |succ i=>rw[a0h]at h ⊢;exact XR a h
 |true::bs,none::ρ,r,i,x,e,h=>by cases e
theorem XS:∀{bs:R_}{ρ:Jc}{r:Sto},Yu G bs ρ=some r->r.length=ρ.length
 |_,[],r,e=>by cases e;rfl
 |[],_::ρ,r,e=>by obtain⟨b,a,rfl⟩:=v0.mp e;rw[R4,R4,XS a]
 |false::bs,_::ρ,r,e=>by obtain⟨b,a,rfl⟩:=v0.mp e;rw[R4,R4,XS a]
 |true::bs,some y::ρ,r,e=>by obtain⟨z,c,e⟩:=a0f.mp e;obtain⟨b,a,rfl⟩:=v0.mp e;rw[R4,R4,XS a]
 |true::bs,none::ρ,r,e=>by cases e
def LF{S:RW}(a:S.all (·==0)=true){i c:Nat}(h:S[i]?=some c):c=0:=by have:=a1l.mp a c (a0H h);simpa using this
def LH(f:σ.length=r.length)(d:S.all (·==0)=true)(o:∀(i:Nat) x,r[i]?=some (some x)->∃v,σ[i]?=some (some v)/\Rep Z.W M H x v):Rel Z.W (uI H M) S (λ_=>0) H σ r:=by
 have c:∀{k:Nat},S[k]?=some 2->False:=λ{k} h=>by have:=LF d h;omega
 have l:∀{k:Nat},S[k]?=some 1->False:=λ{k} h=>by have:=LF d h;omega
 refine⟨zD.refl _,f,λi x e=>?_,λi b=>(c b).elim,λi j b=>(c b).elim,λb=>(c b).elim,λa h=>h.elim,λi b=>(c b).elim⟩;obtain⟨v,n,g⟩:=o i x e;exact⟨v,n,λz=>(c z).elim,λz=>(l z).elim,λ_ _=>g.sub λa m _=>⟨⟨.inl m,id⟩,λi b=>(c b).elim⟩⟩
def BX(R:HR Z A H σ ρ G)(e:V3 bs ρ=some r)(a:S.all (·==0)=true):Rel Z.W (uI H (HM Z A `e)) S (λ_=>0) H σ r:=
 LH (R.len.trans (K4 e).symm) a λi x h=>R.var i _ (K3 e h)
def f_(R:HR Z A H σ ρ G)(e:Yu G bs ρ=some r)(a:S.all (·==0)=true):Rel Z.W (uI H λ_=>True) S (λ_=>0) H σ r:=
 LH (R.len.trans (XS e).symm) a λi x h=>by obtain⟨y,f,b⟩:=XR e h;obtain⟨v,c,d⟩:=R.var i y f;exact⟨v,c,Qc R.toHH _ _ _ _ d b⟩
def FR(h:HH Z A H G):∀a,Mof (uI H (HM Z A `e)) S P a->HM Z A G.length a:=λa m=>m.1.1.elim id λn=>h.new a n
end
def hP(bs:R_)(m:ME):HME:=λa G=>match V3 bs a with
 |some r=>match m r with
  |.ok x=>.ok (.v x) G
  |.exc c fs=>.exc c fs G
  |.wall=>.wall
 |none=>match Yu G bs a with
  |some r=>match m r with
   |.ok x=>if imm x=true then .ok (.v x) G else .wall
   |.exc c fs=>if BW fs=true then .exc c fs G else .wall
   |.wall=>.wall
  |none=>.wall
def hPT(bs:R_)(m:MT):HMT:=λa G=>match V3 bs a with
 |some r=>match m r with
  |.ok x=>.ok x G
  |.exc c fs=>.exc c fs G
  |.wall=>.wall
 |none=>match Yu G bs a with
  |some r=>match m r with
   |.ok x=>.ok x G
   |.exc c fs=>if BW fs=true then .exc c fs G else .wall
   |.wall=>.wall
  |none=>.wall
def vK{a:Type}(xs:List (a×PV)):List (a×HV):=xs.map λp=>(p.1,.v p.2)
def uV:PV->Option Cell
 |.l b=>some (.l (b.map .v))
 |.d a=>some (.d (vK a))
 |.o c fs=>some (.o c (vK fs))
 |_=>none
def OL:PV->Bool
 |.l b=>lH b
 |.d a=>lH (a.map (·.2))
 |.o _ fs=>BW fs
 |_=>false
def hF(bs:R_)(m:ME):HME:=λa G=>match V3 bs a with
 |some r=>match m r with
  |.ok x=>match uV x with
   |some c=>.ok (.g `e) (G++[c])
   |none=>.wall
  |.exc c fs=>.exc c fs G
  |.wall=>.wall
 |none=>match Yu G bs a with
  |some r=>match m r with
   |.ok x=>if OL x=true then match uV x with
    |some c=>.ok (.g `e) (G++[c])
    |none=>.wall else .wall
   |.exc c fs=>if BW fs=true then .exc c fs G else .wall
   |.wall=>.wall
  |none=>.wall
section
variable {W:RC}{M M':RY}{A:Se}{n:Nat}{H:Hp}
theorem LJ:∀{b:Sn}{a:Sh},yx W M H b a->zQ W M A n H (b.map .v) a
 |[],_,h=>h
 |_::_,_,⟨v,r,e,d,c⟩=>⟨v,r,e,d,LJ c⟩
theorem LK:∀{b:Sr}{a:Sk},jY W M H b a->qL (wC W M A n H) (vK b) a
 |[],_,h=>h
 |_::_,_,⟨v,r,e,d,c⟩=>⟨v,r,e,d,LK c⟩
theorem LM:∀{b:Ss}{a:Sy},vp W M H b a->qL (wC W M A n H) (vK b) a
 |[],_,h=>h
 |_::_,_,⟨v,r,e,d,c⟩=>⟨v,r,e,d,LM c⟩
theorem nU:∀{x:Sr}{v:Sk},lH (x.map (·.2))=true->jY W M H x v->jY W M' H x v
 |[],_,_,h=>h
 |x::d,_,e,h=>by rw[T2]at e;unfold lH at e;simp only[Bool.and_eq_true]at e;obtain⟨v,r,a,c,b⟩:=h;exact⟨v,r,a,V9 e.1 c,nU e.2 b⟩
def LN(b:cP W M H p x)(e:uV x=some c):f9 W M A n H p c:=by
 cases x with
 |l f=>cases e;obtain⟨a,h,r⟩:=b;exact⟨a,h,LJ r⟩
 |d f=>cases e;obtain⟨a,h,r⟩:=b;exact⟨a,h,LK r⟩
 |o k f=>cases e;obtain⟨g,a,h,r⟩:=b;exact⟨g,a,h,LM r⟩
 |_=>cases e
def BY(e:OL x=true)(b:cP W M H p x):cP W M' H p x:=by
 cases x with
 |l c=>obtain⟨a,h,r⟩:=b;exact⟨a,h,K2 e r⟩
 |d c=>obtain⟨a,h,r⟩:=b;exact⟨a,h,nU e r⟩
 |o k c=>obtain⟨f,a,h,r⟩:=b;exact⟨f,a,h,Jd e r⟩
 |_=>cases e
end
section
variable {X:Cx}{W:RC}{E:XK}{fr:Bool}{S:RW}{e a:Sf}{es:Sd}{m:ME}{t:MT}{bs:R_}{pos p:Pos}{i:Nat}{m1:HME}{ms:HMA}
def gc(h:HH Z A H G)(q:BV Z E A G.length H c fs G)(j:∀d es,vp Z.W (λa=>M a\/H a=none) d fs es->vp Z.W (HM Z A `e) d fs es):XPo ⟨Z.W,E,fr⟩ (uI H M) c fs:=
 λe f es d s n g l=>q A d e f es (h.keep s) (Gro.same s) n g (j d es l)
def RE(bs:R_)(h:EM X ⟨W,E,fr⟩ S false e m)(o:S.all (·==0)=true:=by rfl):HE X W E e (hP bs m):=λz=>by
 obtain⟨B,y,u⟩:=h z;refine⟨B,y,λZ w A H l C G R Q q=>?_⟩;subst w;unfold hP at q;split at q
 .rename_i r f;refine u _ _ H l r (BX R f o) Q ?_;revert q;cases m r with
  |ok x=>exact λq v d s j=>q A d (R.toHH.keep s) (Gro.same s) v (j.rep.sub λa m _=>FR R.toHH a m)
  |exc c fs=>exact λq=>gc R.toHH q λd es h=>h.sub λa m _=>m.elim id λn=>R.toHH.new a n
  |wall=>exact id
 .split at q
  .rename_i r f;refine u _ _ H l r (f_ R f o) Q ?_;revert q;cases m r with
   |ok x=>
    intro q v d s j;dsimp only at q;split at q
    .rename_i g;exact q A d (R.toHH.keep s) (Gro.same s) v (V9 g j.rep)
    .exact q.elim
   |exc c fs=>
    intro q;dsimp only at q;split at q
    .rename_i g;exact gc R.toHH q λd es h=>Jd g h
    .exact q.elim
   |wall=>exact id
  .exact q.elim
def e_(bs:R_)(h:TM X ⟨W,E,fr⟩ S e t)(j:S.all (·==0)=true:=by rfl):HT X W E e (hPT bs t):=λw=>by
 obtain⟨y,u,l⟩:=h w;refine⟨y,u,λZ o A H g z G R Q q=>?_⟩;subst o;unfold hPT at q;split at q
 .rename_i r f;refine l _ _ H g r (BX R f j) Q ?_;revert q;cases t r with
  |ok x=>exact λq d s=>q A d (R.toHH.keep s) (Gro.same s)
  |exc c fs=>exact λq=>gc R.toHH q λd es h=>h.sub λa m _=>m.elim id λn=>R.toHH.new a n
  |wall=>exact id
 .split at q
  .rename_i r f;refine l _ _ H g r (f_ R f j) Q ?_;revert q;cases t r with
   |ok x=>exact λq d s=>q A d (R.toHH.keep s) (Gro.same s)
   |exc c fs=>
    intro q;dsimp only at q;split at q
    .rename_i v;exact gc R.toHH q λd es h=>Jd v h
    .exact q.elim
   |wall=>exact id
  .exact q.elim
def lK{Z:HC}{A:Se}{H d:Hp}{G:AH}{c:Cell}{p:Addr}{Q:VK}(h:HH Z A H G)(s:zD H d)(hp:H p=none)(g:f9 Z.W (HM Z (exA A G.length p) (`e+1)) (exA A G.length p) (`e+1) d p c)(q:HPx Z E A G.length H (KV' Z Q) (.ok (.g `e) (G++[c]))):Q (.ref p) d:=by
 have f:(G++[c]).length=`e+1:=by simp
 refine q _ d (h.alloc s hp g) (by rw[f];exact Gro.ext s hp) _ ⟨by rw[f];exact a0L _,?_⟩;rw[K0]
def LP{Z:HC}{A:Se}{n:Nat}{p a:Addr}(m:HM Z A n a)(h:a≠p):HM Z (exA A n p) (n+1) a:=⟨m.1,λk d e=>by
 by_cases c:k=n
 .rw[c,K0]at e;exact h e.symm
 .rw[K1 `a]at e;exact m.2 k `a e⟩
def PF(bs:R_)(z:LFr ⟨W,E,fr⟩ S te m)(y:S.all (·==0)=true:=by rfl):∀(Z:HC),Z.W=W->∀A H d o G,HR Z A H d o G->∀Q,HPx Z E A G.length H (KV' Z Q) (hF bs m o G)->te d H Q:=λZ B A H d o G R Q q=>by
 subst B;unfold hF at q;split at q
 .rename_i r g;refine z _ _ H d r (BX R g y) Q ?_;revert q;cases m r with
  |ok x=>
   intro q v f s w;dsimp only at q;split at q
   .rename_i c j;obtain⟨p,rfl,hp,l⟩:=w;exact lK R.toHH s hp (LN (l.gen rfl Fr.refl λa m _=>LP (FR R.toHH a m.1) m.2) j) q
   .exact q.elim
  |exc c fs=>exact λq=>gc R.toHH q λf es h=>h.sub λa m _=>m.elim id λn=>R.toHH.new a n
  |wall=>exact id
 .split at q
  .rename_i r g;refine z _ _ H d r (f_ R g y) Q ?_;revert q;cases m r with
   |ok x=>
    intro q v f s w;dsimp only at q;split at q
    .rename_i u;split at q
     .rename_i c j;obtain⟨p,rfl,hp,l⟩:=w;exact lK R.toHH s hp (LN (BY u l) j) q
     .exact q.elim
    .exact q.elim
   |exc c fs=>
    intro q;dsimp only at q;split at q
    .rename_i u;exact gc R.toHH q λf es h=>Jd u h
    .exact q.elim
   |wall=>exact id
  .exact q.elim
def RF(bs:R_)(h:FM X ⟨W,E,fr⟩ S e m)(c:S.all (·==0)=true:=by rfl):HE X W E e (hF bs m):=λg=>by obtain⟨j,d,f⟩:=h g;exact⟨j,d,PF bs f c⟩
def zT(i:Nat):HME:=λc G=>match c[i]? with
 |some (some x)=>.ok x G
 |_=>.wall
def zC(h:PE X e (pH i)):HE X W E e (zT i):=λ_=>⟨_,h,λZ j A H g l G R Q q=>by
 unfold zT at q;split at q
 .rename_i x c;obtain⟨v,f,d⟩:=R.var i x c;exact⟨v,f,q A H R.toHH Gro.refl v d⟩
 .exact q.elim⟩
def Je:HMA:=λ_ G=>.ok [] G
def zJ(m:HME)(ms:HMA):HMA:=λc G=>(m c G).bind λx f=>(ms c f).bind λg d=>.ok (x::g) d
def Yv:HA X W E [] Je:=λ_=>⟨_,Ws,λZ d A H c f G R Q q=>q A H R.toHH Gro.refl [] rfl⟩
def zV(h:HE X W E e m1)(o:HA X W E es ms)(D:starEach (e::es) X.env=(false,eval e X.env)::starEach es X.env:=by rfl):HA X W E (e::es) (zJ m1 ms):=λj=>by obtain⟨N,C,z⟩:=h j;obtain⟨O,L,n⟩:=o j;refine⟨_,wY C L D,λZ c A H d g G R Q q=>z Z c A H d g G R _ (HPx.bind q λx w F s M u B v K=>?_)⟩;exact n Z c w F d g s (R.gro M u) _ (HPx.bind B λT J l P I r y f rs=>(y J l I Gro.refl (v::f) ⟨v,f,rfl,K.gro r,rs⟩))
def AU(ms:HMA):HME:=λf G=>(ms f G).bind λd c=>if d.length<=sizeLine then .ok (.g c.length) (c++[.l d])else .wall
theorem zQ.len{W:RC}{M:RY}{A:Se}{n:Nat}{H:Hp}:∀{c:List HV}{d:Sh},zQ W M A n H c d->d.length=c.length
 |[],_,h=>by cases h;rfl
 |x::c,_,h=>by obtain⟨v,r,rfl,_,f⟩:=h;rw[R4,R4,zQ.len f]
def DE(h:HA X W E es ms):HE X W E (.List es pos) (AU ms):=λv=>by
 obtain⟨C,r,o⟩:=h v;refine⟨_,C7 r,λZ j A H l u G R Q q=>o Z j A H l u G R _ (HPx.bind q λw B g y x z d f rs=>?_)⟩;split at d
 .rename_i n;refine⟨by rw[rs.len];exact n,λp hp=>?_⟩;have s:zD g (upd g p (.lst f)):=zD.upd hp;exact lK (c:=.l w) x s hp ⟨f,zj,rs.gro (Gro.ext s hp)⟩ d
 .exact d.elim
end
section
variable {W:RC}{M:RY}{A:Se}{n:Nat}{H:Hp}
theorem zQ.get:∀{a:List HV}{b:Sh}{i:Nat}{x:HV},zQ W M A n H a b->a[i]?=some x->∃v,b[i]?=some v/\wC W M A n H x v
 |[],_,_,_,_,e=>by simp at e
 |x::a,_,0,y,h,e=>by obtain⟨v,r,rfl,d,c⟩:=h;simp at e;subst e;exact⟨v,rfl,d⟩
 |x::a,_,i+1,y,h,e=>by obtain⟨v,r,rfl,d,c⟩:=h;simp only[List.getElem?_cons_succ]at e ⊢;exact zQ.get c e
theorem zQ.at(h:zQ W M A n H xs vs)(e:atI xs i=some x):∃v,atI vs i=some v/\wC W M A n H x v:=by
 unfold atI at e ⊢;rw[h.len];cases q:ixN xs.length i with
 |none=>rw[q]at e;cases e
 |some j=>rw[q]at e;exact h.get e
theorem zQ.append:∀{a c:List HV}{b d:Sh},zQ W M A n H a b->zQ W M A n H c d->zQ W M A n H (a++c) (b++d)
 |[],_,_,_,h,k=>by cases h;exact k
 |x::a,_,_,_,h,k=>by obtain⟨v,r,rfl,f,e⟩:=h;exact⟨v,_,rfl,f,zQ.append e k⟩
theorem zQ.set{x:HV}{v:V}(c:wC W M A n H x v):∀{a:List HV}{d:Sh}(i:Nat),zQ W M A n H a d->zQ W M A n H (a.set i x) (d.set i v)
 |[],_,_,h=>by cases h;exact rfl
 |y::a,_,0,h=>by obtain⟨v,r,rfl,e,b⟩:=h;exact⟨_,_,rfl,c,b⟩
 |y::a,_,i+1,h=>by obtain⟨v,r,rfl,e,b⟩:=h;exact⟨v,_,rfl,e,zQ.set c i b⟩
variable {κ:Type}[DecidableEq κ] {R:HV->V->Prop}
theorem qL.len:∀{a:List (κ×HV)}{b:List (κ×V)},qL R a b->b.length=a.length
 |[],_,h=>by cases h;rfl
 |_::_,_,⟨v,q,e,d,c⟩=>by subst e;rw[R4,R4,qL.len c]
theorem qL.get:∀{a:List (κ×HV)}{b:List (κ×V)}{k:κ}{x:HV},qL R a b->zM a k=some x->∃v,XH b k=some v/\R x v
 |[],_,_,_,_,e=>by cases e
 |i::r,_,k,x,h,e=>by
  obtain⟨v,q,rfl,j,g⟩:=h;unfold zM at e;rw[a1x]at e;by_cases c:i.1=k
  .rw[S8 c]at e;cases e;exact⟨v,XI c,j⟩
  .rw[S7 c]at e;obtain⟨u,f,d⟩:=qL.get g e;exact⟨u,by rw[XJ c];exact f,d⟩
theorem qL.lookup:∀{a:List (Str×HV)}{b:Sy}{f:Str}{x:HV},qL R a b->a.lookup f=some x->∃v,b.lookup f=some v/\R x v
 |[],_,_,_,_,e=>by cases e
 |g::r,_,f,x,h,e=>by
  obtain⟨v,q,rfl,i,d⟩:=h;rw[a0w]at e ⊢;cases c:(f==g.1)with
  |true=>rw[c]at e;cases e;exact⟨v,rfl,i⟩
  |false=>rw[c]at e;exact qL.lookup d e
def qL.put{k:κ}{a:List (κ×HV)}{es:List (κ×V)}(h:qL R a es)(i:R x v):qL R (dput a k x) (putK es k v):=by
 have d:∀{a:List (κ×HV)}{es:List (κ×V)},qL R a es->a.any (λb=>decide (b.1=k))=es.any (λb=>decide (b.1=k))/\qL R (a.map λb=>if b.1=k then(b.1,x)else b) (es.map λb=>if b.1=k then(b.1,v)else b)/\qL R (a++[(k,x)]) (es++[(k,v)]):=by
  intro a
  induction a with
  |nil=>intro es h;cases h;exact⟨rfl,rfl,v,[],rfl,i,rfl⟩
  |cons m a o=>
   intro es h;obtain⟨u,q,rfl,j,l⟩:=h;obtain⟨f,c,g⟩:=o l;refine⟨by rw[a0E,a0E,f],?_,⟨u,_,rfl,j,g⟩⟩;rw[T2,T2];by_cases e:m.1=k
   .rw[if_pos e,if_pos e];exact⟨v,_,rfl,i,c⟩
   .rw[if_neg e,if_neg e];exact⟨u,_,rfl,j,c⟩
 obtain⟨f,c,g⟩:=d h;unfold dput putK;rw[f];split
 .exact c
 .exact g
end
def ixH(G:AH):HV->HV->Option HV
 |.g k,.v y=>match G[k]? with
  |some (.l b)=>match y with
   |.i j=>atI b j
   |_=>none
  |some (.d a)=>(pk y).bind λq=>zM a q
  |some (.z a)=>(pk y).bind λq=>zM a q
  |_=>none
 |.t b,.v (.i j)=>atI b j
 |.v x,.v y=>match pIx x y with
  |.ok z=>some (.v z)
  |_=>none
 |_,_=>none
def hIx(m1 m2:HME):HME:=λb G=>(m1 b G).bind λx c=>(m2 b c).bind λy a=>match ixH a x y with
 |some z=>.ok z a
 |none=>.wall
def LQ(cs:RW)(f:Str)(m:HME):HME:=λb G=>(m b G).bind λx a=>match x with
 |.g k=>match a[k]? with
  |some (.o c fs)=>if c∈cs then match fs.lookup f with
   |some z=>.ok z a
   |none=>.wall else .wall
  |_=>.wall
 |_=>.wall
def K5(f:List HV->AH->HX HV)(ms:HMA):HME:=λc G=>(ms c G).bind λb a=>f b a
def hsp(W:RC)(n:Nat)(f:List HV->AH->HX HV):Sp:=λb H Q E=>∃(Z:HC)(A:Se)(G:AH)(a:List HV),Z.W=W/\a.length=n/\HH Z A H G/\zQ Z.W (HM Z A `e) A G.length H a b/\HPx Z E A G.length H (KV' Z Q) (f a G)
def FT:∀a H Q E,hsp W n f a H Q E->a.length=n:=λa H Q E ⟨Z,A,G,c,_,b,_,r,_⟩=>r.len.trans b
def ON(h:HH Z A H G)(l:wC Z.W (HM Z A `e) A G.length H x v)(g:wC Z.W (HM Z A `e) A G.length H y u)(e:ixH G x y=some z)(q:∀c v,zD H c->wC Z.W (HM Z A `e) A G.length c z v->Q v c):Py Z.W.K v u H Q:=by
 unfold ixH at e;split at e
 .rename_i k y;obtain⟨B,rfl⟩:=l;split at e
  .rename_i D f;obtain⟨d,hp,r⟩:=h.cell k _ f;split at e
   .obtain⟨w,b,a⟩:=r.at e;exact .inl (.inl ⟨_,d,_,w,rfl,g,SqL.of hp,b,q H w (zD.refl _) a⟩)
   .cases e
  .rename_i m f;obtain⟨d,hp,r⟩:=h.cell k _ f;obtain⟨j,i,e⟩:=a0f.mp e;obtain⟨w,b,a⟩:=r.get e;exact .inr ⟨_,w,rfl,by rw[V4 (qb.iff.mpr g) i,<- b];exact nh.rk (.inl hp),q H w (zD.refl _) a⟩
  .rename_i m f;obtain⟨o,d,hp,r⟩:=h.cell k _ f;obtain⟨j,i,e⟩:=a0f.mp e;obtain⟨w,b,a⟩:=r.get e;exact .inr ⟨_,w,rfl,by rw[V4 (qb.iff.mpr g) i,<- b];exact nh.rk (.inr ⟨o,hp⟩),q H w (zD.refl _) a⟩
  .cases e
 .obtain⟨p,d,rfl,n,r⟩:=l;obtain⟨w,b,a⟩:=r.at e;exact .inl (.inr (.inl ⟨p,d,_,w,rfl,g,n,b,q H w (zD.refl _) a⟩))
 .split at e
  .rename_i C hz;cases e;refine IV (HM Z A `e) ⟨Z.W,E0,false⟩ (uI H λ_=>True) H _ _ v u Q h.new (Rep.weak l) (Rep.weak g) ?_;rw[hz];exact λw c s r=>q c w s r
  .cases e
 .cases e
def uW(j:X.A.units+1<cLine)(g:HE X W E a m1)(c:HE X W E b m2)(I:Ua b:=by intro _ _;rfl):HE X W E (.Subscript a b pos) (hIx m1 m2):=λf=>by
 obtain⟨P,F,C⟩:=g f;obtain⟨tb,N,l⟩:=c f;refine⟨_,EY (C9.or (i_ j)) F N I,λZ d A H h i G R Q q=>C Z d A H h i G R _ (HPx.bind q λx B J o g p D v M=>?_)⟩;refine l Z d B J h i o (R.gro g p) _ (HPx.bind D λy L O S c n e u K=>?_);split at e
 .rename_i z hz;rw[f,<- d];exact ON c (M.gro n) K hz λm w s r=>e L m (c.keep s) (Gro.same s) w r
 .exact e.elim
def LU(h:HE X W E e m1)(g:∀c∈cs,Cls X.K (W.cls c)/\vm X.K (W.cls c) fn)(j:attributeBase e fn X.env (eval e X.env)=eval e X.env:=by rfl):HE X W E (.Attribute e fn pos) (LQ cs fn m1):=λC=>by
 obtain⟨L,s,n⟩:=h C;refine⟨_,C5 s j,λZ f A H l B G R Q q=>n Z f A H l B G R _ (HPx.bind q λx m y I i J a v F=>?_)⟩;subst f;split at a
 .rename_i k;obtain⟨K,rfl⟩:=F;split at a
  .rename_i c fs u;obtain⟨o,p,hp,r⟩:=i.cell k _ u;split at a
   .rename_i b;split at a
    .rename_i z hz;obtain⟨w,D,d⟩:=r.lookup hz;exact⟨_,_,o,p,w,rfl,hp,(g c b).1,(g c b).2,D,a m y i Gro.refl w d⟩
    .exact a.elim
   .exact a.elim
  .exact a.elim
 .exact a.elim
def UA(F:y_ X.prog X.w X.K X.mg X.base (CXe X.prog X.w) k f fd ps (hsp W n g))(m:vB k X.A)(J:Gl X x)(l:X.mg x=some (.ref f))(y:keepIn X.K (.ref f)=true)(r:Binds X.K fd ps [])(j:Passes (CXe X.prog X.w) X E)(w:HA X W E (e::es) ms)(B:∀d G a b,ms d G=.ok a b->a.length=n)
  (h:(x==("__debug__":Str))=false:=by decide) (he:starEach (e::es) X.env=(false,eval e X.env)::starEach es X.env:=by rfl) (hpl:(backTo pos (starEach es X.env)).any (·.1)=false:=by rfl):HE X W E (.Call (.Name x p) (e::es) [] pos) (K5 g ms):=λI=>by
 obtain⟨M,D,z⟩:=w I;refine⟨_,iQ F m J l y r .nil j D h he hpl,λZ i A H u d G R Q q=>z Z i A H u d G R _ ?_⟩;unfold K5 at q;revert q;cases C:ms d G with
 |wall=>exact id
 |exc c fs b=>exact id
 |ok a b=>intro q v N K s L rs;rw[a0i];exact⟨Z,v,b,a,i,B _ _ _ _ C,K,rs,HPx.gro q s⟩
def bN:∀c G a b,Je c G=.ok a b->a.length=0:=λc G a b e=>by cases e;rfl
def yC(h:∀b G a d,ms b G=.ok a d->a.length=n):∀b G a d,zJ m ms b G=.ok a d->a.length=n+1:=λb G a d e=>by
 unfold zJ at e;cases i:m b G with
 |wall=>rw[i]at e;cases e
 |exc c fs g=>rw[i]at e;cases e
 |ok x g=>
  rw[i]at e;have e:(ms b g).bind (λa j=>.ok (x::a) j)=.ok a d:=e;cases f:ms b g with
  |wall=>rw[f]at e;cases e
  |exc c fs g=>rw[f]at e;cases e
  |ok l j=>rw[f]at e;cases e;rw[R4,h _ _ _ _ f]
inductive HFw where
 |nx (ρ:Jc) (G:AH)|rt (x:HV) (G:AH)|bk (ρ:Jc) (G:AH)|ct (ρ:Jc) (G:AH)|exc (c:Nat) (fs:Ss) (G:AH)|wall
abbrev HMS:=Jc->AH->HFw
def HPs(Z:HC)(E:XK)(A:Se)(n:Nat)(H:Hp)(D:Ends):HFw->Prop
 |.nx f d=>∀e b a,HR Z e b a f d->Gro Z A n H e d.length b->D.nx a b
 |.rt x d=>∀e b v,HH Z e b d->Gro Z A n H e d.length b->wC Z.W (HM Z e d.length) e d.length b x v->D.rt v b
 |.bk f d=>∀e b a,HR Z e b a f d->Gro Z A n H e d.length b->D.bk a b
 |.ct f d=>∀e b a,HR Z e b a f d->Gro Z A n H e d.length b->D.ct a b
 |.exc c fs d=>BV Z E A n H c fs d
 |.wall=>False
def HX.fw{b:Type}:HX b->(b->AH->HFw)->HFw
 |.ok a G,f=>f a G
 |.exc c fs G,_=>.exc c fs G
 |.wall,_=>.wall
def LHS(W:RC)(E:XK)(ts:TS)(m:HMS):Prop:=∀(Z:HC),Z.W=W->∀A H b a G,HR Z A H b a G->∀D,HPs Z E A G.length H D (m a G)->ts D b H
def HS(X:Cx)(W:RC)(E:XK)(st:SN)(m:HMS):Prop:=X.K=W.K->∃a,PS X st a/\LHS W E a m
def HSs(X:Cx)(W:RC)(E:XK)(st:SE)(m:HMS):Prop:=X.K=W.K->∃a,PSs X st a/\LHS W E a m
section
variable {α:Type}{K':α->(Nat->Addr)->Hp->AH->Prop}
def HPs.gro(h:HPs Z E A n H D o)(g:Gro Z A n H A' n' H'):HPs Z E A' n' H' D o:=by
 cases o with
 |nx f G=>exact λd b a r e=>h d b a r (g.trans e)
 |rt x G=>exact λd b v r e=>h d b v r (g.trans e)
 |bk f G=>exact λd b a r e=>h d b a r (g.trans e)
 |ct f G=>exact λd b a r e=>h d b a r (g.trans e)
 |exc c fs G=>exact BV.gro h g
 |wall=>exact h
def HPs.bind{o:HX α}{f:α->AH->HFw}(h:HPs Z E A n H D (o.fw f))(k:∀x d b a,HH Z d b a->Gro Z A n H d a.length b->HPs Z E d a.length b D (f x a)->K' x d b a):HPx Z E A n H K' o:=by
 cases o with
 |ok x a=>exact λi g j e=>k x i g a j e (HPs.gro h e)
 |exc c fs a=>exact h
 |wall=>exact h
end
def qv:HMS:=λa G=>.nx a G
def qd(a b:HMS):HMS:=λf G=>match a f G with
 |.nx d e=>b d e
 |.rt x e=>.rt x e
 |.bk d e=>.bk d e
 |.ct d e=>.ct d e
 |.exc c fs e=>.exc c fs e
 |.wall=>.wall
def kA(i:Nat)(m:HME):HMS:=λa G=>(m a G).fw λx b=>.nx (a.set i (some x)) b
def UB(m:HME):HMS:=λa G=>(m a G).fw λ_ b=>.nx a b
def lL(m:HME):HMS:=λb G=>(m b G).fw λx a=>.rt x a
def hIf(t:HMT)(a b:HMS):HMS:=λd G=>(t d G).fw λc e=>if c=true then a d e else b d e
section
variable {X:Cx}{W:RC}{E:XK}{e a o:Sf}{es:Sd}{pos p pos' jm:Pos}{m m1 m2:HME}{t1:HMT}{s1 s2:HMS}{x:Str}{st:SN}{sts stt:SE}{i:Nat}
def qY:HSs X W E [] qv:=λ_=>⟨_,sU,λZ d A H c f G R D q=>q A H c R Gro.refl⟩
def LV(w:LHS W E t s1)(s:LHS W E u s2):LHS W E (NX t u) (qd s1 s2):=λZ j A H n l G R D q=>by
 refine w Z j A H n l G R _ ?_;unfold qd at q;revert q;cases s1 l G with
 |nx d f=>exact λq y r h v g=>s Z j y r h d f v D (HPs.gro q g)
 |rt x f=>exact id
 |bk d f=>exact id
 |ct d f=>exact id
 |exc c fs f=>exact id
 |wall=>exact id
def zt(l:HS X W E st s1)(g:HSs X W E sts s2):HSs X W E (st::sts) (qd s1 s2):=λc=>by obtain⟨t,d,f⟩:=l c;obtain⟨u,j,h⟩:=g c;exact⟨_,XG d j,LV f h⟩
def yg(c:HS X W E st s1):HSs X W E [st] s1:=λg=>by obtain⟨t,d,f⟩:=c g;exact⟨_,j4 d,f⟩
def nV(j:∀(Z:HC),Z.W=W->∀A H c d G,HR Z A H c d G->∀Q,HPx Z E A G.length H (KV' Z Q) (m d G)->te c H Q):LHS W E (Hh te (iP i)) (kA i m):=λZ f A H c d G R D q=>
 j Z f A H c d G R _ (HPs.bind q λx h n u s g l v r=>l h n _ ((R.gro s g).set r) Gro.refl)
def LW(g:X.N.Nodup)(l:X.N[i]?=some x)(c:Loc X.env.scope x)(h:HE X W E e m)(j:swapsWith e (some (.Name x pos')) pos.line X.env=pure false:=by rfl)(hf:X.fn x=true\/X.env.scope.names.lookup x=some .local:=by first|exact .inl rfl|exact .inr rfl|assumption):
  HS X W E (.Assign [.Name x pos'] e pos) (kA i m):=λn=>by
 obtain⟨q,d,f⟩:=h n;exact⟨_,sW g l c d j hf,nV f⟩
def de(h:HE X W E e m)(r:swapsWith e none pos.line X.env=pure false:=by rfl):HS X W E (.Expr e pos) (UB m):=λw=>by obtain⟨C,n,j⟩:=h w;exact⟨_,Y6 n r,λZ d A H c u G R D q=>j Z d A H c u G R _ (HPs.bind q λx g s z y f l v B=>l g s c (R.gro y f) Gro.refl)⟩
def UC(h:HE X W E e m):HS X W E (.Return (some e) pos) (lL m):=λs=>by obtain⟨B,l,g⟩:=h s;exact⟨_,m6 l,λZ c A H d r G R D q=>g Z c A H d r G R _ (HPs.bind q λx f n y w z j v u=>j f n v w Gro.refl u)⟩
def Y3(h:HT X W E c t1)(g:HSs X W E sts s1)(C:HSs X W E stt s2):HS X W E (.If c sts stt pos) (hIf t1 s1 s2):=λn=>by
 obtain⟨K,B,z⟩:=h n;obtain⟨t,I,y⟩:=g n;obtain⟨u,J,F⟩:=C n;refine⟨_,HJ B I J,λZ j A H d l G R D q=>z Z j A H d l G R _ (HPs.bind q λk v f r g s w=>?_)⟩;cases k with
 |true=>show(if true=true then t D d f else u D d f);exact y Z j v f d l r (R.gro g s) D w
 |false=>show(if false=true then t D d f else u D d f);exact F Z j v f d l r (R.gro g s) D w
def sI(mo ma:HME):HMS:=λc G=>(mo c G).fw λx f=>match x with
 |.g k=>match f[k]? with
  |some (.l _)=>(ma c f).fw λy d=>match d[k]? with
   |some (.l g)=>if g.length<sizeLine then .nx c (d.set k (.l (g++[y])))else .wall
   |_=>.wall
  |_=>.wall
 |_=>.wall
def FU{Z:HC}{A:Se}{H:Hp}{G:AH}{σ:St}{ρ:Jc}{D:Ends}{k:Nat}{c:Cell}{o h:HO}(R:HR Z A H σ ρ G)(j:k<`e)(d:H (A k)=some h)(f:¬Imm h)(l:f9 Z.W (HM Z A `e) A G.length (upd H (A k) o) (A k) c)(q:HPs Z E A G.length H D (.nx ρ (G.set k c))):D.nx σ (upd H (A k) o):=by
 have g:Gro Z A G.length H A (G.set k c).length (upd H (A k) o):=by rw[a0s];exact R.toHH.frw j d f
 exact q A _ σ (R.gro (R.toHH.write j d f l) g) g
def Qd(ho:HE X W E o m1)(h:HE X W E e m2)(Q:attributeBase o "append" X.env (eval o X.env)=eval o X.env:=by rfl)
  (AK:((backTo p (starEach [e] X.env)).all (λx=>!x.1)&&(backToKw p (keywordEach [] X.env)).all (λx=>x.1.isSome)&&decide ([e].length+([]:List Keyword).length+(if([]:List Keyword).isEmpty then 0 else 1)<30))=true:=by rfl)
  (KH:(jm.endLine==p.line)=true:=by rfl) (J:starEach [e] X.env=[(false,eval e X.env)]:=by rfl) (n:swapsWith (.Call (.Attribute o "append" jm) [e] [] p) none pos.line X.env=pure false:=by rfl):
  HS X W E (.Expr (.Call (.Attribute o "append" jm) [e] [] p) pos) (sI m1 m2):=λM=>by
 obtain⟨to,o1,o2⟩:=ho M;obtain⟨te,a1,a2⟩:=h M;refine⟨_,Y6 (tR a00 a2O a2P Uc o1 (wY a1 Ws J) Q AK KH J rfl) n,λZ B A H C L G R D q=>o2 Z B A H C L G R _ (HPs.bind q λx U H1 S O T g v rx=>?_)⟩;split at g
 .rename_i k;obtain⟨F,rfl⟩:=rx;split at g
  .rename_i xs0 j;obtain⟨vs0,s,_⟩:=O.cell k _ j;have K:=R.gro O T;refine⟨.inl ⟨rfl,_,SqL.of s⟩,a2 Z B U H1 C L S K _ (HPs.bind g λy N P w z l f u ry=>?_)⟩;split at f
   .rename_i xs hc;split at f
    .rename_i Y;obtain⟨I,hp,r⟩:=z.cell k _ hc;have d:=T7 F l.le;rw[<- l.agr k F];have g3:=z.frw (o:=.lst (I++[u])) d hp id;have one:zQ Z.W (HM Z N w.length) N w.length P [y] [u]:=⟨u,[],rfl,ry,rfl⟩;exact⟨_,I,u,rfl,rfl,hp,by rw[r.len];exact Y,FU (c:=.l (xs++[y])) (K.gro z l) d hp id ⟨_,zj,(r.append one).gro g3⟩ f⟩
    .exact f.elim
   .exact f.elim
  .exact g.elim
 .exact g.elim
def LX(mo mk mv:HME):HMS:=λd G=>(mv d G).fw λy h=>(mo d h).fw λx g=>(mk d g).fw λz f=>match x,z with
 |.g k,.v z=>match f[k]?,pk z with
  |some (.d c),some q=>if c.length<sizeLine then .nx d (f.set k (.d (dput c q y)))else .wall
  |_,_=>.wall
 |_,_=>.wall
def LY(L:X.A.units+1<cLine)(S:HE X W E o m)(g:HE X W E a m1)(hv:HE X W E e m2)(hs:swapsWith e (some (.Subscript o a pos')) pos.line X.env=pure false:=by rfl):
  HS X W E (.Assign [.Subscript o a pos'] e pos) (LX m m1 m2):=λC=>by
 obtain⟨to,o1,o2⟩:=S C;obtain⟨ta,a1,U⟩:=g C;obtain⟨tv,b1,M⟩:=hv C;refine⟨_,iV L o1 a1 b1 hs,λZ l A H n B G R D q=>M Z l A H n B G R _ (HPs.bind q λy Q H1 O h1 P q1 v ry=>?_)⟩;have J:=R.gro h1 P;refine o2 Z l Q H1 n B O J _ (HPs.bind q1 λx A2 K G2 h2 I T w rx=>?_);have R2:=J.gro h2 I;refine U Z l A2 K n B G2 R2 _ (HPs.bind T λz A3 N G3 s j d u rz=>?_);split at d
 .rename_i k z;obtain⟨g,rfl⟩:=rx;split at d
  .rename_i F q hc hq;split at d
   .rename_i Y;obtain⟨es,hp,r⟩:=s.cell k _ hc;have f:=T7 g j.le;have g4:=s.frw (o:=.dK (putK es q v)) f hp id;rw[<- j.agr k g];refine⟨_,_,rfl,by rw[V4 (qb.iff.mpr rz) hq];exact Bd.k hp (by rw[r.len];exact Y),FU (c:=.d (dput F q y)) (R2.gro s j) f hp id ⟨_,zj,?_⟩ d⟩;exact(r.put ((ry.gro I).gro j)).imp λ_ _ h=>h.gro g4
   .exact d.elim
  .exact d.elim
 .exact d.elim
def df(mo mk mv:HME):HMS:=λc G=>(mv c G).fw λy h=>(mo c h).fw λx g=>(mk c g).fw λz d=>match x,z with
 |.g k,.v (.i j)=>match d[k]? with
  |some (.l f)=>match ixN f.length j with
   |some t=>.nx c (d.set k (.l (f.set t y)))
   |none=>.wall
  |_=>.wall
 |_,_=>.wall
def uX(U:HE X W E o m)(g:HE X W E a m1)(hv:HE X W E e m2)
  (S:∀v,assign (.Subscript o a p) X.env v=(do
   let ov<-holding [v] (eval o X.env)
   let iv<-holding [v,ov] (eval a X.env)
   standAt p
   holding [v,ov,iv] (setItem ov iv v)
   release [v,ov,iv] []):=by intro _;rfl)
  (hs:swapsWithSole [.Subscript o a p] e pos.line X.env=pure false:=by rfl) (hw:swappedStores [.Subscript o a p] e X.env=pure none:=by rfl) (F:(assignEach [.Subscript o a p] X.env).map (·.2)=[assign (.Subscript o a p) X.env]:=by rfl):
  HS X W E (.Assign [.Subscript o a p] e pos) (df m m1 m2):=λC=>by
 obtain⟨to,o1,o2⟩:=U C;obtain⟨ta,a1,T⟩:=g C;obtain⟨tv,b1,M⟩:=hv C;refine⟨_,HN b1 (HL o1 a1 set_list S) hs hw F,λZ l A H n B G R D q=>M Z l A H n B G R _ (HPs.bind q λy P H1 N F O q1 v ry=>?_)⟩;have K:=R.gro F O;refine o2 Z l P H1 n B N K _ (HPs.bind q1 λx A2 L G2 h2 I Q w rx=>?_);have R2:=K.gro h2 I;refine T Z l A2 L n B G2 R2 _ (HPs.bind Q λz A3 H3 G3 s h d u rz=>?_);split at d
 .rename_i k j;obtain⟨g,rfl⟩:=rx;split at d
  .rename_i xs hc;split at d
   .rename_i t Y;obtain⟨J,hp,r⟩:=s.cell k _ hc;have f:=T7 g h.le;have g4:=s.frw (o:=.lst (J.set t v)) f hp id;rw[<- h.agr k g];exact⟨_,J,j,t,rfl,rz,hp,by rw[r.len];exact Y,FU (c:=.l (xs.set t y)) (R2.gro s h) f hp id ⟨_,zj,(zQ.set ((ry.gro I).gro h) t r).gro g4⟩ d⟩
   .exact d.elim
  .exact d.elim
 .exact d.elim
end
abbrev HMG:=HV->Jc->Option Jc
def HG(X:Cx)(W:RC)(f:Sf)(e:HMG):Prop:=X.K=W.K->∃g,PG X f g/\∀(Z:HC),Z.W=W->∀A H c d G x v,HR Z A H c d G->wC Z.W (HM Z A `e) A G.length H x v->∀Q:St->Hp->Prop,(∃b,e x d=some b/\∀a,HR Z A H a b G->Q a H)->g v c H Q
abbrev RQ:=List HV->Jc->Option Jc
def hgN(i:Nat):HMG:=λx a=>some (a.set i (some x))
def dg(b:X.N.Nodup)(c:X.N[i]?=some x)(a:Loc X.env.scope x)(hf:X.fn x=true\/X.env.scope.names.lookup x=some .local:=by first|exact .inl rfl|exact .inr rfl|assumption):HG X W (.Name x pos) (hgN i):=
 λ_=>⟨_,sV b c a hf,λZ f A H h g G x v R r Q ⟨d,e,k⟩=>by cases e;exact k _ (R.set r)⟩
def sJ(g:HMG)(b:HMS):List HV->Jc->AH->HFw
 |[],f,G=>.nx f G
 |x::h,f,G=>match g x f with
  |none=>.wall
  |some e=>match b e G with
   |.nx a d=>sJ g b h a d
   |.ct a d=>sJ g b h a d
   |.bk a d=>.nx a d
   |.rt v d=>.rt v d
   |.exc c fs d=>.exc c fs d
   |.wall=>.wall
def isZ:Cell->Bool
 |.z _=>true
 |.w _=>true
 |_=>false
def BZ(A:Se)(G:AH)(a:Addr):Prop:=∃k c,G[k]?=some c/\isZ c=false/\A k=a
section
variable {W:RC}{E:XK}{Z:HC}{A A':Se}{H H':Hp}{G G':AH}{σ:St}{ρ:Jc}{D:Ends}
def f9.live{M:RY}{n:Nat}{p:Addr}:∀{c:Cell},f9 W M A n H p c->isZ c=false->∃o,H p=Option.some o/\¬Imm o
 |.l _,⟨_,e,_⟩,_=>⟨_,e,id⟩
 |.d _,⟨_,e,_⟩,_=>⟨_,e,id⟩
 |.z _,_,h=>by cases h
 |.o _ _,⟨_,_,e,_⟩,_=>⟨_,e,id⟩
 |.y _,⟨_,_,e,_⟩,_=>⟨_,e,id⟩
 |.m _ _ _,⟨_,_,e,_⟩,_=>⟨_,e,id⟩
 |.u _,⟨_,e,_⟩,_=>⟨_,e,id⟩
 |.w _,_,h=>by cases h
def f9.zed{M:RY}{n:Nat}{p:Addr}:∀{c:Cell},f9 W M A n H p c->isZ c=true->∃o,H p=Option.some o/\Imm o
 |.l _,_,h=>by cases h
 |.d _,_,h=>by cases h
 |.z _,⟨_,_,e,_⟩,_=>⟨_,e,trivial⟩
 |.o _ _,_,h=>by cases h
 |.y _,_,h=>by cases h
 |.m _ _ _,_,h=>by cases h
 |.u _,_,h=>by cases h
 |.w _,e,_=>⟨_,e,trivial⟩
def Gro.rest(h:HH Z A H G)(h':HH Z A' H' G')(g:Gro Z A G.length H A' G'.length H'):Fr (λa=>¬BZ A G a) H H':=λa o e m=>by
 rcases m with m|m
 .by_cases f:∃k,k<`e/\A k=a
  .obtain⟨k,b,rfl⟩:=f;have d:=S6 b;have hz:isZ G[k]=true:=by
    cases z:isZ G[k]with
    |true=>rfl
    |false=>exact absurd ⟨k,_,d,z,rfl⟩ m
   obtain⟨j,c,i⟩:=(h.cell k _ d).zed hz;rw[c]at e;cases e;exact g.fr _ _ c (.inr i)
  .cases q:Z.H0 a with
   |none=>exact g.fr a o e (.inl ⟨.inr q,λk b z=>f ⟨k,b,z⟩⟩)
   |some u=>have:=h.same a u q;rw[e]at this;cases this;exact h'.same a _ q
 .exact g.fr a o e (.inr m)
open Classical in
def bsH(Z:HC)(A:Se)(H:Hp)(G:AH):Bs:=⟨λa=>if BZ A G a then none else H a,HM Z A `e,λ_=>False,λ_ h=>h.elim,none,BZ A G⟩
def OO(R:HR Z A H σ ρ G)(e:V3 bs ρ=some r)(g:S.all (·==0)=true):Rel Z.W (bsH Z A H G) S (λ_=>0) H σ r:=by
 have d:∀{k:Nat},S[k]?=some 2->False:=λ{k} h=>by have:=LF g h;omega
 have q:∀{k:Nat},S[k]?=some 1->False:=λ{k} h=>by have:=LF g h;omega
 refine⟨λa o h=>?_,R.len.trans (K4 e).symm,λi x l=>?_,λi b=>(d b).elim,λi j b=>(d b).elim,λb=>(d b).elim,λa h=>?_,λi b=>(d b).elim⟩
 .unfold bsH at h;dsimp only at h;split at h
  .cases h
  .exact h
 .obtain⟨v,w,u⟩:=R.var i _ (K3 e l);refine⟨v,w,λz=>(d z).elim,λz=>(q z).elim,λ_ _=> u.sub λa m _=>⟨⟨.inl m,λ⟨k,c,f,_,s⟩=>m.2 k (R8.mp f).1 s⟩,λi b=>(d b).elim⟩⟩
 .obtain⟨k,c,f,hz,rfl⟩:=h;obtain⟨o,n,p⟩:=(R.toHH.cell k c f).live hz;exact⟨o,n,p,by unfold bsH;dsimp only;rw[if_pos ⟨k,c,f,hz,rfl⟩]⟩
def B0(P:Z.W=W)
  (hi:∀R:It->Hp->Prop,(∀J u,zD H u->FE Z.W (HM Z A `e) (λa=>¬BZ A G a) u J xs->R J u)->wi σ H R)
  (hg:∀(Z:HC),Z.W=W->∀A H σ ρ G x v,HR Z A H σ ρ G->wC Z.W (HM Z A `e) A G.length H x v->∀Q:St->Hp->Prop,(∃b,mg x ρ=some b/\∀d,HR Z A H d b G->Q d H)->g v σ H Q) (hb:LHS W E tb mb) (R:HR Z A H σ ρ G) (q:HPs Z E A G.length H D (sJ mg mb (xs.map .v) ρ G)):NC wi g tb D σ H:=by
 refine hi _ λJ u s2 io=>?_;have R2:=R.keep s2;have q2:=HPs.gro q (Gro.same s2);refine⟨λi n d H'=>n=xs.length-i/\i<=xs.length/\∃b A' G',HR Z A' H' d b G'/\Gro Z A G.length u A' G'.length H'/\HPs Z E A' G'.length H' D (sJ mg mb ((xs.drop i).map .v) b G'),⟨_,rfl,a0A _,ρ,A,G,R2,Gro.refl,q2⟩,?_⟩
 rintro i n d H' ⟨rfl,hle,b,A',G',O,S,f⟩
 have B:=io H' (Gro.rest R2.toHH O.toHH S);by_cases r:i<xs.length
 .have T:=S6 r;obtain⟨go,U⟩:=B.1 i _ T;refine .inr ⟨go,λz p=>i+1<=xs.length/\∃b A' G',HR Z A' p z b G'/\Gro Z A G.length u A' G'.length p/\HPs Z E A' G'.length p D (sJ mg mb ((xs.drop (i+1)).map .v) b G'),λz p h=>⟨xs.length-(i+1),`d,rfl,h.1,h.2⟩,λv l hy=>?_⟩;obtain⟨F,ry⟩:=U v l hy;have Ry:=O.keep F;have C:=S.trans (Gro.same F);have rx:=ry _ λa m hn=>C.sM a m hn;rw[a1i r,T2]at f;unfold sJ at f;split at f
  .exact f.elim
  .rename_i w K;refine hg Z P A' l d b G' _ v Ry (show wC Z.W _ _ _ l (.v xs[i]) v from rx) _ ⟨w,K,λI R1=>hb Z P A' l I w G' R1 _ ?_⟩;have f:=HPs.gro f (Gro.same F);revert f;cases mb w G' with
   |wall=>exact id
   |exc c fs s=>exact id
   |nx j s=>exact λf M Y L N y=>⟨r,j,M,s,N,C.trans y,HPs.gro f y⟩
   |ct j s=>exact λf M Y L N y=>⟨r,j,M,s,N,C.trans y,HPs.gro f y⟩
   |bk j s=>exact id
   |rt x s=>exact id
 .have e:i=xs.length:=`d
  subst e;rw[a18]at f;exact .inl ⟨B.2,f A' H' d O Gro.refl⟩
end
def FV(bs:R_)(mi:MI)(g:HMG)(b:HMS):HMS:=λa G=>match V3 bs a with
 |some r=>match mi r with
  |.ok c=>sJ g b (c.map .v) a G
  |_=>.wall
 |none=>.wall
section
variable {X:Cx}{W:RC}{E:XK}{fr:Bool}{S:RW}{tg qI:Sf}{body:SE}{mi:MI}{mg:HMG}{mb:HMS}{pos:Pos}
def FW(bs:R_)(hp:PassesOwn (Ts X) X.A X.env X.xe)(N:X.calm=true)(U:IM X ⟨W,E,fr⟩ S false tg qI mi)(hg:HG X W tg mg)(B:HSs X W E body mb)(l:S.all (·==0)=true:=by rfl)(Q:∀x,foldedSetIterable qI X.env x=pure x:=by intro _;rfl):
  HS X W E (.For tg qI body [] pos) (FV bs mi mg mb):=λj=>by
 obtain⟨wi,P,L⟩:=U j;obtain⟨g,b1,u⟩:=hg j;obtain⟨tb,c1,Y⟩:=B j;refine⟨_,s_ hp N P b1 c1 Q,λZ w A H F ρ G R D q=>?_⟩;unfold FV at q;split at q
 .rename_i r y;split at q
  .rename_i xs c;subst w;refine B0 rfl (λR' k=>?_) u Y R q;refine L _ _ H F r (OO R y l) R' ?_;rw[c];intro J p s I;refine k J p s λO f=>?_;have n2:∀{k:Nat},S[k]?=some 2->False:=λ{k} h=>by have:=LF l h;omega
   obtain⟨e,T⟩:=I O λa o h m=>f a o h (m.imp (λm z=>m.1 z) id);refine⟨λi x c=>⟨(e i x c).1,λv d n=>⟨((e i x c).2 v d n).1,λC sM=>((e i x c).2 v d n).2 C λa m M=>sM a ?_ M⟩⟩,T⟩;have b:=m.1.1;rcases b with b|b
   .exact b
   .unfold bsH at b;dsimp only at b;split at b
    .rename_i K;exact absurd K m.1.2
    .exact R.toHH.new a b
  .exact q.elim
 .exact q.elim
end
def LZ(G:AH)(x y:HV)(f:Tc):HX HV:=match qx G 8 x,qx G 8 y with
 |some x,some y=>match f x y with
  |.ok z=>if imm z=true then .ok (.v z) G else .wall
  |_=>.wall
 |_,_=>.wall
def hOp(p:Tc)(m1 m2:HME):HME:=λa G=>(m1 a G).bind λx c=>(m2 a c).bind λy b=>LZ b x y p
def hB(p:Sj)(ms:HMA):HME:=λc G=>(ms c G).bind λd a=>match e9 (qx a 8) d with
 |some b=>match p b with
  |.ok z=>if imm z=true then .ok (.v z) a else .wall
  |_=>.wall
 |none=>.wall
def L6(L:Lf2 Z.W r f)(h:HH Z A H G)(d:wC Z.W (HM Z A `e) A G.length H x v)(j:wC Z.W (HM Z A `e) A G.length H y u)(q:HPx Z E A G.length H (KV' Z Q) (LZ G x y f)):r v u H Q:=by
 unfold LZ at q;split at q
 .rename_i e b a l;refine L (λ_=>True) ⟨Z.W,E0,false⟩ (uI H λ_=>True) H e b v u Q (λ_ _=>trivial) (Rep.weak (Qc h _ _ _ _ d a)) (Rep.weak (Qc h _ _ _ _ j l)) ?_;split at q
  .rename_i z hz;rw[hz];intro w c s i;split at q
   .rename_i g;exact q A c (h.keep s) (Gro.same s) w (V9 g i)
   .exact q.elim
  .exact q.elim
 .exact q.elim
def OP(L:Lf2 W r f)(l:∀(Z:HC),Z.W=W->∀A H a b G,HR Z A H a b G->∀Q,HPx Z E A G.length H (KV' Z Q) (m1 b G)->ta a H Q)(d:∀(Z:HC),Z.W=W->∀A H a b G,HR Z A H a b G->∀Q,HPx Z E A G.length H (KV' Z Q) (m2 b G)->tb a H Q):
  ∀(Z:HC),Z.W=W->∀A H a b G,HR Z A H a b G->∀Q,HPx Z E A G.length H (KV' Z Q) (hOp f m1 m2 b G)->tOp r ta tb a H Q:=λZ c A H a b G R Q q=>
 l Z c A H a b G R _ (HPx.bind q λx i n g w h m v s=>d Z c i n a b g (R.gro w h) _ (HPx.bind m λy C z B o e j u p=>by subst c;exact L6 L o (s.gro e) p j))
def L7(o:OpR X (compareOp op) r)(L:Lf2 W r f)(l:HE X W E a m1)(g:HE X W E b m2)(j:behindInMarks op b=false):HE X W E (.Compare a [op] [b] pos) (hOp f m1 m2):=λc=>by obtain⟨m,d,e⟩:=l c;obtain⟨tb,i,h⟩:=g c;exact⟨_,tE o d i j,OP L e h⟩
def uY(n:Nat)(ms:HMS)(xs:List HV)(G:AH):HX HV:=match ms (xs.map some++List.replicate (n-xs.length) none) G with
 |.nx _ a=>.ok (.v .n) a
 |.rt x a=>.ok x a
 |.exc c fs a=>.exc c fs a
 |_=>.wall
def rG{xs:List HV}{n k:Nat}{x:HV}(h:(xs.map some++List.replicate (n-xs.length) none)[k]?=some (some x)):xs[k]?=some x:=by grind
def B3(h:HH Z A H G)(r:zQ Z.W (HM Z A `e) A G.length H xs vs):HR Z A H (start N vs) (xs.map some++List.replicate (N.length-xs.length) none) G:=by
 refine⟨h,?_,λi x e=>?_⟩
 .unfold start;rw[R7,R7,f8,f8,a04,a04,r.len]
 .obtain⟨v,a,b⟩:=r.get (rG e);have c:=(R8.mp a).1;refine⟨v,?_,b⟩;unfold start;rw[a0a `c,a0d,a];rfl
section
variable {P:Sl}{w:So}{K:Sx}{mg:RU}{base:Heap}
def gf{x b:Str}{st:SN}{f:Addr}{fd:Sq}{N ps:RS}{k n l:Nat}{W:RC}{ms:HMS}(F:Fun K x b st f fd)(S:zy N ps (zl st))(I:K=W.K)(o:ps.length=l)(O:N.length=n)
  (h:∀(d:Value)(A:Su)(a:List Env)(s:RZ)(H:Hp)(E:XK),vB k (A.deeper (envOfC b (zl st) s.heap.objs.size f d))->HSs (thr (pT (CXe P w) P w K mg base N b (zl st) f d A a s H E) E) W E (Z0 st) ms):
  y_ P w K mg base (CXe P w) (k+1) f fd ps (hsp W l (uY n ms)):=by
 subst O o;refine F.okX S FT λd A a s H U Q E B ⟨Z,T,G,p,z,o,u,r,q⟩=>?_;obtain⟨R,C,D⟩:=h d A a s H E B I;refine⟨R,C,D Z z T H _ _ G (B3 u r) _ ?_⟩;unfold uY at q;revert q;cases ms (p.map some++List.replicate (N.length-p.length) none) G with
 |exc c fs g=>exact id
 |wall=>exact id
 |nx e g=>exact λq m i L R2 j=>q m i R2.toHH j .non rfl
 |rt y g=>exact λq m i v J j M=>q m i J j v M
 |bk e g=>exact λq=>q.elim
 |ct e g=>exact λq=>q.elim
end
def FX(b:SqL W.K H p (ns.map V.int))(h:∃G,g [.v (.sc ns)] []=.ok (.v (.b true)) G)(k:∀l,Q (.bl true) l):hsp W 1 g [.ref p] H Q E:=by
 obtain⟨G,h⟩:=h;refine⟨⟨W,H,λ_=>True⟩,λ_=>0,[],[.v (.sc ns)],rfl,rfl,⟨zD.refl _,(λk c e=>by cases e),λj k f=>absurd f (a1O _),λk a=>absurd a (a1O _)⟩,⟨.ref p,[],rfl,⟨p,rfl,?_⟩,rfl⟩,?_⟩
 .exact b.elim (λz=>.inl ⟨⟨.inl trivial,λk a=>absurd a (a1O _)⟩,z⟩) .inr
 .rw[h];intro m d n o v i;cases i;exact k d
def OQ(bs:R_)(N:RS)(fr:Sm)(c:RW)(B:X.N.Nodup)(o:X.N[j]?=some y)(l:X.env.scope.names.lookup y=some .local)(p:X.calm=true)(f:p4 X scope N fr=true)(w:IM X ⟨W,E,fr'⟩ S true tg qI mi)(C:∀z:CI,GM (cxI X scope N z) ⟨W,E0,false⟩ c c tg mg)(n:∀z:CI,TsM (cxI X scope N z) ⟨W,E0,false⟩ c ifs mc)(he:∀z:CI,EM (cxI X scope N z) ⟨W,E0,false⟩ c false elt me)(i:c=inS S fr:=by rfl)(v:S.all (·==0)=true:=by rfl)
  (e:swapsWith (.ListComp elt [⟨tg,qI,ifs,0⟩] scope pos) (some (.Name y py)) m4.line X.env=pure true:=by rfl) (r:∀x,foldedSetIterable qI X.env x=pure x:=by intro _;rfl):HS X W E (.Assign [.Name y py] (.ListComp elt [⟨tg,qI,ifs,0⟩] scope pos) m4) (kA j (hF bs (mLC mi fr mg mc me))):=λd=>by
 obtain⟨J,q,m⟩:=w d;obtain⟨g,F,h⟩:=V8 C λ_=>d;obtain⟨I,G,A⟩:=V7 n λ_=>d;obtain⟨K,D,u⟩:=cV he λ_=>d;exact⟨_,Br N fr B o l p f q (λa b s H L=>F ⟨a,b,s,H,L⟩) (λa b s H L=>G ⟨a,b,s,H,L⟩) (λa b s H L=>D ⟨a,b,s,H,L⟩) e r,nV (PF bs (BJ m rfl i h A u) v)⟩
def pD1(x:PV):PV->Out PV
 |.i n=>match pk x with|some k=>.ok (.d [(k,.i n)])|none=>.wall
 |_=>.wall
def mD1(mk mv:ME):ME:=λa=>(mk a).bind λx=>(mv a).bind λy=>pD1 x y
def OR(N:EM X C S w1 a m1)(L:EM X C S w2 b m2):FM X C S (.Dict [some a] [b] pos) (mD1 m1 m2):=λw=>by
 obtain⟨G,J,F⟩:=N w;obtain⟨tb,M,D⟩:=L w;refine⟨_,Fc (Bh J M Fb) rfl rfl (by simp) (show 1<=15 by decide),λB P H g d R Q q=>λp hp=>?_⟩;have s:zD H (upd H p (.dK [])):=zD.upd hp;unfold mD1 at q;refine F B P _ g d (R.keep s) _ ?_;cases j:m1 d with
 |exc c fs=>rw[j]at q;exact q
 |wall=>rw[j]at q;exact q
 |ok x=>
  rw[j]at q;intro v O l K;refine D B P _ g d (R.keep (s.trans l)) _ ?_;cases m:m2 d with
  |exc c fs=>have q:=q;rw[m]at q;exact q
  |wall=>have q:=q;rw[m]at q;exact q
  |ok y=>
   have q:=q;rw[m]at q;intro u A s2 E;have q:=q;cases y with
   |i n=>
    cases f:pk x with
    |none=>have q:ya C B H _ Q (match pk x with|some k=>.ok (.d [(k,.i n)])|none=>.wall):=q;rw[f]at q;exact q.elim
    |some k=>
    have q:ya C B H _ Q (match pk x with|some k=>.ok (.d [(k,.i n)])|none=>.wall):=q;rw[f]at q;have ev:=V4 (K.weak) f;have I:=E.weak;subst ev I;have e:=(l.trans s2) _ _ zj;refine⟨e,[(k,.int n)],rfl,by show 1<=15;decide,q _ _ (λc o r=>?_) ⟨p,rfl,hp,[(k,.int n)],zj,⟨_,_,rfl,rfl,rfl⟩⟩⟩;have:c≠p:=λz=>by rw[z,hp]at r;cases r
    rw[zm this];exact(s.trans (l.trans s2)) _ _ r
   |_=>exact q.elim
def DF(d:X.A.units+64<cLine)(e:HE X W E a m1)(f:HE X W E b m2):HE X W E (.Compare a [.Eq] [b] pos) (hOp (jG false) m1 m2):=λc=>L7 (uk c.symm d) nE e f (XF _ `b `b) c
def signsOf:PV->Out (List PV)
 |.s z=>.ok (z.cps.toList.map λc=>.s ⟨#[c]⟩)
 |_=>.wall
def gh(m:ME):MI:=λa=>(m a).bind signsOf
def L8:FE W M N H2 (Its z) (z.cps.toList.map λc=>PV.s ⟨#[c]⟩):=λj f=>by refine⟨λi x d=>?_,by rw[f8];exact a2g a1p.symm⟩;rw[a0d]at d;obtain⟨c,b,rfl⟩:=v0.mp d;rw[a3d]at b;refine⟨(a1M.mp b).1,λv e g=>?_⟩;obtain⟨rfl,h,a,rfl⟩:=g;rw[b]at a;cases a;exact⟨zD.refl _,λ_ _=>rfl⟩
def L9(h:EM X C S w e m):IM X C S cc (.Name y py) e (gh m):=λg=>by
 obtain⟨j,d,f⟩:=h g;refine⟨_,IE d,λB P H i a R Q q=>f B P H i a R _ ?_⟩;unfold gh at q;revert q;cases m a with
 |exc c fs=>exact id
 |wall=>exact id
 |ok x=>
  intro q v b s r;cases x with
  |s z=>have ev:=r.weak;exact⟨z,ev,q _ b s L8⟩
  |_=>exact q.elim
def wu(k:Nat)(g:HMG)(b:HMS):Nat->Nat->Jc->AH->HFw
 |r,i,f,G=>match G[k]? with
  |some (.l h)=>match h[i]? with
   |none=>.nx f G
   |some x=>match r with
    |0=>.wall
    |r+1=>match g x f with
     |none=>.wall
     |some e=>match b e G with
      |.nx a d=>wu k g b r (i+1) a d
      |.ct a d=>wu k g b r (i+1) a d
      |.bk a d=>.nx a d
      |.rt v d=>.rt v d
      |.exc c fs d=>.exc c fs d
      |.wall=>.wall
  |_=>.wall
def rH(m:HME)(g:HMG)(b:HMS):HMS:=λa G=>(m a G).fw λx c=>match x with
 |.g k=>match c[k]? with
  |some (.l d)=>wu k g b d.length 0 a c
  |_=>.wall
 |_=>.wall
def lM(hp:PassesOwn (Ts X) X.A X.env X.xe)(hc:X.calm=true)(hi:HE X W E qI m)(hg:HG X W tg mg)(hb:HSs X W E body mb)(hs:∀x,foldedSetIterable qI X.env x=pure x:=by intro _;rfl):
  HS X W E (.For tg qI body [] pos) (rH m mg mb):=λhK=>by
 obtain⟨te,a1,a2⟩:=hi hK;obtain⟨g,b1,b2⟩:=hg hK;obtain⟨tb,c1,c2⟩:=hb hK;refine⟨_,s_ hp hc (uE a1) b1 c1 hs,λZ L A H σ ρ G R D q=>a2 Z L A H σ ρ G R _ (HPs.bind q λx z H1 P h1 g1 C v rx=>?_)⟩;split at C
 .rename_i k;obtain⟨hk,rfl⟩:= rx;split at C
  .rename_i xs hx;have T:=R.gro h1 g1;obtain⟨vs,hl,rs⟩:=h1.cell k _ hx;refine .inl ⟨z k,rfl,⟨vs,SqL.of hl⟩,?_⟩;refine⟨λi n j I=>∃a f e,HR Z f I j a e/\Gro Z z P.length H1 f e.length I/\HPs Z E f e.length I D (wu k mg mb n i a e),⟨xs.length,ρ,z,P,T,Gro.refl,C⟩,?_⟩
   rintro i n j I ⟨a,f,e,N,Q,b⟩
   have ak:=Q.agr k hk;unfold wu at b;split at b
   .rename_i ys hy;obtain⟨us,K,ru⟩:=N.toHH.cell k _ hy;rw[ak]at K;split at b
    .rename_i hn;refine .inl ⟨⟨us,SqL.of K,?_⟩,b f I j N Gro.refl⟩;rw[ru.len];exact a2G.mp hn
    .rename_i y M;obtain⟨u,w,O⟩:=ru.get M;split at b
     .exact b.elim
     .rename_i r;refine .inr ⟨⟨us,u,SqL.of K,w⟩,λJ l=>∃a f e,HR Z f l J a e/\Gro Z z P.length H1 f e.length l/\HPs Z E f e.length l D (wu k mg mb r (i+1) a e),λJ l h=>⟨r,a0L _,h⟩,λv' B Y=>?_⟩;obtain⟨rfl,Y⟩:=Y;have:=Y us (SqL.of K);rw[w]at this;cases this;split at b
      .exact b.elim
      .rename_i s U;refine b2 Z L f B j a e y u N O _ ⟨s,U,λσ1 T=>c2 Z L f B σ1 s e T _ ?_⟩;revert b;cases mb s e with
       |wall=>exact id
       |exc c fs p=>exact id
       |nx d p=>exact λb A3 H3 S R3 F=>⟨d,A3,p,R3,Q.trans F,HPs.gro b F⟩
       |ct d p=>exact λb A3 H3 S R3 F=>⟨d,A3,p,R3,Q.trans F,HPs.gro b F⟩
       |bk d p=>exact id
       |rt x p=>exact id
   .exact b.elim
  .exact C.elim
 .exact C.elim
open Classical in
def hide(H:Hp)(R:SH):Hp:=λa=>if a∈R then none else H a
def lO(h:a∈R):hide H R a=none:=if_pos h
def Z6(h:a∉R):hide H R a=H a:=if_neg h
def B4:hide H []=H:=funext λa=>Z6 (by simp)
def gi:zD (hide H (p::R)) (hide H R):=λa o h=>by
 by_cases m:a∈p::R
 .rw[lO m]at h;cases h
 .rw[Z6 m]at h;rw[Z6 λz=>m (R9 _ z)];exact h
theorem nW{W:RC}{M:RY}{A:Se}{n:Nat}{H:Hp}:∀{b:SH}{c:RW},c.length=b.length->(∀(i:Nat) j p,c[i]?=some j->b[i]?=some p->j<n/\A j=p)->zQ W M A n H (c.map .g) (b.map .ref)
 |[],[],_,_=>by rfl
 |p::b,j::c,a,h=>by refine⟨_,_,rfl,?_,nW (Nat.succ.inj a) λi j p e d=>h (i+1) j p e d⟩;obtain⟨e,d⟩:=h 0 j p rfl rfl;exact⟨e,by rw[d]⟩
 |[],_::_,a,_=>by cases a
 |_::_,[],a,_=>by cases a
def uZ{f:Type}{Y:f->Cx}(h:∀z,FM (Y z) C S e m)(c:∀z,(Y z).K=C.W.K):∃d,(∀z,PE (Y z) e d)/\LFr C S d m:=
 ⟨λb H Q=>∀z,(Classical.choose (h z (c z))) b H Q,λz a s b H Q I q=>(a0p (h z (c z))).1 a s b H Q I (q z),λB P H b g R Q q z=>(a0p (h z (c z))).2 B P H b g R Q q⟩
def FY(kvs:Sr)(y:PV):Out PV:=match pk y with
 |some k=>.ok ((zM kvs k).getD .n)
 |none=>.wall
def NL(m1 m2:ME):ME:=λb=>(m1 b).bind λx=>match x with
 |.d a=>(m2 b).bind (FY a)
 |_=>.wall
def L_(A:X.A.units+1<cLine)(T:EM X C S w1 o m1)(M:EM X C S w2 e m2)(m:M1 X o "get" jm e ZW):EM X C S false (.Call (.Attribute o "get" jm) [e] [] ZW) (NL m1 m2):=λw=>by
 obtain⟨U,J,G⟩:=T w;obtain⟨tb,O,D⟩:=M w;refine⟨_,Bi A J O m,λB P H r l R Q q=>G B P H r l R _ (yM q λx v L F K s=>?_)⟩;cases x with
 |d a=>
  obtain⟨p,g,rfl,_,n,rk⟩:=K.weak;refine⟨p,rfl,.inl ⟨g,n⟩,D B P L r l (R.keep F) _ (yM s λy u h s2 E b=>?_)⟩;cases i:pk y with
  |none=>
   have e:FY a y=.wall:=by unfold FY;rw[i]
   rw[e]at b;exact b.elim
  |some k=>
   have e:FY a y=.ok ((zM a k).getD .n):=by unfold FY;rw[i]
   rw[e]at b;have I:=V4 E.weak i;subst I;have j:Rd h p (.dK g):=n.elim (λz=>.inl (s2 _ _ z)) λ⟨o,z⟩=>.inr ⟨o,s2 _ _ z⟩;refine⟨XH g k,.inl ⟨g,k,j,rfl,rfl⟩,?_⟩;cases c:zM a k with
   |none=>rw[c]at b;rw[rk.NG c];exact b _ h (zD.refl _) (RV.of rfl)
   |some x=>rw[c]at b;obtain⟨v,ev,N⟩:=rk.get c;rw[ev];exact b _ h (zD.refl _) (RV.of (N.same s2))
 |_=>exact s.elim
def Xf(mo mi:HME):HMS:=λa G=>(mo a G).fw λx c=>match x with
 |.g k=>match c[k]? with
  |some (.l _)=>(mi a c).fw λy b=>match y,b[k]? with
   |.v (.i i),some (.l d)=>if 0<=i/\i<d.length/\i<1000000 then .nx a (b.set k (.l (d.eraseIdx i.toNat)))else .wall
   |_,_=>.wall
  |_=>.wall
 |_=>.wall
def zQ.erase:∀{a:Sh}{k:Nat},zQ W M A n H b a->zQ W M A n H (b.eraseIdx k) (a.eraseIdx k):=by
 induction b with
 |nil=>intro a k h;subst h;rfl
 |cons x b d=>
  intro a k h;obtain⟨v,r,rfl,e,c⟩:=h;cases k with
  |zero=>exact c
  |succ k=>exact⟨_,_,rfl,e,d c⟩
def lQ(ho:HE X W E o m1)(P:HE X W E a m2)(M:attributeBase o "pop" X.env (eval o X.env)=eval o X.env:=by rfl)
  (U:((backTo ZW (starEach [a] X.env)).all (λx=>!x.1)&&(backToKw ZW (keywordEach [] X.env)).all (λx=>x.1.isSome)
   && decide (([a]:List Expr).length+([]:List Keyword).length+(if([]:List Keyword).isEmpty then 0 else 1)<30))=true:=by rfl)
  (KH:(jm.endLine==ZW.line)=true:=by rfl) (C:starEach [a] X.env=[(false,eval a X.env)]:=by rfl) (m:swapsWith (.Call (.Attribute o "pop" jm) [a] [] ZW) none pos.line X.env=pure false:=by rfl):
  HS X W E (.Expr (.Call (.Attribute o "pop" jm) [a] [] ZW) pos) (Xf m1 m2):=λJ=>by
 obtain⟨to,o1,o2⟩:=ho J;obtain⟨ta,a1,S⟩:=P J;refine⟨_,Y6 (tR a00 PySem.F.slot_list_pop PySem.F.type_list_pop Bb o1 (wY a1 Ws (by rw[C];rfl)) M U KH (by rw[C];rfl) rfl) m,λZ w A H z I G R D q=>o2 Z w A H z I G R _ (HPs.bind q λx Q H1 O g N f v rx=>?_)⟩;split at f
 .rename_i k;obtain⟨B,rfl⟩:= rx;split at f
  .rename_i T h;obtain⟨n,p,_⟩:=g.cell k _ h;have F:=R.gro g N;refine⟨.inl ⟨rfl,n,SqL.of p⟩,S Z w Q H1 z I O F _ (HPs.bind f λy A2 H2 G2 r j b u ru=>?_)⟩;split at b
   .rename_i i K Y;have eu:=ru;subst eu;by_cases s:0<=i/\i<K.length/\i<1000000
    .rw[if_pos s]at b;obtain⟨d,hp,rs⟩:=r.cell k _ Y;have e:=T7 B j.le;rw[<- j.agr k B];have hl:=rs.len;have l:i.toNat<d.length:=`d
     have g3:=r.frw (o:=.lst (d.eraseIdx i.toNat)) e hp id;have L:seqIndex? i d.length=some i.toNat:=by
      have h0:¬i<0:=`d
      have g:i<d.length:=`d
      simp only[seqIndex?,h0,if_false,s.1,g,decide_true,Bool.and_self,if_true]
     exact⟨_,d,i,i.toNat,d[i.toNat],rfl,rfl,hp,`d,`d,L,S6 l,FU (c:=.l (K.eraseIdx i.toNat)) (F.gro r j) e hp id ⟨_,zj,rs.erase.gro g3⟩ b⟩
    .rw[if_neg s]at b;exact b.elim
   .exact b.elim
  .exact f.elim
 .exact f.elim
def pk2:List PV->Option (List Key)
 |[x,y]=>(pk x).bind λa=>(pk y).bind λb=>some [a,b]
 |_=>none
def u6(s:zD H H')(h:Rd H p u):Rd H' p u:=(zD.fr (M:=λ_=>True) s).rd h trivial
theorem dh{k:SO}:∀{kvs:SW},XH (dtV kvs) k=(zM kvs k).map V.int
 |[]=>rfl
 |q::r=>by
  unfold dtV XH zM;rw[T2,a1x,a1x];by_cases c:q.1=k
  .simp only[c];rfl
  .simp only[c];exact dh
def FZ:putK (dtV a) k (.int n)=dtV (dput a k n):=by
 have e:∀{a:SW},(dtV a).any (λb=>decide (b.1=k))=a.any (λb=>decide (b.1=k))/\(dtV a).map (λb=>if b.1=k then(b.1,V.int n)else b)=dtV (a.map λb=>if b.1=k then(b.1,n)else b):=λ{a}=>by
  induction a with
  |nil=>exact⟨rfl,rfl⟩
  |cons q r d=>
   unfold dtV at d ⊢;refine⟨by rw[T2,a0E,a0E,d.1],?_⟩;rw[T2,T2,T2,T2,d.2];by_cases c:q.1=k
   .rw[if_pos c,if_pos c]
   .rw[if_neg c,if_neg c]
 unfold putK dput;rw[e.1];split
 .exact e.2
 .unfold dtV;rw[T5];rfl
section
variable {X:Cx}{C:LC}{S Sb Sc:RW}{e a b o:Sf}{es:Sd}{w1 w2:Bool}{ws:R_}{m m1 m2:ME}{ms:MA}{pos p pos':Pos}{i x1:Nat}
def RVs.OS(h:RVs C B S P H ws xs vs)(c:pk2 xs=some ks):vs=ks.map kV/\vs.length<=sizeLine:=by
 have h:=h.weak
 match xs,c with
 |[x,y],c=>obtain⟨q,j,c⟩:=a0f.mp c;obtain⟨n,f,c⟩:=a0f.mp c;cases c;obtain⟨v,r,rfl,d,u,g,rfl,l,e⟩:=h;cases e;rw[V4 d j,V4 l f];exact⟨rfl,by show 2<=sizeLine;decide⟩
def DG:ME:=λ_=>.ok (.dt [])
def B5:FM X C S (.Dict [] [] pos) DG:=λd=>⟨_,Bg,λB P H f c R Q q=>λp hp=>q _ _ (zD.upd hp) ⟨p,rfl,hp,zj⟩⟩
def PH(x:PV)(xs:Sn):Out PV:=match x,pk2 xs with
 |.dt c,some d=>ZH ((zM c d).map PV.i)
 |_,_=>.wall
def iK(m:ME)(ms:MA):ME:=λc=>(m c).bind λx=>(ms c).bind λd=>PH x d
def Jr(h:X.A.units+1<cLine)(T:EM X C S w1 a m1)(N:AM X C S ws es ms)(K:Ua (.Tuple es x1 p):=by intro _ _;rfl):EM X C S false (.Subscript a (.Tuple es x1 p) pos) (iK m1 ms):=λg=>by
 obtain⟨Z,I,D⟩:=T g;obtain⟨tb,O,j⟩:=N g;refine⟨_,EY (i_ h) I (fj O) K,λB P H d f R Q q=>D B P H d f R _ (yM q λx v M u J E=>j B P M d f (R.keep u) _ (jn E λxs Y W s2 r c=>?_))⟩;unfold PH at c;split at c
 .rename_i U ks s;obtain⟨y,G,L⟩:=yZ c;obtain⟨n,F,rfl⟩:=v0.mp G;obtain⟨rfl,A⟩:=r.OS s;obtain⟨p,rfl,_,l⟩:=J.weak;refine⟨A,λz hz=>⟨p,.int n,rfl,.inr ⟨_,_,z,u6 (zD.upd hz) (u6 s2 l),rfl,zj,by rw[dh,F];rfl⟩,L _ _ (zD.upd hz) (RV.of rfl)⟩⟩
 .exact c.elim
def inT(d:Bool)(ks:SO):PV->Out PV
 |.dt c=>.ok (.b (xor d (zM c ks).isSome))
 |_=>.wall
def gj(c:Bool)(ms:MA)(m:ME):ME:=λd=>(ms d).bind λg=>match pk2 g with
 |some f=>(m d).bind (inT c f)
 |none=>.wall
def DH(v:LA C S ws ta ms)(x:LE C S w1 tb m1):LE C S false (tOp (NH C.W.K neg) (Po ta) tb) (gj neg ms m1):=λB P H f g R Q q=>v B P H f g R _ (jn q λG D E n s d=>by
 split at d
 .rename_i F l;obtain⟨rfl,r⟩:=s.OS l;refine⟨r,λz hz=>x B P _ f g ((R.keep n).keep (zD.upd hz)) _ (yM (Q_ d (zD.upd hz)) λy u A s2 j c=>?_)⟩;unfold inT at c;split at c
  .obtain⟨p,rfl,_,h⟩:=j.weak;exact .inr ⟨p,_,rfl,.inr ⟨_,_,z,h,rfl,s2 _ _ zj,rfl⟩,by rw[dh,a05];exact c _ _ (zD.refl _) (RV.of rfl)⟩
  .exact c.elim
 .exact d.elim)
def DI(g:X.A.units+1<cLine)(q:AM X C S ws es ms)(h:EM X C S w2 b m2)(n:behindInMarks .In b=false:=by with_unfolding_all rfl):TM X C S (.Compare (.Tuple es x1 p) [.In] [b] pos) (zU (gj false ms m2)):=λc=>by obtain⟨r,d,f⟩:=q c;obtain⟨tb,l,j⟩:=h c;exact⟨_,cH (Dp g) (fj d) l n,Uj (by rw[c];exact DH f j)⟩
def vN(g:X.A.units+1<cLine)(q:AM X C S ws es ms)(h:EM X C S w2 b m2)(n:behindInMarks .NotIn b=false:=by with_unfolding_all rfl):TM X C S (.Compare (.Tuple es x1 p) [.NotIn] [b] pos) (zU (gj true ms m2)):=λc=>by obtain⟨r,d,f⟩:=q c;obtain⟨tb,l,j⟩:=h c;exact⟨_,cH (fR g) (fj d) l n,Uj (by rw[c];exact DH f j)⟩
def OT(i:Nat)(ρ:Sto)(o:Out (List PV)):Option (Option PV)->PV->Out Fw
 |some (some (.dt c)),.i n=>o.bind λd=>match pk2 d with
  |some k=>if c.length<sizeLine then .ok (.nx (ρ.set i (some (.dt (dput c k n)))))else .wall
  |none=>.wall
 |_,_=>.wall
def gk(i:Nat)(ms:MA)(mv:ME):MS:=λc=>(mv c).bind λv=>OT i c (ms c) c[i]? v
def lR(K:X.A.units+1<cLine)(M:PE X o (pH i))(s:AM X C S ws es ms)(W:EM X C S false e m2)(G:S[i]?=some 2:=by rfl)(T:swapsWith e (some (.Subscript o (.Tuple es x1 p) pos')) pos.line X.env=pure false:=by rfl):
  SM X C S S Sb Sc (.Assign [.Subscript o (.Tuple es x1 p) pos'] e pos) (gk i ms m2):=λI=>by
 obtain⟨ta,Q,O⟩:=s I;obtain⟨tv,b1,L⟩:=W I;refine⟨_,iV K M (fj Q) b1 T,λB P H r d R D q=>L B P H r d R _ ?_⟩;unfold gk at q;revert q;cases m2 d with
 |ok y=>
  intro q v F x U;have A:=R.keep x;have q:ZN C B S Sb Sc D (OT i d (ms d) d[i]? y):=q;unfold OT at q;split at q
  .rename_i f n J q0;obtain⟨h,hp,N⟩:=A.at2 G J;have hp:=hp;cases U.weak;refine⟨_,h,O B P F r d A _ ?_⟩;revert q;cases ms d with
   |ok z=>
    intro q u H2 g Z;have R2:=A.keep g;have q:ZN C B S Sb Sc D (match pk2 z with
     |some k=>if f.length<sizeLine then .ok (.nx (d.set i (some (.dt (dput f k n)))))else .wall
     |none=>.wall):=q
    split at q
    .rename_i k s;split at q
     .rename_i hz;obtain⟨rfl,l⟩:=Z.OS s;refine⟨l,λt E=>?_⟩;have Y:=R2.keep (zD.upd (o:=.tup (k.map kV)) E);have j:=zD.upd (o:=.tup (k.map kV)) E _ _ (g _ _ hp);refine⟨_,_,rfl,Bd.t j zj (by unfold dtV;rw[f8];exact hz),q P _ r (Y.wr G N h (by exact id) ?_)⟩;show upd _ _ _ _=_;rw[zj,FZ]
     .exact q.elim
    .exact q.elim
   |exc c fs=>exact id
   |wall=>exact id
  .exact q.elim
 |exc c fs=>exact id
 |wall=>exact id
end
section
variable {X:Cx}{W:RC}{E:XK}{o:Sf}{m:HME}{pos jm:Pos}{n:Nat}
def gm(mo:HME):HMS:=λa G=>(mo a G).fw λx b=>match x with
 |.g k=>match b[k]? with
  |some (.l c)=>.nx a (b.set k (.l c.reverse))
  |_=>.wall
 |_=>.wall
theorem zQ.reverse{M:RY}{A:Se}{n:Nat}{H:Hp}:∀{b:List HV}{a:Sh},zQ W M A n H b a->zQ W M A n H b.reverse a.reverse
 |[],a,h=>by subst h;rfl
 |x::b,a,h=>by obtain⟨v,r,rfl,d,c⟩:=h;rw[a1Y,a1Y];exact(zQ.reverse c).append ⟨v,[],rfl,d,rfl⟩
def bO(s:HE X W E o m)(h:attributeBase o "reverse" X.env (eval o X.env)=eval o X.env:=by rfl)(J:(jm.endLine==p.line)=true:=by rfl)(b:swapsWith (.Call (.Attribute o "reverse" jm) [] [] p) none pos.line X.env=pure false:=by rfl):
  HS X W E (.Expr (.Call (.Attribute o "reverse" jm) [] [] p) pos) (gm m):=λC=>by
 obtain⟨K,w,z⟩:=s C;refine⟨_,Y6 (Ii a00 PySem.F.slot_list_reverse PySem.F.type_list_reverse pW w h J) b,λZ i A H l B G R D q=>z Z i A H l B G R _ (HPs.bind q λx M N L d j a v I=>?_)⟩;split at a
 .rename_i k;obtain⟨f,rfl⟩:= I;split at a
  .rename_i F u;obtain⟨g,hp,r⟩:=d.cell k _ u;have y:=d.frw (o:=.lst g.reverse) f hp id;exact⟨.inl ⟨rfl,_,SqL.of hp⟩,_,g,rfl,rfl,hp,FU (c:=.l F.reverse) (R.gro d j) f hp id ⟨_,zj,r.reverse.gro y⟩ a⟩
  .exact a.elim
 .exact a.elim
end
def OU{g:Type}{P:List g->Prop}{us:List g}(i:us.length=6)(h:∀a b c d e f,P [a,b,c,d,e,f]):P us:=by
 match us,i with|[a,b,c,d,e,f],_=>exact h a b c d e f
end L2
namespace L2
open PySem PySem.W PyProof.Rows
def XT{b:Type}(P:Tf)(f:Td):KasT b->(b->Prop)->Prop
 |.ret a,Q=>Q a
 |.ask i j k,Q=>P i/\P j/\XT P f (k (f i j)) Q
theorem ZQ{c b:Type}{P:Tf}{f:Td}{g:c->KasT b}{Q:b->Prop}:∀{t:KasT c},XT P f t (λa=>XT P f (g a) Q)->XT P f (t.bind g) Q
 |.ret _,h=>h
 |.ask _ _ _,h=>⟨h.1,h.2.1,ZQ h.2.2⟩
theorem qi{b:Type}{P:Tf}{f:Td}{Q c:b->Prop}(d:∀a,Q a->c a):∀{t:KasT b},XT P f t Q->XT P f t c
 |.ret _,h=>d _ h
 |.ask _ _ _,h=>⟨h.1,h.2.1,qi d h.2.2⟩
theorem u7{e:Type}{P:Tf}{f:Td}{b:Nat->Nat->(Bool->Shared->Prop)->Shared->Prop}{J:Shared->Prop}(l:∀i j C s,P i->P j->J s->(∀g,J g->C (f i j) g)->b i j C s){Q:e->Prop}{R:e->Shared->Prop}(m:∀a s,Q a->J s->R a s):∀{t:KasT e}{s:RZ},J s->XT P f t Q->t.kasWp b R s
 |.ret a,s,c,h=>m a s h c
 |.ask i j k,s,c,h=>l i j _ s h.1 h.2.1 c λg d=>u7 l m d h.2.2
abbrev at0(p:SU)(k:Nat):Nat:=p.getD k 0
def K6:at0 p k=(p[k]?).getD 0:=by simp
def di(a:j<=p.size)(k:Nat):at0 (kas_rev p i j) k=if i<=k/\k<j then at0 p (i+j-1-k)else at0 p k:=by rw[K6,K6,K6];unfold kas_rev;rw[getElem?_mirror_all a];split<;>rfl
def bP(a:k<p.size)(b:l<=k)(i:Nat):at0 (bubble p k (k-l)) i=if i=l then at0 p k else if l<i/\i<=k then at0 p (i-1)else at0 p i:=by
 rw[K6,K6,K6,K6,getElem?_bubble a (k-l) `a,show k-(k-l)=l by omega];split
 .rfl
 .split<;>rfl
section
variable {O:KeyOrd}{key:Nat->O.α}{n:Nat}
abbrev kk(key:Nat->O.α)(p:SU)(i:Nat):O.α:=key (at0 p i)
abbrev ans(key:Nat->O.α)(i j:Nat):Bool:=O.blt (key i) (key j)
structure Pm(n:Nat)(p:SU):Prop where
 perm:p.toList.Perm (List.range n)
 size:p.size=n
def Pm.rev(h:Pm n p):Pm n (kas_rev p i j):=⟨(a2x.mp (mirror_perm p i j _)).trans h.perm,(kas_rev_size i j).trans h.size⟩
def Pm.bub(h:Pm n p):Pm n (bubble p i j):=⟨(a2x.mp (bubble_perm p i j)).trans h.perm,(bubble_size p i j).trans h.size⟩
def Pm.lt(h:Pm n p)(b:0<n)(k:Nat):at0 p k<n:=by
 rw[K6];by_cases a:k<p.size
 .rw[getElem?_pos p k a];have:p[k]∈p.toList:=by simp
  exact a0Z.mp (h.perm.mem_iff.mp this)
 .rw[getElem?_neg p k a];exact b
def Up(key:Nat->O.α)(p:SU)(m:Nat):Prop:=∀i j,i<=j->j<m->O.kle (kk key p i) (kk key p j)
def Dn(key:Nat->O.α)(p:SU)(m:Nat):Prop:=∀i j,i<=j->j<m->O.kle (kk key p j) (kk key p i)
theorem u9{p:SU}(hp:Pm n p)(g:0<n):∀{f m:Nat},1<=m->m+f<=n->Up key p m->XT (·<n) (ans key) (kas_asc p f m) λr=>m<=r/\r<=m+f/\Up key p r/\(r<m+f->O.klt (kk key p r) (kk key p (r-1)))
 |0,m,_,_,e=>⟨S0 _,S0 _,e,λh=>absurd h `a⟩
 |f+1,m,v,u,e=>by
  refine⟨hp.lt g _,hp.lt g _,?_⟩;show XT _ _ (if O.blt (kk key p m) (kk key p (m-1))=true then _ else _) _;cases q:O.blt (kk key p m) (kk key p (m-1))with
  |true=>exact⟨S0 _,`d,e,λ_=>q⟩
  |false=>
   have l:Up key p (m+1):=λi j o w=>by
    by_cases c:j=m
    .subst c;by_cases s:i=j
     .subst s;exact O.irrefl _
     .exact a2R (e i (j-1) `a `a) q
    .exact e i j o `a
   exact qi (λr ⟨a,b,c,d⟩=>⟨`d,`d,c,λh=>d `a⟩) (u9 hp g `a `a l)
structure Hr(key:Nat->O.α)(n:Nat)(p:SU)(m q:Nat):Prop where
 pm:Pm n p
 dn:Dn key p m
 le:m<=n
 qm:q+1<=m
 eq:∀k,m-(q+1)<=k->k<m->kk key p k=kk key p (m-1)
def Hr.alike(h:Hr key n p m q)(k:Nat):kk key (kas_rev p (m-(q+1)) m) k=kk key p k:=by
 have e:=h.le;have d:=h.pm.size;unfold kk;rw[di `a];split
 .rename_i c;have a:=h.eq (m-(q+1)+m-1-k) `a `a;have b:=h.eq k c.1 c.2;exact a.trans b.symm
 .rfl
theorem lU(g:0<n):∀{f m q:Nat}{p:SU},m+f<=n->Hr key n p m q->XT (·<n) (ans key) (kas_desc f p m q) λr=>m<=r.2.1/\r.2.1<=m+f/\Hr key n r.1 r.2.1 r.2.2
 |0,m,q,p,_,h=>⟨S0 _,S0 _,h⟩
 |f+1,m,q,p,B,h=>by
  have C:=h.qm;refine⟨h.pm.lt g _,h.pm.lt g _,?_⟩;show XT _ _ (if O.blt (kk key p m) (kk key p (m-1))=true then _ else _) _;have l:∀{d:SU},(∀k,kk key d k=kk key p k)->O.kle (kk key p m) (kk key p (m-1))->Dn key d (m+1):=λ{d} o s i j u D=>by
   rw[o,o];by_cases c:j=m
   .subst c;by_cases A:i=j
    .subst A;exact O.irrefl _
    .exact a2R s (h.dn i (j-1) `a `a)
   .exact h.dn i j u `a
  cases w:O.blt (kk key p m) (kk key p (m-1))with
  |true=>
   have s:=a2S w;have x:∀{d:SU},Pm n d->(∀k,kk key d k=kk key p k)->XT (·<n) (ans key) (kas_desc f d (m+1) 0) λr=>m<=r.2.1/\r.2.1<=m+(f+1)/\Hr key n r.1 r.2.1 r.2.2:=λ{d} hp o=>
    qi (λr ⟨a,b,c⟩=>⟨`d,`d,c⟩) (lU g `a ⟨hp,l o s,`d,`d,λk z y=>by rw[show k=m+1-1 by omega]⟩)
   by_cases c:q>0
   .rw[if_pos c];exact x h.pm.rev h.alike
   .rw[if_neg c];exact x h.pm λ_=>rfl
  |false=>
   refine⟨h.pm.lt g _,h.pm.lt g _,?_⟩;show XT _ _ (if O.blt (kk key p (m-1)) (kk key p m)=true then _ else _) _;cases v:O.blt (kk key p (m-1)) (kk key p m)with
   |true=>exact⟨S0 _,by show m<=m+(f+1);omega,h⟩
   |false=>
    have e:=O.total _ _ w v;refine qi (λr ⟨a,b,c⟩=>⟨`d,`d,c⟩) (lU g `a ⟨h.pm,l (λ_=>rfl) v,`d,`d,λk z y=>?_⟩);by_cases c:k=m
    .rw[c];rfl
    .rw[show m+1-1=m by omega,e];exact h.eq k `a `a
abbrev OV(key:Nat->O.α)(n:Nat):Nat×Array Nat->Prop:=λr=>Pm n r.2/\1<=r.1/\r.1<=n/\Up key r.2 r.1
def nX(e:0<n)(hp:Pm n p)(h:1<=m)(q:m<=n)(g:Dn key p m):XT (·<n) (ans key) (kas_tail3 m n p) (OV key n):=by
 have o:=hp.size;have d:Up key (kas_rev p 0 m) m:=λi j l s=>by unfold kk;rw[di `a,di `a,if_pos ⟨`d,`d⟩,if_pos ⟨`d,`d⟩];exact g (0+m-1-j) (0+m-1-i) `a `a
 refine ZQ (qi (λr ⟨a,b,c,_⟩=>?_) (u9 hp.rev e h `a d));exact⟨hp.rev,`d,`d,c⟩
def UD(e:0<n)(hp:Pm n p)(y:1<=m)(v:m+1<=n)(he:∀k,k<m->kk key p k=kk key p (m-1))(l:O.klt (kk key p m) (kk key p (m-1))):XT (·<n) (ans key) (kas_descPart m n p) (OV key n):=by
 have hf:Hr key n p (m+1) 0:=⟨hp,λi j d h=>by
  by_cases c:j=m
  .subst c;by_cases o:i=j
   .subst o;exact O.irrefl _
   .rw[he i `a];exact a2S l
  .rw[he i `a,he j `a];exact O.irrefl _,`d,`d,λk x s=>by rw[show k=m+1-1 by omega]⟩
 refine ZQ (qi (λr ⟨a,b,c⟩=>?_) (lU e `a hf));by_cases g:r.2.2>0
 .rw[if_pos g];exact nX e c.pm.rev `a c.le λi j d h=>by rw[c.alike,c.alike];exact c.dn i j d h
 .rw[if_neg g];exact nX e c.pm `a c.le c.dn
def B6(g:0<n)(hp:Pm n p):XT (·<n) (ans key) (kas_count n p) (OV key n):=by
 have x:=hp.size;refine ZQ (qi (λm ⟨a,b,c,d⟩=>?_) (u9 hp g (S0 _) `a λi j w y=>by rw[show i=j by omega];exact O.irrefl _));by_cases r:(m==n)=true
 .rw[if_pos r];exact⟨hp,a,`d,c⟩
 .rw[if_neg r];have h:m<n:=by have:m≠n:=λq=>r `c;omega
  have s:=d `a;by_cases u:m>1
  .rw[if_pos u];refine⟨hp.lt g _,hp.lt g _,?_⟩;show XT _ _ (if O.blt (kk key p 0) (kk key p (m-1))=true then _ else _) _;cases v:O.blt (kk key p 0) (kk key p (m-1))with
   |true=>exact⟨hp,a,`d,c⟩
   |false=>
    have e:=O.total _ _ v (c 0 (m-1) `a `a);have al:=λk l=>O.total _ _ (by rw[<- e];exact c 0 k `a l) (c k (m-1) `a `a);have o:∀k,kk key (kas_rev p 0 m) k=kk key p k:=λk=>by
     unfold kk;rw[di `a];split
     .rename_i z;exact(al (0+m-1-k) `a).trans (al k z.2).symm
     .rfl
    exact UD g hp.rev a h (λk l=>by rw[o,o];exact al k l) `c
  .rw[if_neg u];exact UD g hp a h (λk l=>by rw[show k=m-1 by omega]) s
theorem kB{p:SU}(hp:Pm n p)(d:0<n){k:Nat}(a:Up key p k):∀{f l r:Nat},l<=r->r<=k->r-l<=f->(∀i,i<l->O.kle (kk key p i) (kk key p k))->(∀i,r<=i->i<k->O.klt (kk key p k) (kk key p i))->
  XT (·<n) (ans key) (kas_place p k f l r) λl=>l<=k/\(∀i,i<l->O.kle (kk key p i) (kk key p k))/\∀i,l<=i->i<k->O.klt (kk key p k) (kk key p i)
 |0,l,r,o,rk,hf,e,b=>⟨`d,e,λi g=>b i `a⟩
 |f+1,l,r,o,rk,hf,e,b=>by
  show XT _ _ (if l ≥ r then KasT.ret l else _) _;by_cases c:l ≥ r
  .rw[if_pos c];exact⟨`d,e,λi g=>b i `a⟩
  .rw[if_neg c];refine⟨hp.lt d _,hp.lt d _,?_⟩;show XT _ _ (if O.blt (kk key p k) (kk key p ((l+r) / 2))=true then _ else _) _;cases h:O.blt (kk key p k) (kk key p ((l+r) / 2))with
   |true=>exact kB hp d a `a `a `a e λi m j=>KeyOrd.klt_of_klt_of_kle h (a _ _ m j)
   |false=>exact kB hp d a `a rk `a (λi g=>a2R (a i ((l+r) / 2) `a `a) h) b
theorem DJ(q:0<n):∀{f k:Nat}{p:SU},Pm n p->k+f<=n->Up key p k->XT (·<n) (ans key) (kas_bin f p k) λm=>Pm n m/\Up key m (k+f)
 |0,k,p,hp,_,d=>⟨hp,d⟩
 |f+1,k,p,hp,v,d=>by
  have w:=hp.size;refine ZQ (qi (λl ⟨a,b,c⟩=>?_) (kB hp q d (a0A _) (S0 _) `a (λi u=>absurd u (a1O _)) λi h g=>absurd g `a));refine qi (λm ⟨x,y⟩=>⟨x,by rw[show k+(f+1)=k+1+f by omega];exact y⟩) (DJ q hp.bub `a λi j o z=>?_);unfold kk;rw[bP `a a,bP `a a];by_cases h:i=l
  .rw[if_pos h];by_cases e:j=l
   .rw[if_pos e];exact O.irrefl _
   .rw[if_neg e,if_pos ⟨`d,`d⟩];exact a2S (c (j-1) `a `a)
  .rw[if_neg h];by_cases e:j=l
   .rw[if_pos e,if_neg `a];exact b i `a
   .rw[if_neg e];by_cases g:l<i/\i<=k
    .rw[if_pos g,if_pos ⟨`d,`d⟩];exact d (i-1) (j-1) `a `a
    .rw[if_neg g];by_cases s:l<j/\j<=k
     .rw[if_pos s];exact d i (j-1) `a `a
     .rw[if_neg s];exact d i j o `a
def u_(e:0<n):XT (·<n) (ans key) (kas_sort n) λp=>Pm n p/\Up key p n:=by
 refine ZQ (qi (λr ⟨a,b,c,d⟩=>?_) (B6 e ⟨List.Perm.refl _,by simp⟩));by_cases h:r.1<n
 .rw[if_pos h,show max r.1 1=r.1 by omega];refine qi (λp ⟨x,y⟩=>⟨x,by rw[show n=r.1+(n-r.1) by omega];exact y⟩) (DJ e a `a d)
 .rw[if_neg h];exact⟨a,by rw[show n=r.1 by omega];exact d⟩
end
end L2
namespace L2
open PySem PySem.Spec PyProof.Rows PySem.W
abbrev bQ:=Int×Int×Str
def F0(x y:bQ):Bool:=if x.1=y.1 then(if x.2.1=y.2.1 then decide (x.2.2.cps.toList<y.2.2.cps.toList)else decide (x.2.1<y.2.1))else decide (x.1<y.1)
def F1{a b:Str}(h:a.cps.toList=b.cps.toList):a=b:=by obtain⟨x⟩:=a;obtain⟨y⟩:=b;exact a0K Str.mk (a2T.mp h)
def Ma:KeyOrd where
 α:=bQ
 blt:=F0
 irrefl a:=by unfold F0;rw[if_pos rfl,if_pos rfl];exact strKind.irrefl _
 trans a b c e d:=by
  unfold F0 at *;by_cases i:a.1=b.1
  .rw[if_pos i]at e;by_cases l:b.1=c.1
   .rw[if_pos l]at d;rw[if_pos (i.trans l)];by_cases f:a.2.1=b.2.1
    .rw[if_pos f]at e;by_cases j:b.2.1=c.2.1
     .rw[if_pos j]at d;rw[if_pos (f.trans j)];exact strKind.trans _ _ _ e d
     .rw[if_neg j]at d;rw[if_neg (by rw[f];exact j),f];exact d
    .rw[if_neg f]at e;by_cases j:b.2.1=c.2.1
     .rw[if_pos j]at d;rw[if_neg (by rw[<- j];exact f),<- j];exact e
     .rw[if_neg j]at d;have e:=a0S e;have d:=a0S d;rw[if_neg `a];exact S8 `a
   .rw[if_neg l]at d;rw[if_neg (by rw[i];exact l),i];exact d
  .rw[if_neg i]at e;have e:=a0S e;by_cases l:b.1=c.1
   .rw[if_neg `a];exact S8 `a
   .rw[if_neg l]at d;have d:=a0S d;rw[if_neg `a];exact S8 `a
 negTrans a b c h:=by
  unfold F0 at *;by_cases i:a.1=b.1
  .rw[if_pos i];by_cases l:b.1=c.1
   .rw[if_pos (i.trans l)]at h;rw[if_pos l];by_cases f:a.2.1=b.2.1
    .rw[if_pos f];by_cases j:b.2.1=c.2.1
     .rw[if_pos (f.trans j)]at h;rw[if_pos j];exact strKind.negTrans _ _ _ h
     .rw[if_neg (by rw[f];exact j)]at h;rw[if_neg j];exact .inr (by rw[<- f];exact h)
    .rw[if_neg f];by_cases j:b.2.1=c.2.1
     .rw[if_neg (by rw[<- j];exact f)]at h;exact .inl (by rw[j];exact h)
     .rw[if_neg j];by_cases g:a.2.1<b.2.1
      .exact .inl (S8 g)
      .by_cases m:a.2.1=c.2.1
       .exact .inr (S8 `a)
       .rw[if_neg m]at h;have h:=a0S h;exact .inr (S8 `a)
   .rw[if_neg (by rw[i];exact l)]at h;rw[if_neg l];exact .inr (by rw[<- i];exact h)
  .rw[if_neg i];by_cases g:a.1<b.1
   .exact .inl (S8 g)
   .refine .inr ?_;by_cases l:b.1=c.1
    .rw[if_neg (by rw[<- l];exact i)]at h;have h:=a0S h;omega
    .rw[if_neg l];by_cases m:a.1=c.1
     .exact S8 `a
     .rw[if_neg m]at h;have h:=a0S h;exact S8 `a
 total a b e d:=by
  unfold F0 at *;by_cases i:a.1=b.1
  .rw[if_pos i]at e;rw[if_pos i.symm]at d;by_cases f:a.2.1=b.2.1
   .rw[if_pos f]at e;rw[if_pos f.symm]at d;have:=F1 (strKind.total _ _ e d);exact Prod.ext i (Prod.ext f this)
   .rw[if_neg f]at e;rw[if_neg (Ne.symm f)]at d;have e:=a1T e;have d:=a1T d;omega
  .rw[if_neg i]at e;rw[if_neg (Ne.symm i)]at d;have e:=a1T e;have d:=a1T d;omega
def NM(h:Heap)(v:Value)(k:bQ):Prop:=∃a o n c d b,v=.ref a/\h.get? a=some o/\o.cls=.type "tuple"/\o.data=.seq #[.int k.1 c,.int k.2.1 d,.str k.2.2 b] n
section
variable {prog:Sl}{w:So}{A:Su}{E:RX}{s:RZ}
def lt3(l:NM s.heap x k1)(j:NM s.heap y k2)(h:Q (F0 k1 k2) s):wpAny (model prog w) A (keyLt' (tuples' true) x y) Q E s:=by
 obtain⟨a,o,n,q,u,v,rfl,g,_,f⟩:=l;obtain⟨b,p,m,z,B,r,rfl,hp,_,i⟩:=j;refine kat_lt g f hp i ?_;unfold F0 at h;refine kat_cons (a2H ?_);by_cases c:k1.1=k2.1
 .rw[if_pos c]at h;rw[show(k1.1==k2.1)=true from a0t.mpr c];refine kat_yes (kat_cons (a2H ?_));by_cases d:k1.2.1=k2.2.1
  .rw[if_pos d]at h;rw[show(k1.2.1==k2.2.1)=true from a0t.mpr d];refine kat_yes (kat_cons (wpAny_eqBool_str ?_));by_cases e:k1.2.2=k2.2.2
   .rw[S8 e];refine kat_yes (kat_nil ?_);rw[e,show decide (k2.2.2.cps.toList<k2.2.2.cps.toList)=false from strKind.irrefl _]at h;exact h
   .rw[S7 e];exact kat_no (kat_one _ _ (lt_str h))
  .rw[if_neg d]at h;rw[show(k1.2.1==k2.2.1)=false from a0C.mpr d];exact kat_no (kat_one _ _ (lt_int h))
 .rw[if_neg c]at h;rw[show(k1.1==k2.1)=false from a0C.mpr c];exact kat_no (oneLt_int h)
def gp(h:Heap):List Value->List bQ->Prop
 |[],[]=>True
 |v::a,k::b=>NM h v k/\gp h a b
 |_,_=>False
def gp.get(d:bQ):∀{vs:Sa}{ks:List bQ}{i:Nat},gp h vs ks->i<ks.length->NM h (vs.getD i .none) (ks.getD i d):=by
 intro vs
 induction vs with
 |nil=>
  intro ks i t hi;cases ks with
  |nil=>exact absurd hi (a1O _)
  |cons k ks=>exact t.elim
 |cons v vs ih=>
  intro ks i t hi;cases ks with
  |nil=>exact t.elim
  |cons k ks=>
   cases i with
   |zero=>exact t.1
   |succ i=>exact ih t.2 (Nat.lt_of_succ_lt_succ hi)
theorem gp.kat{h:Heap}:∀{b:Sa}{c:List bQ},gp h b c->∃fs:List Value,KatTups h b fs/\fs.length=c.length/\∀v∈fs,∃n t,v=.int n t
 |[],[],_=>⟨[],trivial,rfl,λv h=>by cases h⟩
 |_::_,_::_,⟨⟨a,o,n,q,r,p,e,j,i,g⟩,t⟩=>by obtain⟨fs,d,l,f⟩:=gp.kat t;exact⟨_::fs,⟨⟨a,o,_,n,e,j,i,g,rfl⟩,d⟩,by rw[R4,R4,l],λv m=>(T6.mp m).elim (λe=>⟨_,_,e⟩) (f v)⟩
 |[],_::_,t=>t.elim
 |_::_,[],t=>t.elim
def OW(t:gp s.heap vs ks)(d:0<ks.length)(h:Q (tuples' true) s):wpAny (model prog w) A (keyKind' vs.toArray) Q E s:=by obtain⟨fs,a,e,c⟩:=t.kat;refine kat_kind (T:=.type "int") a `a (λv b=>?_) `b (by exact h);obtain⟨n,t,rfl⟩:=c v b;exact .now
end
section
variable {X:Cx}{pins:RT}{σ:St}{H:Hp}{s:RZ}{h':Heap}
def Inv.OX(I:Inv X pins σ H s)(k:∀b o,b≠it->s.heap.get? b=some o->h'.get? b=some o)(w:H it=none)(h:it≠X.env.locals)
  (D:it∈X.ex\/X.s₀.heap.objs.size<=it) (y:∀x c,X.env.cells.lookup x=some c->c≠it) (A:∀p∈X.pn++pins,p.1≠it) (new:qu X.prog X.w (upd H it o) h' it o):Inv X pins σ (upd H it o) { s with heap:=h',toks:=t' }:=by
 have a:∀b u,H b=some u->b≠it:=λb u e z=>by rw[z,w]at e;cases e
 have g:∀b,b∉[it]->b≠it:=λb d z=>d (by simp[z]);refine I.step (λb f=>?_) (λb o _ _ d e _=>k b o (g b d) e) (λb o _ _ d e _=>⟨o.slots,k b o (g b d) e⟩) (λb _ d _ n=>by rw[zm (g b d)];exact n)
  (λb o d e=>⟨o,k b o (g b d) e⟩) (λb B e=>by rw[zm (a b _ e)];exact e) (λb _ _ e=>by rw[zm (a b _ e)];exact e) (λb E e=>⟨#[],by rw[zm (a b _ e),e];simp⟩) (λm i=>?_) (λb u e=>?_) I.bare
 .have e:=by simpa using f
  subst e;exact⟨D,h,y,A⟩
 .obtain⟨o,C,l,j,r⟩:=i;exact⟨o,C,l,k _ o (Ne.symm h) j,r⟩
 .by_cases f:b=it
  .subst f;rw[zj]at e;cases e;exact new
  .rw[zm f]at e;refine(I.hok b u e).sR (λc v d q=>k c v ?_ q) (λc q=>by rw[zm (a c _ q)];exact q) λc B q=>by rw[zm (a c _ q)];exact q
   rcases d with z|z
   .rw[z];exact a b u e
   .exact a c _ z
structure B7(X:Cx)(pins:RT)(a:Addr):Prop where
 loc:a≠X.env.locals
 fs:a∉X.fs
 ex:a∈X.ex\/X.s₀.heap.objs.size<=a
 cel:∀x c,X.env.cells.lookup x=some c->c≠a
 pin:∀p∈X.pn++pins,p.1≠a
def Inv.PJ{H':Hp}(I:Inv X pins σ H s)(a:`g<=b):B7 X pins b:=by have:=I.Hi (H':=λ_=>none) a rfl;exact⟨this.2.1,this.2.2.1,this.2.2.2.1,this.2.2.2.2.1,this.2.2.2.2.2⟩
def Inv.NO(I:Inv X pins σ H s)(w:B7 X pins a)(b:H a=none)(d:s.heap.get? a=some o)(c:∀v,o.data≠.cell v):Inv X (pins++[(a,o)]) σ H s:=
 I.cF λp hp=>(a0o.mp hp).elim (λz=>I.pin p (a0m _ z)) λz=>by rw[T9.mp z];exact⟨d,b,w.loc,w.fs,c⟩
def Inv.at1(I:Inv X (pins++[(a,o)]) σ H s):s.heap.get? a=some o/\H a=none:=by have:=I.pin (a,o) (a0m _ (a0m _ v4));exact⟨this.1,this.2.1⟩
end
def xa(sp:Sp):List V->List V->Hp->(List V->Hp->Prop)->Prop
 |[],a,H,Q=>Q a H
 |v::b,a,H,Q=>sp [v] H (λz c=>xa sp b (a++[z]) c Q) (λ_ _ _=>False)
def aL(K:Sx)(H:Hp):List V->List bQ->Prop
 |[],[]=>True
 |z::a,k::b=>(∃p,z=.ref p/\SqT K H p [.int k.1,.int k.2.1,.str k.2.2])/\aL K H a b
 |_,_=>False
theorem aL.len{K:Sx}{H:Hp}:∀{b:Sh}{a:List bQ},aL K H b a->b.length=a.length
 |[],[],_=>rfl
 |_::_,_::_,t=>by rw[R4,R4,aL.len t.2]
 |[],_::_,t=>t.elim
 |_::_,[],t=>t.elim
theorem aL.xb{X:Cx}{pins:RT}{σ:St}{H:Hp}{s:RZ}(I:Inv X pins σ H s):∀{d:Sh}{b:List bQ}{c:Sa},aL X.K H d b->Vals d c->gp s.heap c b
 |[],[],_,_,.nil=>trivial
 |_::_,k::_,_,⟨⟨p,e,j⟩,t⟩,.cons r rs=>by
  subst e;cases r;refine⟨?_,aL.xb I t rs⟩;obtain⟨w,a,⟨o,h,l,n,f⟩,_⟩:=I.tuple j;cases a with
  |cons q a=>cases a with
   |cons g a=>cases a with
    |cons v a=>cases a;obtain⟨i,rfl⟩:=q;obtain⟨m,rfl⟩:=g;obtain⟨u,rfl⟩:=v;exact⟨p,o,n,i,m,u,rfl,h,l,f⟩
 |[],_::_,_,t,_=>t.elim
 |_::_,[],_,t,_=>t.elim
def Srt(a:List bQ)(q:RW):Prop:=q.Perm (List.range a.length)/\q.Pairwise λi j=>Ma.kle (a.getD i (0,0,"")) (a.getD j (0,0,""))
def DK(sp:Sp)(K:Sx)(ys:Sh)(H:Hp)(Q:VK):Prop:=ys.length<64/\xa sp ys [] H λd c=>∃b:List bQ,b.length=ys.length/\aL K c d b/\∀(q:RW) a,Srt b q->c a=none->Q (.ref a) (upd c a (.lst (q.map λi=>ys.getD i .non)))
def DL(hp:Pm kz.length p)(f:Up (O:=Ma) (λi=>kz.getD i (0,0,"")) p kz.length):Srt kz p.toList:=by
 refine⟨hp.perm,?_⟩;rw[a1P];intro i j c d a;have g:=hp.size;rw[a1p]at c d;have:=f i j (a2f a) `a;have e:∀k b,at0 p k=p.toList[k]'(`d):=λk b=>by rw[K6,getElem?_pos p k b];simp
 unfold kk at this;rw[e i c,e j d]at this;exact this
section
variable {X:Cx}{k:Nat}{f:Addr}{fd:Sq}{ps:RS}{sp:Sp}
def B8(F:y_ X.prog X.w X.K X.mg X.base (CXe X.prog X.w) k f fd ps sp)(i:vB k A)(g:AN X.prog X.w X.K X.mg X.base A X.stack s H)(j:Binds X.K fd ps [])
  (I:Inv X pins σ H s) (r:RelV v u) (h:sp [v] H Q (λ_ _ _=>False)):wpAny (Ts X) A (call (.ref f) [u]) (EP X pins σ Q) E s:=by
 have c:Vals [v] [u]:=.cons r .nil;have d:([u]++[]).length=ps.length:=by exact F.len _ _ _ _ h
 have b:=j s [u] I.kIn d;refine a1H (a1D (F.run A X.stack s H ⟨[u],[]⟩ [u] [v] Q _ i g b c h) λr l a=>?_);cases r with
 |error e=>exact(f6 a).elim
 |ok fl=>
  cases fl with
  |ret u=>exact I.after a
  |next=>exact False.elim a
  |brk=>exact False.elim a
  |cont=>exact False.elim a
def KC(X:Cx)(k:Nat)(c:RT)(f:Addr)(sp:Sp):Prop:=∀{a:RT}{b:St}{H:Hp}{s:RZ}{Q:VK}{E:RX}{A:Su}{u:Value}{v:V},(∀p∈c,p∈a)->vB k A->AN X.prog X.w X.K X.mg X.base A X.stack s H->Inv X a b H s->RelV v u->sp [v] H Q (λ_ _ _=>False)->wpAny (Ts X) A (call (.ref f) [u]) (EP X a b Q) E s
def OY(F:y_ X.prog X.w X.K X.mg X.base (CXe X.prog X.w) k f fd ps sp)(c:Binds X.K fd ps []):KC X k [] f sp:=λ_ b a I r h=>B8 F b a c I r h
end
section
variable {X:Cx}{k:Nat}{f:Addr}{sp:Sp}
theorem nY{pins:RT}{σ:St}{A:Su}{E:RX}{kS:Addr}{Q0:List V->Hp->Prop}{body:Value->PUnit->Sem (ForInStep PUnit)}{lp:RT}(F:KC X k lp f sp)(hlp:∀p∈lp,p∈pins)(hr:vB k A)(hA:A.frames=X.A.frames)
  (w:B7 X pins kS)
  (sD:∀x s (C:Shared->Prop),wpAny (Ts X) A (call (.ref f) [x]) (λz s'=>wpAny (Ts X) A (Builtin.List.listUpdate (.ref kS) (·.push z)) (λ_ s''=>C s'') (λ_ _=>False) s') (λ_ _=>False) s->wpAny (Ts X) A (body x ⟨⟩) (λr s'=>r=.yield ⟨⟩/\C s') E s):
  ∀{ys:Sh}{its:Sa}{acc:Sh}{us:Sa}{e:Nat}{H:Hp}{s:RZ},acc.length+ys.length<64->Vals ys its->Vals acc us->Inv X (pins++[(kS,seqObj "list" us.toArray e)]) σ H s->xa sp ys acc H Q0->
   wpAny (Ts X) A (forIn its PUnit.unit body) (λ_ s'=>∃zs us' e' H',zs.length=acc.length+ys.length/\Vals zs us'/\Inv X (pins++[(kS,seqObj "list" us'.toArray e')]) σ H' s'/\Q0 zs H') E s
 |[],_,acc,us,e,H,s,_,.nil,ra,I,h=>by exact T1 ⟨acc,us,e,H,rfl,ra,I,h⟩
 |v::ys,_,acc,us,e,H,s,hl,.cons (b:=u) (l₂:=its) r rs,ra,I,h=>by
  rw[R4]at hl;have hul:=ra.length;rw[List.forIn_cons];refine u8 (a0G (sD u s (λs'=>∃(zs:(V×Nat)×Value) (H':Hp),Inv X (pins++[(kS,seqObj "list" (us++[zs.2]).toArray zs.1.2)]) σ H' s'/\RelV zs.1.1 zs.2/\xa sp ys (acc++[zs.1.1]) H' Q0) ?_) (λq s' hq=>?_) λ_ _ x=>x)
  .have A0:AN X.prog X.w X.K X.mg X.base A X.stack s H:=⟨hA.trans I.tI.frames,I.tI.mod,I.tI.bs,I.tI.bsz,I.tI.iH,I.tI.frf,I.tI.hok,I.tI.bare⟩;refine a0G (F (λp hp=>a1h _ (hlp p hp)) hr A0 I r h) (λz s1 ⟨y,H1,I1,r1,q1⟩=>?_) λ_ _ x=>x;have a1:=I1.at1;have J1:=I1.wy;obtain⟨e2,he2⟩:∃e2,(s1.heap.update kS (Obj.mapSeq (·.push z))).get? kS=some (seqObj "list" (us++[z]).toArray e2):=⟨_,by
    have:=get?_update_seq a1.1 (·.push z);rw[show us.toArray.push z=(us++[z]).toArray by simp]at this;exact this⟩
   refine a2y a1.1 rfl ?_ (by rw[T4,a0I];omega) (a0l (a2g (Array.size_push ..)) (by rw[T4,a0I];omega));have J2:Inv X pins σ H1 { s1 with heap:=s1.heap.update kS (Obj.mapSeq (·.push z)),toks:=s1.toks }:=J1.turned (λb o hb ho=>(a0r s1.heap _ (Ne.symm hb)).trans ho) a1.2 w.loc w.ex w.cel w.pin;exact⟨((y,e2),z),H1,J2.NO w a1.2 he2 (λv h=>by cases h),r1,q1⟩
  .obtain⟨rfl,zs,H',I',r',q'⟩:=hq;refine a0G (nY F hlp hr hA w sD `c rs (ra.append (.cons r' .nil)) I' q') (λ_ s2 ⟨zs',us',e',H2,hl',h2,h3,h4⟩=>⟨zs',us',e',H2,?_,h2,h3,h4⟩) λ_ _ x=>x;rw[hl',R7,a0g,R4];omega
def Vals.getD(r:Vals ys its)(i:Nat):RelV (ys.getD i .non) (its.getD i .none):=by
 induction r generalizing i with
 |nil=>exact rfl
 |cons r rs a=>
  cases i with
  |zero=>exact r
  |succ i=>exact a i
theorem dj{ys:Sh}{its:Sa}(r:Vals ys its):∀q:List Nat,Vals (q.map λi=>ys.getD i .non) (q.map λi=>its.getD i .none)
 |[]=>.nil
 |i::q=>.cons (r.getD i) (dj r q)
end
section
variable {X:Cx}{f:Addr}
def gq{pins:RT}{σ:St}{A:Su}{E:RX}{c D:Addr}{e d:Nat}{H:Hp}{s:RZ}{us outU:Sa}{a:Sh}{st:SortSt}{Q:VK}{P:PySem.Fin->Shared->Prop}
  (i:B7 X pins D) (h:B7 X (pins++[(D,seqObj "list" #[] d)]) c) (y:us.length<64) (j:outU.length<64) (ro:Vals a outU) (g:(arrOf st).map (·.2)=List.toArray outU) (hf:failedOf st=none)
  (I:Inv X (pins++[(D,seqObj "list" #[] d)]++[(c,seqObj "list" us.toArray e)]) σ H s) (w:Q (.ref D) (upd H D (.lst a))) (hP:∀p,EP X pins σ Q (.ref D) p->P (.done (.ret .none)) p):wpAny (Ts X) A (ksk_tail D false d (.ref c) st) P E s:=by
 have n:=I.at1;have v:=I.wy;have x:c≠D:=λz=>h.pin (D,seqObj "list" #[] d) (a0m _ (a0m _ v4)) z.symm;have q:Inv X (pins++[(D,seqObj "list" #[] d)]) σ H { s with heap:=s.heap.update c (Obj.mapSeq λ_=>(#[]:Array Value)),toks:=s.toks }:=v.turned (λb o m j=>(a0r s.heap _ (Ne.symm m)).trans j) n.2 h.loc h.ex h.cel h.pin;have l:=q.at1;unfold ksk_tail
 try dsimp only
 rw[g];refine u8 (a2y n.1 rfl ?_ (by rw[T4,a0I];omega) (a0A _));refine u8 (wpAny_letGo ?_);refine u8 (seqEpoch_at l.1 rfl ?_);refine u8 (a2y l.1 rfl ?_ (a0A _) (by simp only[Bool.false_eq_true,if_false,List.size_toArray];rw[a0I];omega));rw[hf];simp only[bne_self_eq_false,if_false];refine T1 (hP _ ?_);have u:=get?_update_seq l.1 λ_=>List.toArray outU;have B:=ro.length;have r:Inv X pins σ (upd H D (.lst a)) { s with heap:=(s.heap.update c (Obj.mapSeq λ_=>(#[]:Array Value))).update D (Obj.mapSeq λ_=>List.toArray outU),toks:=s.toks }:=Inv.OX (s:={ s with heap:=s.heap.update c (Obj.mapSeq λ_=>(#[]:Array Value)),toks:=s.toks }) q.wy (λb o m j=>(a0r _ _ (Ne.symm m)).trans j) l.2 i.loc i.ex i.cel i.pin ⟨by rw[a0I];omega,outU,_,ro,u⟩;exact⟨.ref D,_,r,rfl,w⟩
def B9
  (B:B7 X pins D) (K:B7 X (pins++[(D,seqObj "list" #[] e1)]) kS) (Z:ys.length<64) (u:Vals ys its) (L:Vals zs us) (F:aL X.K H zs kz) (w:kz.length=ys.length)
  (I:Inv X (pins++[(D,seqObj "list" #[] e1)]++[(kS,seqObj "list" us.toArray e)]) σ H s) (G:∀q:List Nat,Srt kz q->Q (.ref D) (upd H D (.lst (q.map λi=>ys.getD i .non)))) (hP:∀c,EP X pins σ Q (.ref D) c->P (.done (.ret .none)) c):wpAny (Ts X) A (ksk_end D false its.toArray e1 (.ref kS) us.toArray) P E s:=by
 have N:=u.length;have T:=F.len;have W:=L.length;have h:us.length=its.length:=`d
 unfold ksk_end
 try dsimp only
 simp only[Bool.false_eq_true,if_false];by_cases g:its.toArray.size<2
 .rw[if_pos g,if_pos g];rw[T4]at g;refine u8 (T1 ?_);refine u8 (T1 ?_)
  try dsimp only
  have o:Srt kz (List.range its.length):=by refine⟨by rw[w,N],?_⟩;rw[a1P];intro i j r v Y;rw[a0v]at r v;omega
  refine gq B K `a `c (dj u _) ?_ rfl I (G _ o) hP;apply a2T.mp;rw[Array.toList_map,ksk_zip,List.map_snd_zip `c];refine List.ext_getElem (by rw[f8,a0v]) λi y g=>?_;simp[y]
 .rw[if_neg g,if_neg g];rw[T4]at g;have m:=F.xb I L;refine u8 (OW m `a ?_);have l:(kas_sort its.length).kasWp (kas_ask X.prog X.w A (tuples' true) us) (λp c=>c=s/\Srt kz p.toList) s:=by
   refine u7 (P:=(·<kz.length)) (f:=ans (O:=Ma) λi=>kz.getD i (0,0,"")) (J:=λc=>c=s) (λi j C c r v o U=>?_) (λp c y g=>⟨g,y⟩) rfl ?_
   .subst o;exact lt3 (m.get (0,0,"") r) (m.get (0,0,"") v) (U _ rfl)
   .have:=u_ (O:=Ma) (key:=λi=>kz.getD i (0,0,"")) (n:=kz.length) `a;rw[show its.length=kz.length by omega];exact qi (λp ⟨a,b⟩=>DL a b) this
  refine u8 (a0G (kat_run (Q:=λd c=>c=s/\∃p:Array Nat,p.size=its.length/\arrOf d=p.map (kas_item (us.toArray.zip its.toArray))/\failedOf d=none/\Srt kz p.toList) h `a `a (λp d c S M R z=>⟨z.1,p,S,M,R,z.2⟩) l) ?_ λ_ _ x=>x)
  rintro⟨⟨⟩,d⟩ c ⟨rfl,p,hp,har,hf,srt⟩
  try dsimp only
  exact gq B K `a `c (dj u _) (kat_snds h har) hf I (G _ srt) hP
end
def rJ(F:KC X k lp f sp)(hlp:∀p∈lp,p∈pins)(hr:vB (k+2) X.A)
  (I:Inv X pins σ H s) (hl:SqL X.K H l ys) (h:DK sp X.K ys H Q):wpAny (Ts X) X.A (call (.builtin "sorted") [.ref l] [(Str.ofString "key",.ref f)]) (EP X pins σ Q) E s:=by
 obtain⟨hy,h⟩:=h;obtain⟨its,ry,pl,hz⟩:=I.list hl;have hlen:=ry.length;refine call_function_entry_kw kind_sorted plain_sorted entry_sorted (ksk_s1 _ _) ?_;unfold Builtin.«sorted»;refine u8 (m:=checkCount "sorted" 1 1 _) (T1 ?_);refine u8 (collect_list pl.isList ?_ (by rw[a0I];omega));refine u8 (wpAny_newList ?_ (by rw[a0I];omega));have hsz:((s.heap.push (seqObj "list" #[] 0)).update s.heap.objs.size (Obj.mapSeq (·++its.toArray))).objs.size=s.heap.objs.size+1:=by rw[Heap.size_update,size_push']
 have hoL:(((s.heap.push (seqObj "list" #[] 0)).update s.heap.objs.size (Obj.mapSeq (·++its.toArray))).push (seqObj "list" its.toArray 0)).get? (s.heap.objs.size+1)=some (seqObj "list" its.toArray 0):=by rw[<- hsz];exact a0k _ rfl
 have keep:∀b o,s.heap.get? b=some o->(((s.heap.push (seqObj "list" #[] 0)).update s.heap.objs.size (Obj.mapSeq (·++its.toArray))).push (seqObj "list" its.toArray 0)).get? b=some o:=λb o q=>by have hlt:b<s.heap.objs.size:=S9 q;rw[Heap.get?_push_ne _ _ _ (by rw[hsz];exact a0e (a10 hlt)),a2q _ _ _ _ (a0e hlt),Heap.get?_push_ne _ _ _ (a0e hlt)];exact q
 have hs1:(((s.heap.push (seqObj "list" #[] 0)).update s.heap.objs.size (Obj.mapSeq (·++its.toArray))).push (seqObj "list" its.toArray 0)).objs.size=s.heap.objs.size+2:=by rw[size_push',hsz]
 show wpAny _ _ _ _ _ { s with heap:=((s.heap.push (seqObj "list" #[] 0)).update s.heap.objs.size (Obj.mapSeq (·++its.toArray))).push (seqObj "list" its.toArray 0) };rw[hsz];have I1:Inv X pins σ H { s with heap:=((s.heap.push (seqObj "list" #[] 0)).update s.heap.objs.size (Obj.mapSeq (·++its.toArray))).push (seqObj "list" its.toArray 0),toks:=s.toks }:=I.kept keep;have w1:B7 X pins (s.heap.objs.size+1):=I.PJ (H':=H) (a0Y _);have n1:H (s.heap.objs.size+1)=none:=I.hok.fresh (a0Y _);generalize((s.heap.push (seqObj "list" #[] 0)).update s.heap.objs.size (Obj.mapSeq (·++its.toArray))).push (seqObj "list" its.toArray 0)=h1 at hoL hs1 I1 keep;generalize hD:s.heap.objs.size+1=D at hoL w1 n1;refine u8 (a0N (wpAny_call_entry_kw slot_list_sort ⟨_,hoL,rfl⟩ entry_list_sort ?body (ksk_l1 _ _)))
 case body=>
  show wpAny (Ts X) X.A.in1.in1 (Builtin.«list.sort» ⟨[.ref D],[(Str.ofString "key",.ref f)]⟩) _ _ _;rw[ksk_t1];obtain⟨e1,ho1⟩:∃e1,(h1.update D (Obj.mapSeq λ_=>(#[]:Array Value))).get? D=some (seqObj "list" #[] e1):=⟨_,get?_update_seq hoL λ_=>#[]⟩;have I2:Inv X pins σ H { s with heap:=h1.update D (Obj.mapSeq λ_=>(#[]:Array Value)),toks:=s.toks }:=Inv.turned (s:={ s with heap:=h1,toks:=s.toks }) I1 (λb o hb ho=>(a0r h1 _ (Ne.symm hb)).trans ho) n1 w1.loc w1.ex w1.cel w1.pin;have hs2:(h1.update D (Obj.mapSeq λ_=>(#[]:Array Value))).objs.size=s.heap.objs.size+2:=by rw[Heap.size_update,hs1]
  unfold ksk_tree;refine u8 (listItems_at hoL rfl ?_);refine u8 (a2y hoL rfl ?_ (by rw[T4,a0I];omega) (a0A _));generalize h1.update D (Obj.mapSeq λ_=>(#[]:Array Value))=h2 at ho1 I2 hs2;refine u8 (seqEpoch_at ho1 rfl ?_);refine u8 (wpAny_newTuple ?_ (by show its.length<=_;rw[a0I];omega));refine u8 (wpAny_newList ?_ (a0A _));refine a0N ?_;have hk3:(h2.push { cls:=.type "tuple",data:=.seq its.toArray.toList.toArray }).objs.size=s.heap.objs.size+3:=by rw[size_push',hs2]
  have keep3:∀b o,h2.get? b=some o->((h2.push { cls:=.type "tuple",data:=.seq its.toArray.toList.toArray }).push { cls:=.type "list",data:=.seq ([]:List Value).toArray }).get? b=some o:=λb o q=>S4 _ (S4 _ q);have I3:Inv X pins σ H { s with heap:=(h2.push { cls:=.type "tuple",data:=.seq its.toArray.toList.toArray }).push { cls:=.type "list",data:=.seq ([]:List Value).toArray },toks:=s.toks }:=Inv.kept (s:={ s with heap:=h2,toks:=s.toks }) I2 keep3;have hoK:((h2.push { cls:=.type "tuple",data:=.seq its.toArray.toList.toArray }).push { cls:=.type "list",data:=.seq ([]:List Value).toArray }).get? (h2.push { cls:=.type "tuple",data:=.seq its.toArray.toList.toArray }).objs.size=some (seqObj "list" ([]:List Value).toArray 0):=a0k _ rfl;have hoD:=keep3 D _ ho1;show wpAny (Ts X) X.A.in1.in1 (ksk_rest D (.ref f) false its.toArray e1 (.ref (h2.push { cls:=.type "tuple",data:=.seq its.toArray.toList.toArray }).objs.size)) _ _ { s with heap:=(h2.push { cls:=.type "tuple",data:=.seq its.toArray.toList.toArray }).push { cls:=.type "list",data:=.seq ([]:List Value).toArray },toks:=s.toks };have w2:B7 X (pins++[(D,seqObj "list" #[] e1)]) (h2.push { cls:=.type "tuple",data:=.seq its.toArray.toList.toArray }).objs.size:=by have J:Inv X (pins++[(D,seqObj "list" #[] e1)]) σ H { s with heap:=h2,toks:=s.toks }:=Inv.NO (s:={ s with heap:=h2,toks:=s.toks }) I2 w1 n1 ho1 (λv h=>by cases h);exact J.PJ (H':=H) (by show h2.objs.size<=_;rw[hk3,hs2];omega)
  have n2:H (h2.push { cls:=.type "tuple",data:=.seq its.toArray.toList.toArray }).objs.size=none:=I.hok.fresh (by rw[hk3];omega);generalize(h2.push { cls:=.type "tuple",data:=.seq its.toArray.toList.toArray }).push { cls:=.type "list",data:=.seq ([]:List Value).toArray }=h3 at I3 hoK hoD;generalize(h2.push { cls:=.type "tuple",data:=.seq its.toArray.toList.toArray }).objs.size=kS at hoK w2 n2;have I4:Inv X (pins++[(D,seqObj "list" #[] e1)]++[(kS,seqObj "list" ([]:List Value).toArray 0)]) σ H { s with heap:=h3,toks:=s.toks }:=
   Inv.NO (s:={ s with heap:=h3,toks:=s.toks }) (Inv.NO (s:={ s with heap:=h3,toks:=s.toks }) I3 w1 n1 hoD (λv h=>by cases h)) w2 n2 hoK (λv h=>by cases h)
  unfold ksk_rest;refine u8 (a3p ?_)
  first
   |rw[List.forIn_toArray]
   | (rw[<- a3J];simp only[List.toList_toArray])
   |rw[<- a3J]
  refine u8 (a0G (nY (pins:=pins++[(D,seqObj "list" #[] e1)]) (σ:=σ) (A:=X.A.in1.in1) (E:=E) F (λp hp=>a1h _ (hlp p hp)) hr.in1.in1 rfl w2 (λx s' C hx=>?_) (ys:=ys) (its:=its) (acc:=[]) (us:=[]) (e:=0) (H:=H) (by rw[a1f];omega) ry .nil I4 h) (λ_ s' hd=>?_) λ_ _ x=>x)
  .refine u8 (a17 (a0G hx (λz s'' hz=>?_) λ_ _ hF=>hF.elim))
   try dsimp only
   exact u8 (a0G hz (λ_ s3 h3=>T1 ⟨rfl,h3⟩) λ_ _ hF=>hF.elim)
  .obtain⟨zs,us,e2,H',hzl,rz,I5,kz,hkl,hk3,hq⟩:=hd;have aK:=I5.at1;have aD:=I5.wy.at1
   try dsimp only
   refine u8 (listItems_at aK.1 rfl ?_);exact B9 w1 w2 hy ry rz hk3 hkl I5 (λq srt=>hq q D srt aD.2) λs3 he=>⟨_,rfl,T1 ⟨_,rfl,he⟩⟩
def dk(g:Sj):List PV->Option (List bQ)
 |[]=>some []
 |x::d=>match g [x]with
  |.ok (.t [.i a,.i b,.s c])=>(dk g d).map ((a,b,c)::·)
  |_=>none
theorem gr{g:Sj}:∀{b:Sn}{a:List bQ},dk g b=some a->a.length=b.length
 |[],_,h=>by cases h;rfl
 |x::b,a,h=>by
  unfold dk at h;split at h
  .obtain⟨c,e,rfl⟩:=v0.mp h;rw[R4,R4,gr e]
  .cases h
theorem xf{b:Type}{P:Tf}{f:Td}{Q:b->Prop}:∀{t:KasT b},XT P f t Q->∃a,Q a
 |.ret a,h=>⟨a,h⟩
 |.ask _ _ _,h=>xf h.2.2
def DM(c:List bQ):∃q,Srt c q:=by
 by_cases h:0<c.length
 .obtain⟨p,a,b⟩:=xf (u_ (O:=Ma) h);exact⟨p.toList,DL a b⟩
 .refine⟨[],?_,List.Pairwise.nil⟩;rw[show c.length=0 by omega];exact List.Perm.refl _
def F2(a:List bQ):List Nat:=Classical.choose (DM a)
def dm(a:List bQ):Srt a (F2 a):=a0p (DM a)
def F3(g:kz.Nodup)(h:Srt kz q)(h':Srt kz q'):q=q':=by
 refine List.Perm.eq_of_pairwise (λa b n m j f=>?_) h.2 h'.2 (h.1.trans h'.1.symm);have c:=a0Z.mp (h.1.mem_iff.mp n);have i:=a0Z.mp (h'.1.mem_iff.mp m);have e:=KeyOrd.kle_antisymm j f;have d:kz.getD a (0,0,"")=kz[a]:=by simp[c]
 have l:kz.getD b (0,0,"")=kz[b]:=by simp[i]
 rw[d,l]at e;exact(List.getElem_inj g).mp e
open Classical in
def B_(g:Sj)(xs:Sn):Out PV:=if xs.length<64 then match dk g xs with
 |some a=>if a.Nodup then .ok (.l ((F2 a).map λi=>xs.getD i .n))else .wall
 |none=>.wall else .wall
def nZ(g:Sj)(ms:MA):ME:=λb=>(ms b).bind λa=>match a with
 |[.l a]=>B_ g a
 |_=>.wall
def SqT.same{K:Sx}{H H':Hp}{p:Addr}{xs:Sh}(h:SqT K H p xs)(s:zD H H'):SqT K H' p xs:=by
 rcases h with h|h
 .rcases h with h|⟨o,h⟩
  .exact .inl (.inl (s _ _ h))
  .exact .inl (.inr ⟨o,s _ _ h⟩)
 .exact .inr h
theorem xg{W:RC}{M:RY}{wk:Bool}{g:Sj}{Q:List V->Hp->Prop}:∀{xs:Sn}{vs acc:Sh}{H:Hp}{kz:List bQ},yx W M H xs vs->dk g xs=some kz->(∀H' zs,zD H H'->aL W.K H' zs kz->Q (acc++zs) H')->xa (lsp W false [wk] g) vs acc H Q
 |[],_,acc,H,kz,hr,hk,q=>by cases hr;cases hk;have:=q H [] (zD.refl _) trivial;rw[a0i]at this;exact this
 |x::xs,_,acc,H,kz,hr,hk,q=>by
  obtain⟨v,r,rfl,h1,h2⟩:=hr;unfold dk at hk;split at hk
  .rename_i a b c hg;obtain⟨ks,e,rfl⟩:=v0.mp hk;refine⟨M,[x],⟨x,v,[],[],rfl,rfl,?_,rfl,rfl⟩,?_⟩
   .cases wk with
    |true=>exact h1.weak
    |false=>exact qb.iff.mpr h1
   .rw[hg];intro z H2 s hz;unfold RtV at hz;obtain⟨p,ws,rfl,hq,hws⟩:=hz;obtain⟨v1,r1,rfl,e1,hws⟩:=hws;obtain⟨v2,r2,rfl,e2,hws⟩:=hws;obtain⟨v3,r3,rfl,e3,hws⟩:=hws;cases hws;cases e1;cases e2;cases e3;refine xg (h2.same s) e λH' zs s' hz=>?_;have:=q H' (.ref p::zs) (s.trans s') ⟨⟨p,rfl,hq.same s'⟩,hz⟩;rw[a0n];exact this
  .cases hk
theorem yx.DN{W:RC}{M:RY}{H:Hp}{xs:Sn}{vs:Sh}(h:yx W M H xs vs):∀q:List Nat,yx W M H (q.map λi=>xs.getD i .n) (q.map λi=>vs.getD i .non)
 |[]=>rfl
 |i::q=>by
  refine⟨_,_,rfl,?_,h.DN q⟩;simp only[List.getD_eq_getElem?_getD];cases a:xs[i]? with
  |some x=>obtain⟨v,e,r⟩:=h.get a;rw[e];exact r
  |none=>
   cases b:vs[i]? with
   |none=>exact rfl
   |some v=>obtain⟨x,e,_⟩:=h.Hl b;rw[a]at e;cases e
def Ca(F:y_ X.prog X.w X.K X.mg X.base (CXe X.prog X.w) k f fd ps sp)(x:vB (k+2) X.A)(y:Binds X.K fd ps [])(N:Gl X "sorted")(w:X.mg "sorted"=none)(i:Gl X fn)(g:X.mg fn=some (.ref f))(z:PA X [e] t)(d:(fn==("__debug__":Str))=false:=by decide)
  (m:backTo pos (starEach [e] X.env)=(false,eval e X.env)::backTo pos (starEach [] X.env):=by rfl) (hpl:(backTo pos (starEach [e] X.env)).any (·.1)=false:=by rfl):
  PE X (.Call (.Name "sorted" p) [e] [⟨some "key",.Name fn p2,kpos⟩] pos) (λc H Q=>t c H λq b=>∃l j,q=[.ref l]/\SqL X.K b l j/\DK sp X.K j b Q):=by
 intro a s c H Q I h;refine a09 (bD I N w boot_sorted ?_ `b `b);refine callWith_kw (thn (z pos a s c H _ I h) λR B ⟨q,b,J,G,l,j,L,C,E⟩=>?_) m hpl;subst L;obtain⟨u,rfl,M⟩:=vals1 G;cases M;refine thn (EU (zR (v:=.ref f) i g rfl d) Ie pos a B c b (λr o=>r=[.ref f]/\o=b) J ⟨rfl,rfl⟩) λP s2 ⟨r,o,K,O,A,D⟩=>?_;subst A;subst D;obtain⟨S,rfl,n⟩:=vals1 O;cases n;exact rJ (OY F y) (λ_ h=>nomatch h) x K C E
def Cb(F:y_ X.prog X.w X.K X.mg X.base (CXe X.prog X.w) k f fd ps (lsp C.W false [wk] g))(G:vB (k+2) X.A)(I:Binds X.K fd ps [])(W:Gl X "sorted")(E:X.mg "sorted"=none)(j:Gl X fn)(i:X.mg fn=some (.ref f))(d:AM X C S ws [e] ms)(h:(fn==("__debug__":Str))=false:=by decide)
  (n:backTo pos (starEach [e] X.env)=(false,eval e X.env)::backTo pos (starEach [] X.env):=by rfl) (hpl:(backTo pos (starEach [e] X.env)).any (·.1)=false:=by rfl):
  FM X C S (.Call (.Name "sorted" p) [e] [⟨some "key",.Name fn p2,kpos⟩] pos) (nZ g ms):=λz=>by
 obtain⟨ta,N,L⟩:=d z;refine⟨_,Ca F G I W E j i N h n hpl,λB P H J U R Q q=>L B P H J U R _ (Z3 q λxs vs H1 Y m b=>?_)⟩;have m:=m.weak;split at b
 .rename_i T _;obtain⟨v,r,rfl,⟨l,A,rfl,_,M,u⟩,w⟩:=m;cases w;unfold B_ at b;split at b
  .rename_i D;split at b
   .rename_i y x;split at b
    .rename_i O;have c:A.length=T.length:=(yx.len u).symm▸rfl;rw[z];refine⟨l,A,rfl,SqL.of M,`d,xg u x λH' zs s hz=>⟨y,by rw[gr x,c],by exact hz,λZ a o d=>?_⟩⟩;rw[F3 O o (dm y)];have K:=vI b s;exact K _ _ (zD.upd d) (Jp ((u.same s).DN _) d)
    .exact b.elim
   .exact b.elim
  .exact b.elim
 .exact b.elim
def UE(f:Str)(x:HV):List (Str×HV)->List (Str×HV)
 |[]=>[(f,x)]
 |a::r=>if a.1=f then(a.1,x)::r else a::UE f x r
theorem qL.KN{R:HV->V->Prop}{f:Str}{x:HV}{v:V}(a:R x v):∀{fs:List (Str×HV)}{b:Sy},qL R fs b->qL R (UE f x fs) (KN f v b)
 |[],_,h=>by cases h;exact⟨v,[],rfl,a,rfl⟩
 |g::r,_,⟨u,q,e,i,d⟩=>by
  subst e;unfold UE L2.KN;by_cases c:g.1=f
  .rw[if_pos c,if_pos `a];exact⟨v,q,rfl,a,d⟩
  .rw[if_neg c,if_neg `a];exact⟨u,_,rfl,i,qL.KN a d⟩
def dq(cs:RW)(f:Str)(mo mv:HME):HMS:=λa G=>(mv a G).fw λy d=>(mo a d).fw λx b=>match x with
 |.g k=>match b[k]? with
  |some (.o c fs)=>if c∈cs/\fs.length<1000 then .nx a (b.set k (.o c (UE f y fs)))else .wall
  |_=>.wall
 |_=>.wall
def xh(K:HE X W E o m1)(U:HE X W E e m2)(m:∀c∈cs,Cls X.K (W.cls c)/\vm X.K (W.cls c) fn)(O:swapsWith e (some (.Attribute o fn pos')) pos.line X.env=pure false:=by rfl):
  HS X W E (.Assign [.Attribute o fn pos'] e pos) (dq cs fn m1 m2):=λw=>by
 obtain⟨to,M,S⟩:=K w;obtain⟨te,N,J⟩:=U w;refine⟨_,C6 M N O,λZ d A H i s G R D q=>J Z d A H i s G R _ (HPs.bind q λy F Q B h1 C L u T=>?_)⟩;have p:=R.gro h1 C;refine S Z d F Q i s B p _ (HPs.bind L λx A2 H2 G2 g h b v Y=>?_);subst d;split at b
 .rename_i k;obtain⟨j,rfl⟩:=Y;split at b
  .rename_i c fs P;split at b
   .rename_i a;obtain⟨f,l,hp,r⟩:=g.cell k _ P;have I:=qL.len r;have n:=g.frw (o:=.ins (Z.W.cls c) f (KN fn u l)) j hp id;refine⟨_,_,f,l,rfl,hp,(m c a.1).1,(m c a.1).2,by rw[I];exact a.2,FU (c:=.o c (UE fn y fs)) (p.gro g h) j hp id ⟨f,_,zj,?_⟩ b⟩;exact qL.KN ((T.gro h).gro n) (r.imp λ_ _ z=>z.gro n)
   .exact b.elim
  .exact b.elim
 .exact b.elim
def Mb(c:Nat)(g:List HV->AH->HX HV)(ms:HMA):HME:=λd G=>(ms d G).bind λe b=>match g (.g b.length::e) (b++[.o c []])with
 |.ok (.v .n) a=>.ok (.g b.length) a
 |.exc c fs a=>.exc c fs a
 |_=>.wall
def Cc(M:Mk X.K (W.cls c) f)(F:y_ X.prog X.w X.K X.mg X.base (CXe X.prog X.w) k f fd ps (hsp W n g))(S:vB (k+1) X.A)(hg:Gl X x)(O:X.mg x=some (.ref (W.cls c)))(j:Binds X.K fd ps [])(i:Passes (CXe X.prog X.w) X E)(Y:HA X W E (e::es) ms)(hn:∀s G h L,ms s G=.ok h L->h.length+1=n)
  (u:(x==("__debug__":Str))=false:=by decide) (he:starEach (e::es) X.env=(false,eval e X.env)::starEach es X.env:=by rfl) (hpl:(backTo pos (starEach es X.env)).any (·.1)=false:=by rfl):HE X W E (.Call (.Name x p) (e::es) [] pos) (Mb c g ms):=λhK=>by
 obtain⟨ta,a1,a2⟩:=Y hK;refine⟨_,tK M F S hg O j .nil i a1 u he hpl,λZ C A H U s G R Q q=>a2 Z C A H U s G R _ ?_⟩;subst C;unfold Mb at q;revert q;cases hq:ms s G with
 |wall=>exact id
 |exc c fs L=>exact id
 |ok h a=>
  intro q m B h1 T vs rs x w i P hne;rw[a0i];have J:zD B (upd (upd B w (.own x)) x (.ins (Z.W.cls c) w [])):=λb o j=>by rw[zm (zY j i),zm (zY j P)];exact j
  have h2:=h1.alloc (c:=.o c []) J i ⟨w,[],zj,rfl⟩;have D:Gro Z m a.length B (exA m a.length x) (a.length+1) _:=Gro.ext J i;have I:exA m a.length x a.length=x:=by unfold exA;rw[if_pos rfl]
  have d:(a++[Cell.o c []]).length=a.length+1:=by rw[R7];rfl
  refine⟨Z,exA m a.length x,a++[.o c []],.g a.length::h,rfl,hn _ _ _ _ hq,h2,?_,?_⟩
  .rw[d];exact⟨.ref x,vs,rfl,⟨a0L _,by rw[I]⟩,rs.gro D⟩
  .have q:HPx Z E A G.length H (KV' Z Q) (match g (.g a.length::h) (a++[.o c []])with
    |.ok (.v .n) l=>.ok (.g a.length) l
    |.exc c fs l=>.exc c fs l
    |_=>.wall):=q
   have K:=T.trans D;revert q;cases g (.g a.length::h) (a++[.o c []])with
   |wall=>exact id
   |exc c fs l=>exact λq=>BV.gro q `c
   |ok y l=>
    intro q;cases y with
    |v z=>
     cases z with
     |n=>intro A2 N h3 r v rv;rw[d]at r;refine⟨rv,q A2 N h3 (K.trans r) (.ref x) ⟨T7 (a0L _) r.le,?_⟩⟩;rw[r.agr _ (a0L _),I]
     |_=>exact q.elim
    |_=>exact q.elim
end L2
namespace L2
open PySem PySem.Spec PyProof.Rows PySem.W
def lI:PV->Out PV
 |.l a=>if lH a=true then .ok (.l a)else .wall
 |_=>.wall
def mLI(m:ME):ME:=λa=>(m a).bind lI
def OZ(h:lI x=.ok y):∃a,x=.l a/\y=.l a/\lH a=true:=by
 cases x with
 |l a=>
  have h:(if lH a=true then Out.ok (PV.l a)else .wall)=.ok y:=h;split at h
  .rename_i b;cases h;exact⟨a,rfl,rfl,b⟩
  .cases h
 |_=>cases h
def LsR(W:RC)(H:Hp):List PV->List Addr->Prop
 |[],b=>b=[]
 |y::d,b=>∃p r a c,b=p::r/\y=.l a/\lH a=true/\H p=some (.lst c)/\yx W (λ_=>False) H a c/\LsR W H d r
def LsR.gen(f:Fr (λ_=>False) H H'):∀{a:SH},LsR W H b a->(∀p∈a,∀o,H p=some o->H' p=some o)->LsR W H' b a:=by
 induction b with
 |nil=>intro a h _;exact h
 |cons y b g=>intro a h d;obtain⟨p,r,c,e,rfl,rfl,j,hp,rk,i⟩:=h;exact⟨p,r,c,e,rfl,rfl,j,d p v4 _ hp,rk.gen f λ_ m _=>m,g i λq l=>d q (R9 _ l)⟩
def LsR.snoc(j:lH kvs=true)(hp:H p=some (.lst es))(rk:yx W (λ_=>False) H kvs es):∀{a:SH},LsR W H e a->LsR W H (e++[.l kvs]) (a++[p]):=by
 induction e with
 |nil=>intro a h;cases h;exact⟨p,[],kvs,es,rfl,rfl,j,hp,rk,rfl⟩
 |cons y e l=>intro a h;obtain⟨q,r,b,g,rfl,rfl,d,f,c,i⟩:=h;exact⟨q,r++[p],b,g,rfl,rfl,d,f,c,l i⟩
def LsR.len:∀{a:SH},LsR W H b a->a.length=b.length:=by
 induction b with
 |nil=>intro a h;cases h;rfl
 |cons y b f=>intro a h;obtain⟨q,r,c,e,rfl,rfl,_,_,_,d⟩:=h;rw[R4,R4,f d]
def LsR.at:∀{a:SH},LsR W H c a->∀p∈a,∃d,H p=some (.lst d):=by
 induction c with
 |nil=>intro a h;cases h;intro p hp;cases hp
 |cons y c i=>
  intro a h;obtain⟨q,r,b,g,rfl,rfl,_,f,_,e⟩:=h;intro p hp;rcases T6.mp hp with rfl|hp
  .exact⟨_,f⟩
  .exact i e p hp
def Cd(W:RC)(H:Hp)(b:Hp)(x:PV)(v:V):Prop:=∃c a l,x=.l c/\v=.ref l/\H l=none/\b l=some (.lst (a.map .ref))/\LsR W b c a/\(∀p∈a,p≠l/\H p=none)/\a.Nodup
def DO{wi:TI}{g:TG}{tc:TT}{te:TE}{fr:Sm}{Z:RW}{W:RC}{B:Bs}{P:Se}{H:Hp}{σ:St}{ρ:Sto}(hi:∀R:It->Hp->Prop,lA C B S P true H R (mi ρ)->wi σ H R)(hW:W=C.W)(hS:Z=inS S fr)(hg:LG ⟨W,E0,false⟩ Z Z g mg)(ht:LT ⟨W,E0,false⟩ Z tc mc)(he:LFr ⟨W,E0,false⟩ Z te me)(R:Rel C.W B S P H σ ρ)(Q:VK)(q:ya C B H (Cd C.W H) Q (mLC mi fr mg mc (mLI me) ρ)):tLC wi g tc te fr σ H Q:=by
 subst hW hS;refine hi _ ?_;unfold mLC at q;revert q;cases mi ρ with
 |exc c fs=>exact id
 |wall=>exact id
 |ok s=>
  intro q J G s1 io l T;have R1:=R.keep s1;have q:=q;refine⟨λi n N U=>n=s.length-i/\i<=s.length/\∃w r u,Rel C.W (lcB B S P G l) (inS S fr) (λ_=>0) U N w/\U l=some (.lst (u.map .ref))/\LsR C.W U r u/\(∀p∈u,p≠l/\G p=none)/\u.Nodup/\ya C B H (Cd C.W H) Q (lcP mg mc (mLI me) (s.drop i) w r),
   ⟨_,rfl,a0A _,cU ρ fr,[],[],R1.comp T (zD.upd T) zj,zj,rfl,(λp hp=>by cases hp),a3e,q⟩,?_⟩
  rintro i n N U ⟨rfl,hle,w,r,u,R',L,rys,F,nd,d⟩
  have Y:=io U (zD.fr R'.same);by_cases I:i<s.length
  .have hx:=S6 I;obtain⟨go,yl⟩:=Y.1 i _ hx;refine .inr ⟨go,λσ2 K=>i+1<=s.length/\∃w r u,Rel C.W (lcB B S P G l) (inS S fr) (λ_=>0) K σ2 w/\K l=some (.lst (u.map .ref))/\LsR C.W K r u/\(∀p∈u,p≠l/\G p=none)/\u.Nodup/\ya C B H (Cd C.W H) Q (lcP mg mc (mLI me) (s.drop (i+1)) w r),λσ2 K h=>⟨s.length-(i+1),`d,rfl,h.1,h.2⟩,λv O hy=>?_⟩;obtain⟨sy,ry⟩:=yl v O hy;have Ry:=R'.keep sy;have rx:=ry (Mof (lcB B S P G l) (inS S fr) (λ_=>0)) λa m hn=>⟨⟨.inl m,λz=>hn (z▸T)⟩,λj hj=>(lC hj rfl).elim⟩;rw[a1i I]at d;unfold lcP at d;cases M:mg s[i] w with
   |none=>rw[M]at d;exact d.elim
   |some f=>
    rw[M]at d;refine hg _ _ O N w _ v Ry rx _ ⟨f,M,λσ1 R1'=>ht _ _ O σ1 f R1' _ ?_⟩;have d:ya C B H (Cd C.W H) Q ((noX (mc f)).bind λt=>if t=true then(noX (mLI me f)).bind λy=>if r.length<sizeLine then lcP mg mc (mLI me) (s.drop (i+1)) f (r++[y])else .wall else lcP mg mc (mLI me) (s.drop (i+1)) f r):=d;revert d;cases mc f with
    |exc c fs=>exact λd=>d.elim
    |wall=>exact id
    |ok t=>
     intro d H5 s5;have R5:=R1'.keep s5;have x:=s5 _ _ (sy _ _ L);have A:=rys.gen (zD.fr (sy.trans s5)) λp _ o h=>(sy.trans s5) _ _ h;cases t with
     |false=>exact Dg ⟨I,f,r,u,R5,x,A,F,nd,d⟩
     |true=>
      refine Dh (he _ _ H5 σ1 f R5 _ ?_);have d:ya C B H (Cd C.W H) Q ((noX ((me f).bind lI)).bind λy=>if r.length<sizeLine then lcP mg mc (mLI me) (s.drop (i+1)) f (r++[y])else .wall):=d;revert d;cases me f with
      |exc c fs=>exact λd=>d.elim
      |wall=>exact id
      |ok y=>
       intro d v6 H6 s6 r6;have d:ya C B H (Cd C.W H) Q ((noX (lI y)).bind λy=>if r.length<sizeLine then lcP mg mc (mLI me) (s.drop (i+1)) f (r++[y])else .wall):=d;cases ed:lI y with
       |exc c fs=>rw[ed]at d;exact d.elim
       |wall=>rw[ed]at d;exact d.elim
       |ok z=>
        rw[ed]at d;obtain⟨kvs,rfl,rfl,X⟩:=OZ ed;have d:ya C B H (Cd C.W H) Q (if r.length<sizeLine then lcP mg mc (mLI me) (s.drop (i+1)) f (r++[.l kvs])else .wall):=d;split at d
        .rename_i hz;have R6:=R5.keep s6;obtain⟨p,rfl,D,es,hp6,rk⟩:=r6;have E:=s6 _ _ x;have pa:p≠l:=λz=>by rw[z,x]at D;cases D
         have fr6:Fr (λ_=>False) H6 (upd H6 l (.lst (u.map .ref++[.ref p]))):=λa o h m=>by
          have:a≠l:=λz=>by
           rcases m with m|m
           .exact m
           .rw[z,E]at h;cases h;exact m
          rw[zm this];exact h
         have hpn:G p=none:=by
          cases e:G p with
          |none=>rfl
          |some o=>have:zD G H5:=R5.same;rw[this _ _ e]at D;cases D
         have hnp:p∉u:=λhm=>by obtain⟨es',he'⟩:=A.at p hm;rw[he']at D;cases D
         refine⟨u.map .ref,E,by rw[f8,A.len];exact hz,I,f,r++[.l kvs],u++[p],R6.wrx (show(lcB B S P G l).xc l from rfl) (by exact id),?_,?_,?_,?_,d⟩
         .rw[T5];exact zj
         .refine LsR.gen fr6 (LsR.snoc X hp6 (K2 X rk) (A.gen (zD.fr s6) λq _ o h=>s6 _ _ h)) λq hq o h=>?_;have:q≠l:=by
           rcases a0o.mp hq with h|h
           .exact(F q h).1
           .rw[T9.mp h];exact pa
          rw[zm this];exact h
         .intro q hq;rcases a0o.mp hq with h|h
          .exact F q h
          .rw[T9.mp h];exact⟨pa,hpn⟩
         .rw[a1A];exact⟨nd,a0U.mpr ⟨by simp,List.nodup_nil⟩,λa T b hb e=>hnp `c⟩
        .exact d.elim
  .have e:i=s.length:=`d
   subst e;rw[a18]at d;exact .inl ⟨Y.2,d _ U (s1.trans R'.same) ⟨r,u,l,rfl,rfl,zD.none s1 T,L,rys,λp hp=>⟨(F p hp).1,zD.none s1 (F p hp).2⟩,nd⟩⟩
def wx:PV->Cell
 |.l a=>.l (a.map .v)
 |_=>.l []
def Ce:∀{a:Sh},yx W M H b a->zQ W M A n H (b.map .v) a:=by
 induction b with
 |nil=>intro a r;exact r
 |cons x b d=>intro a r;obtain⟨v,q,rfl,c,e⟩:=r;exact⟨v,q,rfl,(by exact c),d e⟩
def Cf(B:∀a∈R,∀o,H' a=some o->¬Imm o):∀{c:SH}{A:Se}{G:AH},LsR Z.W H' d c->c.Nodup->(∀p∈c,p∉R)->HH Z A (hide H' (c++R)) G->∃g,HH Z g (hide H' R) (G++d.map wx)/\Gro Z A G.length (hide H' (c++R)) g (G++d.map wx).length (hide H' R)/\∀j p,c[j]?=some p->g (`e+j)=p:=by
 induction d with
 |nil=>
  intro c A G h F u i;cases h;refine⟨A,?_,?_,λj p e=>by cases e⟩
  .rw[a1E,a0i];exact i
  .rw[a1E,a0i];exact Gro.refl
 |cons y d W=>
  intro c A G h F u i;obtain⟨p,r,b,C,rfl,rfl,T,hp,rk,D⟩:=h;have f:=a0U.mp F;have v:=λz=>(a0o.mp z).elim f.1 (u p v4);have E:hide H' (p::(r++R)) p=none:=lO v4;have J:zD (hide H' (p::(r++R))) (hide H' (r++R)):=gi;have s:=(Z6 v).trans hp;have x:yx Z.W (HM Z (exA A G.length p) (`e+1)) (hide H' (r++R)) b C:=by
   refine K2 T (yx.gen ?_ (λ_ m _=>m) rk);intro a o h m;have K:a∉r++R:=λz=>by
    rcases m with m|m
    .exact m
    .rcases a0o.mp z with z|z
     .obtain⟨U,l⟩:=D.at a z;rw[l]at h;cases h;exact m
     .exact B a z o h m
   rw[Z6 K];exact h
  have Q:f9 Z.W (HM Z (exA A G.length p) (`e+1)) (exA A G.length p) (`e+1) (hide H' (r++R)) p (wx (.l b)):=⟨C,s,Ce x⟩;have S:=i.alloc J E Q;have n:(G++[wx (.l b)]).length=`e+1:=by simp
  obtain⟨g,I,w,P⟩:=W D f.2 (λq O=>u q (R9 _ O)) S;have N:G++[wx (.l b)]++d.map wx=G++(PV.l b::d).map wx:=by simp
  rw[N]at I w;have L:Gro Z A G.length (hide H' (p::(r++R))) (exA A G.length p) (G++[wx (.l b)]).length (hide H' (r++R)):=by rw[n];exact Gro.ext J E
  refine⟨g,I,L.trans w,λj q e=>?_⟩;cases j with
  |zero=>cases e;rw[Nat.add_zero,w.agr _ (by simp),K0]
  |succ j=>have:=P j q e;rw[<- this];congr 1;omega
def F4(G:AH):PV->HX HV
 |.l a=>.ok (.g (`e+a.length)) ((G++a.map wx)++[.l ((List.range a.length).map λj=>.g (`e+j))])
 |_=>.wall
section
variable {E:XK}
def DP(h:HH Z A H G)(s:zD H H2)(q:HPx Z E A G.length H (KV' Z Q) (F4 G x))(r:Cd Z.W H H2 x v):Q v H2:=by
 obtain⟨b,w,l,rfl,rfl,O,f,I,m,Y⟩:=r;have J:zD H (hide H2 (w++[l])):=λa o e=>by
  have:a∉w++[l]:=λz=>by
   rcases a0o.mp z with z|z
   .rw[(m a z).2]at e;cases e
   .rw[T9.mp z,O]at e;cases e
  rw[Z6 this];exact s a o e
 obtain⟨u,h1,L,U⟩:=Cf (λa M o e=>by rw[T9.mp M,f]at e;cases e;exact id) I Y (λp hp z=>(m p hp).1 (T9.mp z)) (h.keep J);have C:hide H2 [l] l=none:=lO (T9.mpr rfl);have F:zD (hide H2 [l]) (hide H2 []):=gi;have d:(G++b.map wx).length=`e+b.length:=by rw[R7,f8]
 have T:f9 Z.W (HM Z (exA u (G++b.map wx).length l) ((G++b.map wx).length+1)) (exA u (G++b.map wx).length l) ((G++b.map wx).length+1) (hide H2 []) l (.l ((List.range b.length).map λj=>.g (`e+j))):=by refine⟨w.map .ref,(Z6 (by simp)).trans f,?_⟩;rw[show((List.range b.length).map λj=>HV.g (`e+j))=((List.range b.length).map λj=>`e+j).map .g from by rw[a0q];rfl];refine nW (by rw[f8,a0v,I.len]) λi j p B P=>?_;rw[a0d]at B;obtain⟨k,e3,rfl⟩:=v0.mp B;have N:=(R8.mp e3);obtain⟨S,y⟩:=N;rw[a0P]at y;subst y;rw[a0v]at S;exact⟨`d,by rw[K1 `a];exact U i p P⟩
 have D:=h1.alloc F C T;have c:((G++b.map wx)++[Cell.l ((List.range b.length).map λj=>HV.g (`e+j))]).length=(G++b.map wx).length+1:=by rw[R7];rfl
 have K:Gro Z u (G++b.map wx).length (hide H2 [l]) (exA u (G++b.map wx).length l) ((G++b.map wx)++[Cell.l ((List.range b.length).map λj=>HV.g (`e+j))]).length (hide H2 []):=by rw[c];exact Gro.ext F C
 have g:=((Gro.same J).trans L).trans K;refine q _ H2 D g _ ?_;rw[c,<- d];exact⟨a0L _,by rw[K0]⟩
end
section
variable {X:Cx}
def F5:V->List V->Hp->VK->Prop:=λx b H Q=>∃l a i y,x=.ref l/\b=[.int i,y]/\H l=some (.lst a)/\0<=i/\i.toNat<=a.length/\a.length<sizeLine/\Q .non (upd H l (.lst (a.take i.toNat++y::a.drop i.toNat)))
def xi:MtM X "list.insert" F5:=by
 intro c s A H x C v E Q I p j h;obtain⟨l,m,i,y,rfl,rfl,d,D,F,hz,q⟩:=h;cases p;obtain⟨u,w,rfl,o,b⟩:=j.two;obtain⟨t,rfl⟩:=o;obtain⟨z,a,n,r,B,e⟩:=I.Ba d;have g:i<2 ^ 63:=by
  have:m.length<2 ^ 40:=by rw[a0I]at hz;omega
  omega
 have hf:¬(!Builtin.List.listFitsIndex i)=true:=by
  unfold Builtin.List.listFitsIndex;rw[S8 (show -(2 ^ 63:Int)<=i by omega),S8 g]
  decide
 refine a1X a2U ⟨_,e,rfl⟩ PySem.F.entry_list_insert (PySem.F.args_list_insert_3 _ _ _) (AutoSeq1.list_insert_list_int_val_1 l a.toArray n i t w hf `c) ⟨e,?_⟩;refine⟨.non,_,I.Ij d e ?_ ((r.take _).append (.cons b (r.drop _))) ?_,rfl,q⟩
 .have f:(if i<0 then(i+a.toArray.size).toNat else min i.toNat a.toArray.size)=i.toNat:=by rw[if_neg `a,T4];omega
  rw[f];apply a2T.mp;simp[List.extract_eq_drop_take];apply a1z;rw[a0D];exact S0 _
 .rw[R7,R4,a0x,a0D];omega
end
def n6(mo:HME)(ma:HMA):HMS:=λb G=>(mo b G).fw λx d=>match x with
 |.g k=>match d[k]? with
  |some (.l _)=>(ma b d).fw λe c=>match e with
   |[.v (.i i),y]=>match c[k]? with
    |some (.l a)=>if 0<=i/\i.toNat<=a.length/\a.length<sizeLine then .nx b (c.set k (.l (a.take i.toNat++y::a.drop i.toNat)))else .wall
    |_=>.wall
   |_=>.wall
  |_=>.wall
 |_=>.wall
theorem zQ.take{W:RC}{M:RY}{A:Se}{n:Nat}{H:Hp}:∀{b:List HV}{a:Sh}(k:Nat),zQ W M A n H b a->zQ W M A n H (b.take k) (a.take k)
 |[],a,k,h=>by subst h;rw[List.take_nil,List.take_nil];rfl
 |x::b,a,0,h=>by rfl
 |x::b,a,k+1,h=>by obtain⟨v,r,rfl,d,c⟩:=h;exact⟨v,_,rfl,d,c.take k⟩
theorem zQ.drop{W:RC}{M:RY}{A:Se}{n:Nat}{H:Hp}:∀{b:List HV}{a:Sh}(k:Nat),zQ W M A n H b a->zQ W M A n H (b.drop k) (a.drop k)
 |[],a,k,h=>by subst h;rw[List.drop_nil,List.drop_nil];rfl
 |x::b,a,0,h=>h
 |x::b,a,k+1,h=>by obtain⟨v,r,rfl,d,c⟩:=h;exact c.drop k
def K7(ho:HE X W E o m1)(h:HA X W E [e,f] ma)(Q:attributeBase o "insert" X.env (eval o X.env)=eval o X.env:=by rfl)
  (AK:((backTo p (starEach [e,f] X.env)).all (λx=>!x.1)&&(backToKw p (keywordEach [] X.env)).all (λx=>x.1.isSome)&&decide ([e,f].length+([]:List Keyword).length+(if([]:List Keyword).isEmpty then 0 else 1)<30))=true:=by rfl)
  (KH:(jm.endLine==p.line)=true:=by rfl) (hs:starEach [e,f] X.env=(false,eval e X.env)::starEach [f] X.env:=by rfl) (hpl:(backTo p (starEach [f] X.env)).any (·.1)=false:=by rfl) (n:swapsWith (.Call (.Attribute o "insert" jm) [e,f] [] p) none pos.line X.env=pure false:=by rfl):
  HS X W E (.Expr (.Call (.Attribute o "insert" jm) [e,f] [] p) pos) (n6 m1 ma):=λM=>by
 obtain⟨to,o1,o2⟩:=ho M;obtain⟨te,a1,Y⟩:=h M;refine⟨_,Y6 (tR a00 a2U PySem.F.type_list_insert xi o1 a1 Q AK KH hs hpl) n,λZ F A H I L G R D q=>o2 Z F A H I L G R _ (HPs.bind q λx U H1 S O T g v rx=>?_)⟩;split at g
 .rename_i k;obtain⟨J,rfl⟩:=rx;split at g
  .rename_i xs0 l;obtain⟨vs0,w,_⟩:=O.cell k _ l;have K:=R.gro O T;refine⟨.inl ⟨rfl,_,SqL.of w⟩,Y Z F U H1 I L S K _ (HPs.bind g λys N P z B m b us a=>?_)⟩;split at b
   .rename_i i y;obtain⟨v1,r1,rfl,e1,a⟩:=a;obtain⟨u,r2,rfl,e2,a⟩:=a;subst a;cases e1;split at b
    .rename_i C hc;split at b
     .rename_i s;obtain⟨j,hp,r⟩:=B.cell k _ hc;have d:=T7 J m.le;rw[<- m.agr k J];have g3:=B.frw (o:=.lst (j.take i.toNat++u::j.drop i.toNat)) d hp id;have one:zQ Z.W (HM Z N z.length) N z.length P (y::C.drop i.toNat) (u::j.drop i.toNat):=by exact⟨u,_,rfl,e2,r.drop _⟩
      exact⟨_,j,i,u,rfl,rfl,hp,s.1,by rw[r.len];exact s.2.1,by rw[r.len];exact s.2.2,FU (c:=.l (C.take i.toNat++y::C.drop i.toNat)) (K.gro B m) d hp id ⟨_,zj,((r.take _).append one).gro g3⟩ b⟩
     .exact b.elim
    .exact b.elim
   .exact b.elim
  .exact g.elim
 .exact g.elim
section
variable {X:Cx}{pins:RT}{σ:St}{H:Hp}{s:RZ}{h':Heap}{ch:SH}{T:Addr}{o:HO}{t':Nat}
def Inv.O0(I:Inv X pins σ H s)(hf:∀b∈ch,pJ X pins H b)(k:∀b u,b∉ch->s.heap.get? b=some u->h'.get? b=some u)(hp:`g<=T)(new:qu X.prog X.w (upd H T o) h' T o):Inv X pins σ (upd H T o) { s with heap:=h',toks:=t' }:=by
 have f:=I.hok.fresh hp;have g:∀b u,s.heap.get? b=some u->b≠T:=λb u e=>a0e (T7 (S9 e) hp);refine I.step (λb d=>⟨(hf b d).2.2.2.1,(hf b d).2.1,(hf b d).2.2.2.2.1,(hf b d).2.2.2.2.2⟩) (λb o _ _ a e _=>k b o a e) (λb o _ _ a e _=>⟨o.slots,k b o a e⟩) (λb o _ e n=>by rw[zm (g b o e)];exact n)
  (λb o a e=>⟨o,k b o a e⟩) (λb l e=>by rw[zm (zY e f)];exact e) (λb o u e=>by rw[zm (zY e f)];exact e) (λb w e=>⟨#[],by rw[zm (zY e f),e];simp⟩) (λm h=>?_) (λb u e=>?_) I.bare
 .obtain⟨o,p,j,i,r⟩:=h;exact⟨o,p,j,k _ o (λz=>(hf _ z).2.1 rfl) i,r⟩
 .by_cases d:b=T
  .subst d;rw[zj]at e;cases e;exact new
  .rw[zm d]at e;refine(I.hok b u e).sR (λc v a q=>k c v (λz=>?_) q) (λc q=>by rw[zm (zY q f)];exact q) λc l q=>by rw[zm (zY q f)];exact q
   rcases a with a|a
   .subst a;rw[(hf _ z).1]at e;cases e
   .rw[(hf _ z).1]at a;cases a
def Inv.O1(I:Inv X pins σ H s)(hf:∀b∈ch,pJ X pins H b)(k:∀b u,b∉ch->s.heap.get? b=some u->h'.get? b=some u):Inv X pins σ H { s with heap:=h',toks:=t' }:=by
 refine I.step (λb d=>⟨(hf b d).2.2.2.1,(hf b d).2.1,(hf b d).2.2.2.2.1,(hf b d).2.2.2.2.2⟩) (λb o _ _ a e _=>k b o a e) (λb o _ _ a e _=>⟨o.slots,k b o a e⟩) (λb o _ e n=>n)
  (λb o a e=>⟨o,k b o a e⟩) (λb i e=>e) (λb o u e=>e) (λb l e=>⟨#[],by rw[e];simp⟩) (λm f=>?_) (λb u e=>?_) I.bare
 .obtain⟨o,j,h,g,r⟩:=f;exact⟨o,j,h,k _ o (λz=>(hf _ z).2.1 rfl) g,r⟩
 .refine(I.hok b u e).sR (λc v a q=>k c v (λz=>?_) q) (λc q=>q) λc i q=>q;rcases a with a|a
  .subst a;rw[(hf _ z).1]at e;cases e
  .rw[(hf _ z).1]at a;cases a
end
def Itw(n:Nat)(ok:Hp->Prop)(a:Nat->List V):It:=
 ⟨λi H=>i<n/\ok H,λi H x b=>∃T,x=.ref T/\H T=none/\b=upd H T (.tup (a i)),λi H=>i=n/\ok H⟩
def Mc(xs ys:Sh)(i:Nat):List V:=[xs[i]?.getD .non,ys[i]?.getD .non]
def F6(b:row.length<=sizeLine)(r:Vals row vals.toList)(a:h.IsTuple T vals):qu P w (upd H T (.tup row)) h T (.tup row):=⟨b,vals.toList,r,a⟩
section
variable {P:Sl}{w:So}{K:Sx}{elts:Sd}{kk:Nat}{tp:Pos}
def Cg(z TI TO j l a b:Addr)(xs ys:Sh)(D:ZipApart z TI TO j l a b):Turn P w K (.Tuple elts kk tp) (Itw (min xs.length ys.length) (λH=>SqL K H a xs/\SqL K H b ys) (Mc xs ys)) [z,TI,TO,j,l] z (λi h=>i<=min xs.length ys.length/\IsZip h z TI TO .none/\IsPair h TI (.ref j) (.ref l)/\(∃a b,IsPair h TO a b)/\h.IsListIter j a i/\h.IsListIter l b i)where
 mem:=by simp
 obj:=λi h f c d=>by
  obtain⟨_,L,G,⟨_,_,O⟩,⟨o4,Q,_,d4⟩,⟨o5,M,_,d5⟩⟩:=f;simp only[List.mem_cons,List.not_mem_nil,or_false]at d;rcases d with r|r|r|r|r<;>subst r
  .exact⟨_,L,λv z=>by cases z⟩
  .exact⟨_,G,λv z=>by cases z⟩
  .exact⟨_,O,λv z=>by cases z⟩
  .exact⟨o4,Q,λv z=>by rw[d4]at z;cases z⟩
  .exact⟨o5,M,λv z=>by rw[d5]at z;cases z⟩
 keep:=λi h R ⟨hi,L,G,⟨x,y,O⟩,Q,M⟩ k=>⟨hi,k z (by simp) _ L,k TI (by simp) _ G,⟨x,y,k TO (by simp) _ O⟩,Q.at λo e=>k j (by simp) o e,M.at λo e=>k l (by simp) o e⟩
 item:=by
  intro X hP hw hK d i F s σ H E I hf f hg;subst hP hw hK;obtain⟨hi,C,B⟩:=hg;obtain⟨A,S,p,_⟩:=I.list C;obtain⟨m,n,p',_⟩:=I.list B;have hn:=S.length;have hm:=n.length;have W:=WalksT.zip2 (prog:=X.prog) (w:=X.w) (I.ok.hd d) z TI TO j l a b D A.toArray m.toArray;refine W.item i s _ _ `c ⟨f.2.1,f.2.2.1,f.2.2.2.1,f.2.2.2.2.1,f.2.2.2.2.2,p.isList,p'.isList⟩ λT N R tk hv hT U J Z=>?_;obtain⟨x,y,hx,hy,rfl⟩:=hv;refine⟨_,rfl,W.go elts kk tp i T { s with heap:=R,toks:=tk } _ _ J λh2' g k2=>?_⟩;have nT:=W.apart i T R J;have nT':∀c∈[z,TI,TO,j,l],c≠T:=λc d q=>by
   subst q;obtain⟨o,ho⟩:∃o,s.heap.get? c=some o:=by
    obtain⟨_,L,G,⟨_,_,O⟩,⟨o4,Q,_,d4⟩,⟨o5,M,_,d5⟩⟩:=f;simp only[List.mem_cons,List.not_mem_nil,or_false]at d;rcases d with r|r|r|r|r<;>subst r
    .exact⟨_,L⟩
    .exact⟨_,G⟩
    .exact⟨_,O⟩
    .exact⟨_,Q⟩
    .exact⟨_,M⟩
   exact absurd (S9 ho) (Nat.not_lt.mpr hT)
  have l1:i<xs.length:=`d
  have l2:i<ys.length:=`d
  obtain⟨u,hu,ru⟩:=S.get (S6 l1);obtain⟨v,hv,Y⟩:=n.get (S6 l2);rw[a3i,hu]at hx;cases hx;rw[a3i,hv]at hy;cases hy;refine⟨.ref T,upd H T (.tup (Mc xs ys i)),I.O0 (λc d=>hf c (W.sub c d |> λ_=>by simp only[List.mem_cons,List.not_mem_nil]at d ⊢;rcases d with r|r|r|r<;>simp[r])) (λb u hb q=>k2 b u hb (Z b u hb q)) hT (F6 (show 2<=sizeLine by decide) (.cons ?_ (.cons ?_ .nil)) (U.at λo q=>k2 T o nT q)),rfl,⟨T,rfl,I.hok.fresh hT,rfl⟩,⟨`d,g.1,g.2.1,g.2.2.1,g.2.2.2.1,g.2.2.2.2.1⟩,λc d=>by rw[zm (nT' c d)];exact(hf c d).1⟩
  .rw[S6 l1];exact ru
  .rw[S6 l2];exact Y
 done:=by
  intro X hP hw hK d i F s σ H E I hf f hg;subst hP hw hK;obtain⟨rfl,C,B⟩:=hg;obtain⟨A,S,p,_⟩:=I.list C;obtain⟨m,n,p',_⟩:=I.list B;have hn:=S.length;have hm:=n.length;have W:=WalksT.zip2 (prog:=X.prog) (w:=X.w) (I.ok.hd d) z TI TO j l a b D A.toArray m.toArray;have hs:min A.toArray.size m.toArray.size=min xs.length ys.length:=by rw[T4,T4];omega
  refine W.done s _ _ (by rw[hs];exact⟨f.2.1,f.2.2.1,f.2.2.2.1,f.2.2.2.2.1,f.2.2.2.2.2,p.isList,p'.isList⟩) λR tk Z=>⟨rfl,I.O1 (λc d=>hf c `c) Z⟩
 self:=λ_ _ _ _ _ f h=>wpAny_pyIter_zip f.2.1 h
end
def RG(K:Sx)(h:TA):TI:=λg H R=>h g H λf e=>∃a b d c,f=[.ref a,.ref b]/\SqL K e a d/\SqL K e b c/\R (Itw (min d.length c.length) (λH=>SqL K H a d/\SqL K H b c) (Mc d c)) e
section
variable {X:Cx}{C:LC}{S:RW}{elts:Sd}{kk:Nat}{tp p pos:Pos}{e a b:Sf}{m:ME}{ms:MA}{cc:Bool}
def DQ(hg:Gl X "zip")(G:X.mg "zip"=none)(K:PA X [a,b] ta)(T:starEach [a,b] X.env=[(false,eval a X.env),(false,eval b X.env)]:=by rfl)(i:starEach [b] X.env=[(false,eval b X.env)]:=by rfl):PI X (.Tuple elts kk tp) (.Call (.Name "zip" p) [a,b] [] pos) (RG X.K ta):=by
 intro f s J H R I h;refine Call_ (bD I hg G PyProof.Rows.boot_zip (a1G (thn (K pos f s J H _ I h) λus d ⟨vs,E,l,Q,N⟩=>?_) (by rw[T,i]) (by rw[i];rfl)));obtain⟨B,A,Y,W,rfl,y,x,q⟩:=N;cases Q with
 |cons r z=>
  cases z with
  |cons r' z=>
   cases z;cases r;cases r';obtain⟨its,rv,F,_⟩:=l.list y;obtain⟨L,O,j,_⟩:=l.list x;have M:B<d.heap.objs.size:=by obtain⟨o,v,_⟩:=F.isList;exact S9 v
   have P:A<d.heap.objs.size:=by obtain⟨o,v,_⟩:=j.isList;exact S9 v
   refine call_zip_2 F.isList j.isList λh' hz w u n g Z U=>?_;refine wpAny_pyIter_zip hz ?_;refine⟨d.heap.objs.size+4,[d.heap.objs.size+4,d.heap.objs.size+2,d.heap.objs.size+3,d.heap.objs.size,d.heap.objs.size+1],_,_,E,rfl,l.kept U,Cg _ _ _ _ _ B A Y W (zipApart_new M P),⟨a0A _,hz,w,⟨_,_,u⟩,n,g⟩,λc D=>?_,q⟩;have ok:∀k,pJ X f E (d.heap.objs.size+k):=λk=>l.Hi (Nat.le_add_right _ _) (l.hok.fresh (Nat.le_add_right _ _));simp only[List.mem_cons,List.not_mem_nil,or_false]at D;rcases D with r|r|r|r|r<;>subst r
   .exact ok 4
   .exact ok 2
   .exact ok 3
   .exact ok 0
   .exact ok 1
def xj(xs ys:Sn):List PV:=List.zipWith (λx y=>.t [x,y]) xs ys
def NP:List PV->Out (List PV)
 |[.l d,.l c]=>.ok (xj d c)
 |_=>.wall
def AV(ms:MA):MI:=λc=>(ms c).bind NP
def gu(h:H T=none):zD H (upd H T o):=λa u e=>by rw[zm (zY e h)];exact e
def PL(q:xs.length=n)(g:∀a,M a->N a)(h:∀c,Fr N H2 c->ok c)(r:∀i x,xs[i]?=some x->∃d,x=.t d/\yx W M H2 d (row i)):FE W M N H2 (Itw n ok row) xs:=λc f=>by refine⟨λi x j=>?_,q,h c f⟩;obtain⟨d,rfl,u⟩:=r i x j;refine⟨⟨by have:=(R8.mp j).1;omega,h c f⟩,λv s w=>?_⟩;obtain⟨T,rfl,l,rfl⟩:=w;refine⟨gu l,λy sM=>⟨T,row i,rfl,.inl (.inl (zj ..)),?_⟩⟩;exact yx.gen (λa o h m=>gu l _ _ (f a o h (m.imp (g a) id))) (λa m n=>sM a m n) u
def Md(hg:Gl X "zip")(K:X.mg "zip"=none)(L:AM X C S [false,false] [a,b] ms)(Z:starEach [a,b] X.env=[(false,eval a X.env),(false,eval b X.env)]:=by rfl)(v:starEach [b] X.env=[(false,eval b X.env)]:=by rfl):IM X C S cc (.Tuple elts kk tp) (.Call (.Name "zip" p) [a,b] [] pos) (AV ms):=λhK=>by
 obtain⟨ta,Y,T⟩:=L hK;refine⟨_,DQ hg K Y Z v,λB P H M G R Q q=>T B P H M G R _ ?_⟩;unfold AV at q;revert q;cases ms G with
 |exc c fs=>exact id
 |wall=>exact id
 |ok zs=>
  intro E vs I s F;have r:=F.IU rfl;have q:lA C B S P cc H Q (NP zs):=E;unfold NP at q;split at q
  .rename_i xs ys;obtain⟨v1,r1,rfl,⟨p1,u,rfl,W,l,j⟩,v2,r2,rfl,⟨J,z,rfl,U,g,h⟩,rfl⟩:=r;have O:=j.len;have N:=h.len;refine⟨p1,J,u,z,rfl,SqL.of l,SqL.of g,q _ I s (PL (by unfold xj;rw[a3y,O,N]) (λa m=>Mof.nac m) (λH' f=>⟨SqL.of (f _ _ l (.inl (Mof.nac W))),SqL.of (f _ _ g (.inl (Mof.nac U)))⟩) λi x d=>?_)⟩;unfold xj at d;rw[a3j]at d;cases n:xs[i]? with
   |none=>rw[n]at d;cases d
   |some x1=>
    cases y:ys[i]? with
    |none=>rw[n,y]at d;cases d
    |some x2=>rw[n,y]at d;cases d;obtain⟨u1,w,A⟩:=j.get n;obtain⟨u2,o,D⟩:=h.get y;exact⟨_,rfl,u1,_,by unfold Mc;rw[w,o];rfl,A,u2,[],rfl,D,rfl⟩
  .exact q.elim
end
section
variable {X:Cx}{C:LC}{S:RW}{elts:Sd}{kk:Nat}{tp p pos:Pos}{a b:Sf}{m1 m2:ME}
def F7(hg:Gl X "zip")(O:X.mg "zip"=none)(h1:EN X C S a m1)(h2:EN X C S b m2)(I:starEach [a,b] X.env=[(false,eval a X.env),(false,eval b X.env)]:=by rfl)(h:starEach [b] X.env=[(false,eval b X.env)]:=by rfl):IM X C S false (.Tuple elts kk tp) (.Call (.Name "zip" p) [a,b] [] pos) (AV (zb m1 (zb m2 zk))):=λK=>by
 obtain⟨ta,a1,Y⟩:=h1 K;obtain⟨tb,b1,N⟩:=h2 K;refine⟨_,DQ hg O (wY a1 (wY b1 Ws (by rw[h];rfl)) (by rw[I,h])) I h,λB P H D r R Q q=>Y B P H D r R _ ?_⟩;unfold AV zb at q;revert q;cases m1 r with
 |exc c fs=>exact id
 |wall=>exact id
 |ok J=>
  intro q v1 H1 F r1;refine N B P H1 D r (R.keep F) _ ?_;revert q;cases m2 r with
  |exc c fs=>exact id
  |wall=>exact id
  |ok G=>
   intro E v2 L s2 T;have q:=E;cases J with
   |l xs=>
    cases G with
    |l ys=>
     obtain⟨p1,v,rfl,n1,e,d⟩:=r1;obtain⟨M,z,rfl,Z,j,n⟩:=T;have e:=s2 _ _ e;have d:=d.same s2;have W:=d.len;have U:=n.len;refine⟨p1,M,v,z,rfl,SqL.of e,SqL.of j,q _ L (F.trans s2) (PL (by unfold xj;rw[a3y,W,U]) (λa m=>Mof.nac m) (λH' f=>⟨SqL.of (f _ _ e (.inl n1)),SqL.of (f _ _ j (.inl Z))⟩) λi x g=>?_)⟩;unfold xj at g;rw[a3j]at g;cases o:xs[i]? with
     |none=>rw[o]at g;cases g
     |some x1=>
      cases y:ys[i]? with
      |none=>rw[o,y]at g;cases g
      |some x2=>rw[o,y]at g;cases g;obtain⟨u1,w,A⟩:=d.get o;obtain⟨u2,u,s⟩:=n.get y;exact⟨_,rfl,u1,_,by unfold Mc;rw[w,u];rfl,A,u2,[],rfl,s,rfl⟩
    |_=>exact q.elim
   |_=>exact q.elim
end
def rK(m1 m2:HME):HME:=λa G=>(m1 a G).bind λx b=>match x with
 |.v (.b c)=>if c=true then m2 a b else .ok (.v (.b false)) b
 |_=>.wall
section
variable {X:Cx}{W:RC}{E:XK}{a b:Sf}{rest:Sd}{pos:Pos}{m1 m2:HME}
def DR{op}(h:HE X W E a m1):HE X W E (.BoolOp op [a] pos) m1:=λc=>let⟨tt,a1,a2⟩:=h c;⟨tt,C1 a1,a2⟩
def DS(h:HE X W E a m1)(u:HE X W E (.BoolOp .And (b::rest) pos) m2):HE X W E (.BoolOp .And (a::b::rest) pos) (rK m1 m2):=λl=>by
 obtain⟨z,s,r⟩:=h l;obtain⟨B,y,n⟩:=u l;refine⟨_,C2 s y,λZ e A H f j G R Q q=>r Z e A H f j G R _ (HPx.bind q λx g i o m p d v w=>?_)⟩;cases x with
 |v x=>
  cases x with
  |b c=>
   refine⟨c,w,?_⟩;cases c with
   |true=>exact Dh (n Z e g i f j o (R.gro m p) _ d)
   |false=>exact Dg (d g i m Gro.refl _ rfl)
  |_=>exact d.elim
 |_=>exact d.elim
end
def LFr.le(h:LFr C S te m):LE C S false te m:=λB P H c b R Q q=>h B P H c b R Q (Y9 q λx v d s a=>RV.of (a.rep R.new))
section
variable {X:Cx}{W:RC}{E:XK}{fr' fr:Bool}{S:RW}{qI tg elt:Sf}{ifs:Sd}{m me:ME}{mc:MT}{mg:MG}{mi:MI}{pos m4 py:Pos}{j:Nat}{scope:Scope}{y:Str}
def RH(bs:R_)(p:LE ⟨W,E,fr⟩ S false te m)(o:S.all (·==0)=true:=by rfl):∀(Z:HC),Z.W=W->∀A H d f G,HR Z A H d f G->∀Q,HPx Z E A G.length H (KV' Z Q) (hP bs m f G)->te d H Q:=λZ u A H d f G R Q q=>by
 subst u;unfold hP at q;split at q
 .rename_i r e;refine p _ _ H d r (BX R e o) Q ?_;revert q;cases m r with
  |ok x=>exact λq v b s l=>q A b (R.toHH.keep s) (Gro.same s) v (l.rep.sub λa m _=>FR R.toHH a m)
  |exc c fs=>exact λq=>gc R.toHH q λb w h=>h.sub λa m _=>m.elim id λn=>R.toHH.new a n
  |wall=>exact id
 .split at q
  .rename_i r e;refine p _ _ H d r (f_ R e o) Q ?_;revert q;cases m r with
   |ok x=>
    intro q v b s l;dsimp only at q;split at q
    .rename_i g;exact q A b (R.toHH.keep s) (Gro.same s) v (V9 g l.rep)
    .exact q.elim
   |exc c fs=>
    intro q;dsimp only at q;split at q
    .rename_i g;exact gc R.toHH q λb w h=>Jd g h
    .exact q.elim
   |wall=>exact id
  .exact q.elim
def Me(bs:R_)(N:RS)(fr:Sm)(c:RW)(D:X.N.Nodup)(q:X.N[j]?=some y)(n:X.env.scope.names.lookup y=some .local)(r:X.calm=true)(f:p4 X scope N fr=true)(B:IM X ⟨W,E,fr'⟩ S true tg qI mi)(F:∀z:CI,GM (cxI X scope N z) ⟨W,E0,false⟩ c c tg mg)(p:∀z:CI,TsM (cxI X scope N z) ⟨W,E0,false⟩ c ifs mc)(he:∀z:CI,EM (cxI X scope N z) ⟨W,E0,false⟩ c false elt me)(l:c=inS S fr:=by rfl)(A:S.all (·==0)=true:=by rfl)
  (e:swapsWith (.ListComp elt [⟨tg,qI,ifs,0⟩] scope pos) (some (.Name y py)) m4.line X.env=pure true:=by rfl) (v:∀x,foldedSetIterable qI X.env x=pure x:=by intro _;rfl):HS X W E (.Assign [.Name y py] (.ListComp elt [⟨tg,qI,ifs,0⟩] scope pos) m4) (kA j (hP bs (mLC mi fr mg mc me))):=λd=>by
 obtain⟨M,u,o⟩:=B d;obtain⟨g,I,h⟩:=V8 F λ_=>d;obtain⟨K,J,C⟩:=V7 p λ_=>d;obtain⟨O,G,w⟩:=cV he λ_=>d;exact⟨_,Br N fr D q n r f u (λa b s H L=>I ⟨a,b,s,H,L⟩) (λa b s H L=>J ⟨a,b,s,H,L⟩) (λa b s H L=>G ⟨a,b,s,H,L⟩) e v,nV (RH bs (BJ o rfl l h C w).le A)⟩
end
def F8(I:Inv X pins σ H s)(h:SqT X.K H b (ks.map kV)):(tupleKind (yK X.prog X.w)).is s.heap ks b:=by obtain⟨a,r,⟨o,e,c,n,d⟩,_⟩:=I.tuple h;exact⟨o,a.toArray,n,e,c,d,by simpa using Ud r⟩
def xk(h:yx W M H xs vs)(a:pk2 xs=some ks):vs=ks.map kV:=by
 match xs,a with
 |[x,y],a=>obtain⟨j,f,a⟩:=a0f.mp a;obtain⟨i,c,a⟩:=a0f.mp a;cases a;obtain⟨v,r,rfl,b,u,d,rfl,g,e⟩:=h;cases e;rw[V4 (qb.iff.mpr b) f,V4 (qb.iff.mpr g) c];rfl
def sL(bs:R_)(m:ME):HME:=λa G=>match Yu G bs a with
 |some r=>match m r with
  |.ok x=>F4 G x
  |_=>.wall
 |none=>.wall
def F9(bs:R_)(N:RS)(fr:Sm)(d:RW)(P:X.N.Nodup)(D:X.N[j]?=some y)(u:X.env.scope.names.lookup y=some .local)(F:X.calm=true)(h:p4 X scope N fr=true)(M:IM X ⟨W,E,fr'⟩ S true tg qI mi)(T:∀z:CI,GM (cxI X scope N z) ⟨W,E0,false⟩ d d tg mg)(B:∀z:CI,TsM (cxI X scope N z) ⟨W,E0,false⟩ d ifs mc)(he:∀z:CI,FM (cxI X scope N z) ⟨W,E0,false⟩ d elt me)(p:d=inS S fr:=by rfl)(l:S.all (·==0)=true:=by rfl)
  (f:swapsWith (.ListComp elt [⟨tg,qI,ifs,0⟩] scope pos) (some (.Name y py)) m4.line X.env=pure true:=by rfl) (J:∀x,foldedSetIterable qI X.env x=pure x:=by intro _;rfl):HS X W E (.Assign [.Name y py] (.ListComp elt [⟨tg,qI,ifs,0⟩] scope pos) m4) (kA j (sL bs (mLC mi fr mg mc (mLI me)))):=λe=>by
 obtain⟨wi,I,w⟩:=M e;obtain⟨g,b1,m⟩:=V8 T λ_=>e;obtain⟨tc,c1,O⟩:=V7 B λ_=>e;obtain⟨te,Y,K⟩:=uZ he λ_=>e;refine⟨_,Br N fr P D u F h I (λa b s H L=>b1 ⟨a,b,s,H,L⟩) (λa b s H L=>c1 ⟨a,b,s,H,L⟩) (λa b s H L=>Y ⟨a,b,s,H,L⟩) f J,nV λZ n A H o ρ G R Q q=>?_⟩;subst n;unfold sL at q;split at q
 .rename_i r i;refine DO (w _ _ H o r (f_ R i l)) rfl p m O K (f_ R i l) Q ?_;revert q;cases mLC mi fr mg mc (mLI me) r with
  |ok x=>exact λq v H2 s U=>DP R.toHH s q U
  |exc c fs=>exact λq=>q.elim
  |wall=>exact id
 .exact q.elim
abbrev Cx.pnd(X:Cx)(p:RT):Cx:={ X with pn:=X.pn++p }
section
variable {X:Cx}{pins:RT}{σ:St}{H:Hp}{s:RZ}{C:LC}{S S' Sb Sc:RW}{pos:Pos}{m1:MS}
def Cx.Ok.pnd(o:X.Ok):(X.pnd pins).Ok:=⟨o.mod,o.kind,o.glob,o.blt,o.above,o.inj,o.has,o.cab,o.hd,o.frames,o.stk,o.exf,o.bs,o.bsz,o.Hc,o.Hd,o.iH,o.frf⟩
def Inv.pnd(I:Inv X pins σ H s):Inv (X.pnd pins) [] σ H s:=⟨I.ok.pnd,I.os,I.bare,I.base,I.loc,I.cell,I.free,I.VD,λp hp=>I.pin p `c,I.hok,I.len⟩
def Inv.dr(J:X.Ok)(I:Inv (X.pnd pins) [] σ H s):Inv X pins σ H s:=⟨J,I.os,I.bare,I.base,I.loc,I.cell,I.free,I.VD,λp hp=>I.pin p `c,I.hok,I.len⟩
def SP.dr(J:X.Ok)(h:SP (X.pnd pins) [] D f s):SP X pins D f s:=by
 cases f with
 |next=>obtain⟨a,b,I,q⟩:=h;exact⟨a,b,I.dr J,q⟩
 |brk=>obtain⟨a,b,I,q⟩:=h;exact⟨a,b,I.dr J,q⟩
 |cont=>obtain⟨a,b,I,q⟩:=h;exact⟨a,b,I.dr J,q⟩
 |ret u=>obtain⟨v,a,b,I,r,q⟩:=h;exact⟨v,a,b,I.dr J,r,q⟩
def Fl.dr{e C:Addr}{od:SK}(f:Fl (X.pnd pins).nox [] H s e C od):Fl X pins H s e C od:=by obtain⟨T,g,h⟩:=f;exact⟨T,g,h.imp id λ⟨a,fl,c,b,d⟩=>⟨a,fl,c,⟨b.tbk,b.new,b.free,λp hp=>b.pin p `c⟩,d⟩⟩
def eT0(K:Sx)(F:Addr)(ts:Addr->TS)(D:Ends):XK:=λv o c=>∃e C b,v=.ref e/\o=some b/\c e=some (XC e C b)/\Catch K C F true/\∀a:St,(∀i:Nat,i<a.length->True)->ts e { nx:=λ_ _=>False,rt:=D.rt } a c
def O2(K:Sx)(F:Addr)(tb:List (Addr×Obj)->XK->TS)(ts:Addr->TS):TS:=λD σ H=>∀pins,tb pins (eT0 K F ts D) D σ H
def F_(n:Own X)(L:∀p r,PSs (thr (X.pnd p) r) body (tb p r))(hg:Gl X cx)(G:X.mg cx=some (.ref F))(Q:∀e,PSs (X.held (.ref e)) (c::suite) (ts e))
  (j:(cx==("__debug__":Str))=false:=by decide):PS X (.Try body [.ExceptHandler (some (.Name cx np)) none (c::suite) hp] [] [] pos) (O2 X.K F tb ts):=by
 intro pins s σ H D I h;have J:=I.ok;refine wpAny_Try_except (a0G (L pins _ [] s σ H D (I.pnd.eY _) (h pins)) (λf d q=>?_) λv d q=>?_)
 .have q:=q.Yt.dr J;cases f with
  |next=>exact a1N q
  |ret u=>exact q
  |brk=>exact q
  |cont=>exact q
 .obtain⟨a,l,e,C,x,rfl,g,fl,e',R,K,E,P,Z,kc,q⟩:=q;cases E;cases P;have g:=g.Yt.dr J;have fl:=fl.dr;refine cM n g.ok.frames g fl λY h2 U B=>?_;refine cK U zj B λh3 b y=>?_;rw[ZY]at b y;have M:∀(h:Heap),Inv X pins a (upd l e (XO e C (some x) (.ref Y))) { d with heap:=h }->∃o,h.get? e=some o/\o.cls=.ref R:=λh I'=>by have J:=I'.t5 zj;rw[ZY]at J;obtain⟨t,T,sl,i⟩:=XC.get (J.hok e _ Z);exact⟨_,i,rfl⟩
  refine wpAny_handleBy_cons (codeAny_handlers_test ?_) (λz=>by cases z);refine X9 (b.held _) hg G ?_ j;obtain⟨o,i,m⟩:=M _ b;refine(iY b.kIn i m kc).here ?_;refine codeAny_handlers_suite ?_;refine cK b zj y λh4 A N=>?_;rw[ZY]at A N;have w:=(A.t5 zj).held (.ref e);rw[ZY]at w;refine a0G (Q e pins _ _ _ _ w (q a λ_ _=>trivial)) (λf s6 z=>?_) λ_ _ z=>False.elim z;cases f with
  |ret u=>obtain⟨v,a,O,I6,W,q6⟩:=z;exact⟨v,_,O,I6.IB I.ok,W,q6⟩
  |next=>obtain⟨_,_,_,z⟩:=z;exact False.elim z
  |brk=>obtain⟨_,_,_,z⟩:=z;exact False.elim z
  |cont=>obtain⟨_,_,_,z⟩:=z;exact False.elim z
def lV(cs:RW)(m1:MS)(x:Bool):MS:=λa=>match m1 a with
 |.ok f=>.ok f
 |.exc c _=>if c∈cs then .ok (.rt (.b x))else .wall
 |.wall=>.wall
def Gd(u:Own X)(G:∀p d,SsM (thr (X.pnd p) d) ⟨C.W,d,C.fr⟩ S S' Sb Sc body m1)(N:Gl X cx)(E:X.mg cx=some (.ref F))
  (M:∀e,SsM (X.held (.ref e)) C [] S2 [] [] (b₀::suite) m2) (n:∀c∈cs,Catch X.K (C.W.cls c) F true) (A:∀m,m2 m=.ok (.rt (.b x)):=by intro;rfl) (o:(cx==("__debug__":Str))=false:=by decide):
  SM X C S S' Sb Sc (.Try body [.ExceptHandler (some (.Name cx np)) none (b₀::suite) hp] [] [] pos) (lV cs m1 x):=λy=>by
 have f:=λp d=>G p d y;have b:=λe=>M e y;refine⟨_,F_ u (λp d=>(a0p (f p d)).1) N E (λe=>(a0p (b e)).1) o,λB P H σ m R D q p=>?_⟩;refine(a0p (f p (eT0 X.K F (λe=>Classical.choose (b e)) D))).2 B P H σ m R _ ?_;unfold lV at q;revert q;cases m1 m with
 |wall=>exact id
 |ok fl=>
  cases fl with
  |nx g=>exact id
  |rt x=>exact id
  |bk g=>exact id
  |ct g=>exact id
 |exc c fs=>
  intro q e I U w s O Q T;have q:ZN C B S' Sb Sc D (if c∈cs then .ok (.rt (.b x))else .wall):=q;split at q
  .rename_i K;refine⟨e,_,I,rfl,rfl,O,n c K,λl _=>(a0p (b e)).2 (uI w λ_=>False) (λ_=>0) w l (List.replicate l.length none) ⟨zD.refl _,by rw[a04],λi x e=>?_,λi (h:([]:List Nat)[i]?=some 2)=>(by cases h),λi j (h:([]:List Nat)[i]?=some 2)=>(by cases h),λ(h:([]:List Nat)[0]?=some 2)=>(by cases h),λa h=>h.elim,λi (h:([]:List Nat)[i]?=some 2)=>(by cases h)⟩ _ ?_⟩
   .rw[a06]at e;split at e<;>cases e
   .rw[A];intro v L J r;refine q v L (s.trans J) ?_;unfold Dt at r ⊢;split at r
    .rename_i hf;obtain⟨p,_,_,z⟩:=r;exact z.elim
    .rename_i hf;rw[if_neg hf];exact r
  .exact q.elim
end
def inE:List PV->Option Bool
 |[]=>some false
 |.l a::r=>(inE r).map λb=>a.isEmpty||b
 |_::_=>none
def eE(H:Hp):Value->Bool
 |.ref p=>match H p with
  |some (.lst a)=>a.isEmpty
  |_=>false
 |_=>false
def PM(W:RC):R2:=λd e H Q=>∃M p a c b,qb W (λ_=>True) M H (.l []) d/\e=.ref p/\SqL W.K H p a/\yx W M H c a/\inE c=some b/\Q (.bl b) H
theorem DT{W:RC}{M:RY}{H:Hp}:∀{h:Sn}{g:Sh}{f:Sa}{b:Bool},yx W M H h g->Vals g f->inE h=some b->f.any (eE H)=b/\∀u∈f,∃a v,Rep W M H (.l a) v/\RelV v u/\eE H u=a.isEmpty
 |[],_,f,b,r,w,e=>by cases r;cases w;cases e;exact⟨rfl,λu d=>by cases d⟩
 |y::h,_,f,b,r,w,e=>by
  obtain⟨v,D,rfl,m,o⟩:=r;cases w with
  |cons A rt=>
   rename_i u B;cases y with
   |l a=>
    obtain⟨c,s,rfl⟩:=v0.mp (show(inE h).map _=some b from e);obtain⟨q,x⟩:=DT o rt s;have i:=m;obtain⟨p,C,rfl,_,hp,n⟩:=m;cases A;have j:eE H (.ref p)=a.isEmpty:=by
     show(match H p with|some (.lst g)=>g.isEmpty|_=>false)=_;rw[hp];cases a with
     |nil=>cases n;rfl
     |cons z a=>obtain⟨_,_,rfl,_,_⟩:=n;rfl
    refine⟨by rw[a0E,q,j],λu d=>?_⟩;rcases T6.mp d with rfl|d
    .exact⟨a,_,i,rfl,j⟩
    .exact x u d
   |_=>cases e
def Mf(i:W.K=X.K)(F:X.A.units+64<cLine):OpR X (compareOp .In) (PM W):=by
 intro f s G H K N u v Q I C B h;obtain⟨M,p,J,L,b,j,rfl,g,o,e,q⟩:=h;cases B;rw[i]at g;obtain⟨a,r,E,hz⟩:=I.list g;obtain⟨l,m⟩:=DT o r e;refine SeqAt.in_listAt (eE H) E.isList (λw A=>?_) ⟨.bl b,H,I,?_,q⟩
 .obtain⟨d,z,D,c,n⟩:=m w `c;rw[n];exact(Bz I i 8 (by cases d<;>rfl) (qb.iff.mpr D) j c C `c).1
 .rw[show a.toArray.any (eE H)=a.any (eE H) by simp,l];rfl
def Mg:PV->PV->Out PV
 |.l [],.l a=>ZH ((inE a).map .b)
 |_,_=>.wall
def Mh:Lf2 W (PM W) Mg:=λM C B H x y v u Q n a g q=>by
 unfold Mg at q;split at q
 .obtain⟨z,e,q⟩:=yZ q;obtain⟨b,c,rfl⟩:=v0.mp e;obtain⟨p,f,rfl,_,d,r⟩:=g;exact⟨M,p,f,_,b,a,rfl,SqL.of d,r,c,q _ H (zD.refl _) rfl⟩
 .exact q.elim
def Mi(d:X.A.units+64<cLine)(g:EM X C S w1 a m1)(e:EM X C S w2 b m2)(f:behindInMarks .In b=false:=by with_unfolding_all rfl):TM X C S (.Compare a [.In] [b] pos) (zU (mOp Mg m1 m2)):=λc=>yI (Mf c.symm d) Mh g e f c
def Mj(K:Sx):R2:=λx y H Q=>∃a b c d,x=.ref b/\y=.ref a/\Rd H a (.dT c)/\SqT K H b (d.map kV)/\Q (.bl (!(XH c d).isSome)) H
def Ge(j:X.A.units+1<cLine):OpR X (compareOp .NotIn) (Mj X.K):=by intro f s r H x y v u Q I o n h;obtain⟨a,b,d,i,rfl,rfl,e,m,q⟩:=h;cases o;cases n;obtain⟨z,l,w,c,p⟩:=fE I.hok e;refine wpAny_notIn_heap (a1a j) (F8 I m) l p ?_;have g:=(c.val i).ZK;rw[a05]at g;rw[<- g];exact⟨.bl (!(XH d i).isSome),H,I.tok _,rfl,q⟩
def lX:PV->PV->Out PV
 |.t c,.dt a=>match pk2 c with
  |some b=>.ok (.b (!(zM a b).isSome))
  |none=>.wall
 |_,_=>.wall
def Gf{c tb:TE}{K:Sx}(r:K=C.W.K)(w:LE C S w1 c m1)(n:LE C S w2 tb m2):LE C S false (tOp (Mj K) c tb) (mOp lX m1 m2):=λB P H b d R Q q=>w B P H b d R _ (yM q λx v m h l j=>n B P m b d (R.keep h) _ (yM j λy u A s2 f a=>by
 unfold lX at a;split at a
 .split at a
  .rename_i o g;obtain⟨p,rfl,_,e⟩:=f.weak;obtain⟨z,D,rfl,i,s⟩:=l.weak;cases xk s g;exact⟨p,z,_,o,rfl,rfl,e,by rw[r];exact i.same s2,by rw[dh,a05];exact a _ _ (zD.refl _) (RV.of rfl)⟩
  .exact a.elim
 .exact a.elim))
def xl(f:X.A.units+1<cLine)(l:EM X C S w1 a m1)(g:EM X C S w2 b m2)(j:behindInMarks .NotIn b=false:=by with_unfolding_all rfl):TM X C S (.Compare a [.NotIn] [b] pos) (zU (mOp lX m1 m2)):=λc=>by obtain⟨m,d,e⟩:=l c;obtain⟨tb,i,h⟩:=g c;exact⟨_,cH (Ge f) d i j,Uj (Gf c e h)⟩
def Gg(bs:R_)(N:RS)(fr:Sm)(d:RW)(u:X.calm=true)(f:p4 X scope N fr=true)(D:IM X ⟨W,E,fr'⟩ S true tg qI mi)(I:∀z:CI,GM (cxI X scope N z) ⟨W,E0,false⟩ d d tg mg)(p:∀z:CI,TsM (cxI X scope N z) ⟨W,E0,false⟩ d ifs mc)(he:∀z:CI,FM (cxI X scope N z) ⟨W,E0,false⟩ d elt me)(n:d=inS S fr:=by rfl)(i:S.all (·==0)=true:=by rfl)
  (y:∀x,foldedSetIterable qI X.env x=pure x:=by intro _;rfl):HE X W E (.ListComp elt [⟨tg,qI,ifs,0⟩] scope pos) (sL bs (mLC mi fr mg mc (mLI me))):=λe=>by
 obtain⟨U,w,o⟩:=D e;obtain⟨g,M,j⟩:=V8 I λ_=>e;obtain⟨T,O,F⟩:=V7 p λ_=>e;obtain⟨te,K,B⟩:=uZ he λ_=>e;refine⟨_,IC N fr u f w (λa b s H L=>M ⟨a,b,s,H,L⟩) (λa b s H L=>O ⟨a,b,s,H,L⟩) (λa b s H L=>K ⟨a,b,s,H,L⟩) y,λZ l A H m Y G R Q q=>?_⟩;subst l;unfold sL at q;split at q
 .rename_i r h;refine DO (o _ _ H m r (f_ R h i)) rfl n j F B (f_ R h i) Q ?_;revert q;cases mLC mi fr mg mc (mLI me) r with
  |ok x=>exact λq v P s J=>DP R.toHH s q J
  |exc c fs=>exact λq=>q.elim
  |wall=>exact id
 .exact q.elim
end L2
namespace L2
section
variable {κ α:Type}[DecidableEq κ]
def Ci{k:κ}:zM ([]:List (κ×α)) k=none:=rfl
def yt{k j:κ}{v:α}{r:List (κ×α)}:zM ((j,v)::r) k=if j=k then some v else zM r k:=by
 unfold zM;by_cases h:j=k
 .simp[h]
 .simp[h]
theorem wD:∀{a:List (κ×α)}{k:κ},a.any (λb=>decide (b.1=k))=(zM a k).isSome
 |[],_=>rfl
 | (j,v)::r,k=>by
  rw[a0E,yt,wD];by_cases h:j=k
  .simp[h]
  .simp[h]
theorem n8:∀{a:List (κ×α)}{k j:κ}{v:α},zM (a++[(k,v)]) j=(zM a j).or (if k=j then some v else none)
 |[],k,j,v=>by rw[a1w,yt];rfl
 | (i,u)::a,k,j,v=>by
  rw[a2Q,yt,yt,n8];by_cases h:i=j
  .rw[if_pos h,if_pos h];rfl
  .rw[if_neg h,if_neg h]
theorem du:∀{a:List (κ×α)}{k j:κ}{v:α},zM (a.map λc=>if c.1=k then(c.1,v)else c) j=if k=j then(zM a j).map (λ_=>v)else zM a j
 |[],k,j,v=>by split<;>rfl
 | (i,u)::a,k,j,v=>by
  rw[T2];by_cases h:i=k
  .subst h;rw[if_pos rfl,yt,yt,du];by_cases h:i=j
   .rw[if_pos h,if_pos h,if_pos h];rfl
   .rw[if_neg h,if_neg h,if_neg h,if_neg h]
  .rw[if_neg h,yt,yt,du];by_cases b:i=j
   .rw[if_pos b,if_pos b,if_neg (λz=>h (b.trans z.symm))]
   .rw[if_neg b,if_neg b]
def wF{a:List (κ×α)}{k j:κ}{v:α}:zM (dput a k v) j=if k=j then some v else zM a j:=by
 unfold dput;rw[wD];split
 .rename_i h;rw[du];split
  .rename_i e;subst e;obtain⟨x,b⟩:=a0O.mp h;rw[b];rfl
  .rfl
 .rename_i h;rw[n8];by_cases e:k=j
  .subst e;have:zM a k=none:=by cases q:zM a k with|none=>rfl|some x=>rw[q]at h;exact absurd rfl h
   rw[this];rfl
  .rw[if_neg e,if_neg e];cases zM a j<;>rfl
def K8{a:List (κ×α)}{k:κ}{v:α}:(dput a k v).map (·.1)=if(zM a k).isSome=true then a.map (·.1)else a.map (·.1)++[k]:=by
 unfold dput;rw[wD];split
 .rw[a0q];refine a0T λb _=>?_;show(if b.1=k then(b.1,v)else b).1=b.1;split<;>rfl
 .rw[T5];rfl
theorem Jf:∀{a:List (κ×α)}{k:κ}{v:α},zM a k=some v->(k,v)∈a
 |[],_,_,e=>by cases e
 | (j,u)::a,k,v,e=>by
  rw[yt]at e;split at e
  .rename_i h;subst h;cases e;exact v4
  .exact R9 _ (Jf e)
def Cj{a:List (κ×α)}{k:κ}:(zM a k).isSome=true↔k∈a.map (·.1):=by
 rw[<- wD,List.any_eq_true];constructor
 .rintro ⟨b,h,e⟩;exact a0F.mpr ⟨b,h,a0S e⟩
 .intro h;obtain⟨b,h,e⟩:=a0F.mp h;exact⟨b,h,S8 e⟩
def bR{a:List (κ×α)}{k:κ}{v:α}(h:(a.map (·.1)).Nodup):((dput a k v).map (·.1)).Nodup:=by
 rw[K8];split
 .exact h
 .rename_i n;refine a1A.mpr ⟨h,by simp,λx b y c z=>?_⟩;obtain rfl:y=k:=by simpa using c
  subst z;exact n (Cj.mpr b)
end
end L2
namespace K83
open PySem L2
noncomputable section NCS
def top(i:Nat):Stmt:=PySem.Challenge.pw_fleetpath_k83_pieces_held.main.body.getD i (.Pass ⟨0,0,0,0⟩)
abbrev V_:Stmt:=top 58
abbrev Wa:Stmt:=top 60
abbrev Z7:Stmt:=top 61
abbrev Wb:Stmt:=top 59
abbrev Kl:Stmt:=top 62
abbrev Za:Stmt:=inClass (top 6) 0
abbrev Qe:Stmt:=top 17
abbrev Zb:Stmt:=inClass (top 4) 0
abbrev Zc:Stmt:=top 14
abbrev Qf:Stmt:=inClass (top 7) 0
abbrev jK:Stmt:=top 16
abbrev Zd:Stmt:=inClass (top 8) 0
abbrev Z8:Stmt:=top 38
abbrev Ze:Stmt:=inClass (top 42) 2
abbrev kY:Stmt:=inClass (top 5) 0
abbrev kZ:Stmt:=top 15
abbrev vO:Stmt:=inClass (top 26) 0
abbrev Qg:Stmt:=inClass (top 9) 0
abbrev Zf:Stmt:=inClass (top 27) 0
abbrev Qh:Stmt:=top 28
abbrev k8:Stmt:=top 29
abbrev Qi:Stmt:=inClass (top 30) 0
abbrev Qj:Stmt:=top 64
abbrev Km:Stmt:=top 67
abbrev Kn:Stmt:=top 65
abbrev Qk:Stmt:=top 63
abbrev Z9:Stmt:=inClass (top 10) 0
abbrev Ql:Stmt:=inClass (top 30) 2
abbrev Z_:Stmt:=top 31
abbrev Gh:Stmt:=top 33
abbrev dv:Stmt:=top 34
abbrev vP:Stmt:=inClass (top 44) 0
abbrev Zg:Stmt:=top 46
abbrev Ya:Stmt:=inClass (top 42) 1
abbrev Ko:Stmt:=top 47
abbrev Kp:Stmt:=top 48
abbrev Yb:Stmt:=top 49
abbrev Zh:Stmt:=top 50
abbrev Zi:Stmt:=inClass (top 45) 0
abbrev Yc:Stmt:=top 51
abbrev Qm:Stmt:=top 55
abbrev xm:Stmt:=top 54
abbrev Yd:Stmt:=top 56
abbrev Wc:Stmt:=top 68
abbrev Zj:Stmt:=top 39
abbrev Qn:Stmt:=top 40
abbrev Zk:Stmt:=top 41
abbrev Qo:Stmt:=inClass (top 42) 0
abbrev Gi:Stmt:=top 52
abbrev Kq:Stmt:=top 66
abbrev Gj:Stmt:=top 69
def scB(N P:RS)(sc:Scope):Bool:=(match sc.kind with | .function=>true|_=>false)&&(!sc.isCoroutine&&(!sc.isGenerator&&(decide N.Nodup&&(decide (N.take P.length=P)&&(P.all (λx=>match sc.names.lookup x with|some .local=>true|some .cell=>true|_=>false)&&sc.names.all λy=>match y.2 with | .free=>false|_=>true)))))
def k9(h:scB N P sc=true):zy N P sc:=by
 unfold scB at h;simp only[Bool.and_eq_true,decide_eq_true_eq,List.all_eq_true]at h;obtain⟨j,d,f,g,i,b,c⟩:=h;refine⟨?_,by simpa using d,by simpa using f,g,i,λx a=>?_,λy l e=>?_⟩
 .revert j;cases sc.kind<;>simp
 .have:=b x a;split at this<;>simp_all
 .have:=c y l;rw[e]at this;cases this
def Kr:zy ["_law_script","_law_k","_law_many","_law_cell"] ["_law_script","_law_k","_law_many"] (zl V_):=k9 rfl
def j8:zy ["_law_script","_law_places","_law_scale","_law_ring","_law_many","_law_ways_here","_law_k","_law_pair"] ["_law_script","_law_places","_law_scale","_law_ring"] (zl Wa):=k9 rfl
def yf:zy ["_law_places","_law_ways_here","_law_far","_law_place","_law_origin","_law_goal","_law_minutes","_law_amid","_law_total"] ["_law_places","_law_ways_here"] (zl Z7):=k9 rfl
def Ks:zy ["_law_script","_law_k","_law_number","_law_ahead","_law_behind"] ["_law_script","_law_k","_law_number"] (zl Wb):=k9 (by decide +kernel)
def z7:zy ["_law_script","_law_places","_law_far","_law_scale","_law_many","_law_trips_here","_law_at","_law_time","_law_k","_law_origin","_law_goal","_law_spare","_law_more","_law_start"] ["_law_script","_law_places","_law_far","_law_scale","_law_many"] (zl Kl):=k9 rfl
def UG:zy ["self","most"] ["self","most"] (zl Za):=k9 rfl
def dw:zy ["things","most"] ["things","most"] (zl Qe):=k9 rfl
def UH:zy ["self","name"] ["self","name"] (zl Zb):=k9 (by decide +kernel)
def Qp:zy ["name","sign"] ["name"] (zl Zc):=k9 (by decide +kernel)
def dy:zy ["self","name"] ["self","name"] (zl Qf):=k9 (by decide +kernel)
def Kt:zy ["name","had"] ["name","had"] (zl jK):=k9 (by decide +kernel)
def UI:zy ["self","name"] ["self","name"] (zl Zd):=k9 rfl
def aM:zy ["name","places"] ["name","places"] (zl Z8):=k9 (by decide +kernel)
def UJ:zy ["self","origin","goal"] ["self","origin","goal"] (zl Ze):=k9 rfl
def Wd:zy ["self","value"] ["self","value"] (zl kY):=k9 (by decide +kernel)
def We:zy ["value","least"] ["value","least"] (zl kZ):=k9 (by decide +kernel)
def Xg:zy ["self","name"] ["self","name"] (zl vO):=k9 rfl
def dz:zy ["self","origin","goal"] ["self","origin","goal"] (zl Qg):=k9 (by decide +kernel)
def UK:zy ["self","name"] ["self","name"] (zl Zf):=k9 rfl
def K9:zy ["roads","trip","had","length"] ["roads","trip","had"] (zl Qh):=k9 (by decide +kernel)
def Wf:zy ["trip"] ["trip"] (zl k8):=k9 (by decide +kernel)
def K_:zy ["self","roads","trips","trip"] ["self","roads","trips"] (zl Qi):=k9 rfl
def jL:zy ["_law_far","_law_home","_law_row","_law_span","_law_k"] ["_law_far","_law_home","_law_row"] (zl Qj):=k9 rfl
def ju:zy ["_law_script","_law_far","_law_home","_law_trips_here","_law_way","_law_first","_law_behind","_law_run","_law_pair"] ["_law_script","_law_far","_law_home","_law_trips_here"] (zl Km):=k9 rfl
def wG:zy ["_law_far","_law_places","_law_board","_law_home","_law_names","_law_limit_here","_law_k","_law_trip","_law_one"] ["_law_far","_law_places","_law_board","_law_home","_law_names","_law_limit_here"] (zl Kn):=k9 rfl
def qM:zy ["_law_script","_law_k","_law_rows","_law_way","_law_at","_law_row","_law_spot"] ["_law_script","_law_k","_law_rows"] (zl Qk):=k9 rfl
def aN:zy ["self","name"] ["self","name"] (zl Z9):=k9 (by decide +kernel)
def dA:zy ["self","name"] ["self","name"] (zl Ql):=k9 rfl
def Js:zy ["table","names","name"] ["table","names"] (zl Z_):=k9 rfl
def n_:zy ["table","one","other","ahead","behind","length"] ["table","one","other"] (zl Gh):=k9 (by decide +kernel)
def gw:zy ["table","one","other","minutes"] ["table","one","other"] (zl dv):=k9 (by decide +kernel)
def Xh:zy ["self","first","second"] ["self","first","second"] (zl vP):=k9 rfl
def vQ:zy ["table","names","one","other"] ["table","names"] (zl Zg):=k9 (by decide +kernel)
def aO:zy ["self"] ["self"] (zl Ya):=k9 rfl
def gx:zy ["table","home","names"] ["table","home","names"] (zl Ko):=k9 rfl
def gz:zy ["roads","origin","goal"] ["roads","origin","goal"] (zl Kp):=k9 rfl
def aP:zy ["table","home","names"] ["table","home","names"] (zl Yb):=k9 (by decide +kernel)
def yJ:zy ["table","home","names","place","minutes","name","trip"] ["table","home","names"] (zl Zh):=k9 rfl
def UL:zy ["self","name"] ["self","name"] (zl Zi):=k9 (by decide +kernel)
def aQ:zy ["table","home","name","limit"] ["table","home","name","limit"] (zl Yc):=k9 rfl
def Va:zy ["table","home","names","limit","name"] ["table","home","names","limit"] (zl Qm):=k9 rfl
def lY:zy ["lists","told","one"] ["lists"] (zl xm):=k9 rfl
def Jt:zy ["table","home","names","limit","pieces","longer"] ["table","home","names","limit","pieces"] (zl Yd):=k9 (by decide +kernel)
def Ku:zy ["_law_table","_law_home","_law_names","_law_limit_here","_law_parts_here","_law_due","_law_handed","_law_told"] ["_law_table","_law_home","_law_names","_law_limit_here","_law_parts_here","_law_due"] (zl Wc):=k9 rfl
def vR:zy ["places","had","name"] ["places"] (zl Zj):=k9 (by decide +kernel)
def vv:zy ["places","ways","origin","goal","minutes"] ["places","ways"] (zl Qn):=k9 rfl
def yh:zy ["origin","ways","heights","changed","start","goal","minutes","height"] ["origin","ways"] (zl Zk):=k9 rfl
def dB:zy ["self","places","ways"] ["self","places","ways"] (zl Qo):=k9 (by decide +kernel)
def oa:zy ["table","home","names","limit","name","pieces"] ["table","home","names","limit"] (zl Gi):=k9 rfl
def qA:zy ["_law_far","_law_board","_law_home","_law_names","_law_limit_here","_law_parts_here","_law_run","_law_name_here","_law_longer"] ["_law_far","_law_board","_law_home","_law_names","_law_limit_here"] (zl Kq):=k9 (by decide +kernel)
def jv:zy ["_law_script","_law_scale","_law_places","_law_ways_here","_law_far","_law_trips_here","_law_table","_law_board","_law_home","_law_names","_law_limit_here","_law_parts_here","_law_strange","_law_right_here","_law_due"] ["_law_script"] (zl Gj):=k9 rfl
abbrev NsN(K:SD)(x:Str):Prop:=W.nsIn K mainGlobals x=some none
abbrev NsR(K:SD)(x:Str)(c:Addr):Prop:=W.nsIn K mainGlobals x=some (some (.ref c))
def ev(i:Nat)(d:X.N[i]?=some x:=by rfl)(c:Vis X.env.scope x:=by first|exact Or.inl rfl|exact Or.inr (Or.inl rfl)|exact Or.inr (Or.inr rfl))(b:(x==("__debug__":Str))=false:=by decide)(a:(x==("__classdict__":Str))=false:=by decide):EM X C S true (.Name x pos) (zc i):=II (pv i d c b a)
def ei{j}:EM X C S false (.Constant (.int i) j pos) (mC (.i i)):=yr HD
def rm(a:vB k A)(h:j<=k:=by decide):vB j A:=a.mono h
def Ml(e:W.findIn K (.ref C) "__init__"=some (some (.ref f)))(a:K.lookup C=some (excClassObj nm q C N bs bm true sn sub ab col dd k0 k1 k2 k3 k5 "ValueError.__new__"))(b:fJ K bm=true)(c:W.typeIn K (.ref f)=some (.type "function"))(d:W.keepIn K (.ref C)=true):XMk K C f:=⟨⟨_,_,_,_,_,_,_,_,_,_,_,_,_,_,_,a,b⟩,e,c,d⟩
abbrev fnT(st:SN)(sh q:Str)(kV dc pm:Value)(an:SK)(cd ct:Value):FuncData:=W.fnOf sh q (Ug st) (Z0 st) (zl st) .none kV dc pm an cd ct
abbrev DfN(K:SD)(x:Str)(st:SN)(f:Addr)(fd:Sq):Prop:=W.nsIn K mainGlobals x=some (some (.ref f))/\Fun K x x st f fd
structure Def(K:SD)(mg:RU)(x:Str)(st:SN)(ps:RS)(f:Addr)(fd:Sq):Prop where
 g:mg x=some (.ref f)
 F:Fun K x x st f fd
 b:Binds K fd ps []
def Def.k{K:SD}{a:RU}{x:Str}{st:SN}{ps:RS}{f:Addr}{fd:Sq}(D:Def K a x st ps f fd):W.keepIn K (.ref f)=true:=D.F.kp
abbrev BN(x q:Str)(st:SN)(ps:RS):Prop:=∀(kV dc pm:Value)(an:SK)(cd ct:Value)(us:Sa),us.length=ps.length->bindArgs (fnT st x q kV dc pm an cd ct) ⟨us,[]⟩=pure (ps.zip us)
def yw{K:SD}{h:Heap}{a:RU}{x:Str}{st:SN}{ps:RS}{f:Addr}{fd:Sq}(X:K.In h)(G:h.Ns mainGlobals a)(D:DfN K x st f fd)(b:BN x x st ps):Def K a x st ps f fd:=⟨a0J X G D.1,D.2,D.2.binds b⟩
def fz{P:Tf}:∀c∈([]:List Nat),P c:=λ_ h=>nomatch h
def fa{P:Tf}{a:Nat}{l:RW}(h:P a)(t:∀c∈l,P c):∀c∈a::l,P c:=by grind
def al{X:Cx}{W:RC}{fr:Bool}{ws:R_}{b:Str}{c:Nat}{f:Sj}(h:Hk X.prog X.w X.K X.mg X.base X.A b (W.cls c) (lsp W fr (true::ws) f)):∀K a,NI W fr ws [(c,f)] K a->Hk X.prog X.w X.K X.mg X.base X.A b K a:=λK a ⟨q,g,d,e⟩=>by cases T9.mp g;subst d e;exact h
def ec{X:Cx}{C:LC}{S:RW}{k j:Nat}{f:Addr}{fd:Sq}{ps:RS}{fr:Bool}{ws:R_}{g:Sj}{x:Str}{st:SN}{e:Sf}{es:Sd}{ms:MA}{p a:Pos}(F:y_ X.prog X.w X.K X.mg X.base (CXe X.prog X.w) k f fd ps (lsp C.W fr ws g))(h:vB j X.A)(D:Def X.K X.mg x st ps f fd)(c:Passes (CXe X.prog X.w) X C.E)(l:AM X C S ws (e::es) ms)(i:k<=j:=by decide)(d:Gl X x:=by rfl)
  (b:(x==("__debug__":Str))=false:=by decide) (he:starEach (e::es) X.env=(false,eval e X.env)::starEach es X.env:=by rfl) (hpl:(backTo a (starEach es X.env)).any (·.1)=false:=by rfl):EM X C S false (.Call (.Name x p) (e::es) [] a) (zg g ms):=Fx F (h.mono i) d D.g D.k D.b c l b he hpl
def gn(i:Nat)(b:X.N.Nodup)(c:X.N[i]?=some x:=by rfl)(a:Loc X.env.scope x:=by exact .inl rfl)(hf:X.fn x=true\/X.env.scope.names.lookup x=some .local:=by first|exact .inl rfl|exact .inr rfl|assumption):GM X C S (S.set i 0) (.Name x pos) (gNm i):=j6 b c a hf
def se(i:Nat)(c:X.N.Nodup)(h:EM X C S false e m)(d:X.N[i]?=some x:=by rfl)(a:Loc X.env.scope x:=by exact .inl rfl)(b:swapsWith e (some (.Name x pos')) pos.line X.env=pure false:=by rfl)(hf:X.fn x=true\/X.env.scope.names.lookup x=some .local:=by first|exact .inl rfl|exact .inr rfl|assumption):SM X C S (S.set i 0) Sb Sc (.Assign [.Name x pos'] e pos) (qJ i m):=Ln c d a h b hf
def ix(e:vB k X.A)(d:EM X C S w1 a m1)(c:EM X C S w2 b m2)(f:Ua b:=by intro _ _;rfl):EM X C S false (.Subscript a b pos) (mOp pIx m1 m2):=Ox (y6 e) d c f
def hse(i:Nat)(c:X.N.Nodup)(h:HE X W E e m)(d:X.N[i]?=some x:=by rfl)(a:Loc X.env.scope x:=by exact .inl rfl)(b:swapsWith e (some (.Name x pos')) pos.line X.env=pure false:=by rfl)(hf:X.fn x=true\/X.env.scope.names.lookup x=some .local:=by first|exact .inl rfl|exact .inr rfl|assumption):HS X W E (.Assign [.Name x pos'] e pos) (kA i m):=LW c d a h b hf
def hp(h:EM X ⟨W,E,false⟩ (List.replicate 30 0) false e m):HE X W E e (hP bs m):=RE bs h (a1l.mpr λ_ h=>by rw[a2V h];rfl)
def hf(h:FM X ⟨W,E,false⟩ (List.replicate 30 0) e m):HE X W E e (hF bs m):=RF bs h (a1l.mpr λ_ h=>by rw[a2V h];rfl)
def bn1(h:∀kV a d c cd ct b,bindArgs (fnT st x q kV a d c cd ct) ⟨[b],[]⟩=pure (ps.zip [b]):=by intros;rfl)(hp:ps.length=1:=by rfl):BN x q st ps:=λkV a d c cd ct e f=>OG (P:=λe=>bindArgs (fnT st x q kV a d c cd ct) ⟨e,[]⟩=pure (ps.zip e)) (f.trans hp) λb=>h kV a d c cd ct b
def bn2(h:∀kV b e c cd ct a d,bindArgs (fnT st x q kV b e c cd ct) ⟨[a,d],[]⟩=pure (ps.zip [a,d]):=by intros;rfl)(hp:ps.length=2:=by rfl):BN x q st ps:=λkV b e c cd ct f g=>OH (P:=λf=>bindArgs (fnT st x q kV b e c cd ct) ⟨f,[]⟩=pure (ps.zip f)) (g.trans hp) λa d=>h kV b e c cd ct a d
def bn3(h:∀kV b e c cd ct a d f,bindArgs (fnT st x q kV b e c cd ct) ⟨[a,d,f],[]⟩=pure (ps.zip [a,d,f]):=by intros;rfl)(hp:ps.length=3:=by rfl):BN x q st ps:=λkV b e c cd ct g i=>OI (P:=λg=>bindArgs (fnT st x q kV b e c cd ct) ⟨g,[]⟩=pure (ps.zip g)) (i.trans hp) λa d f=>h kV b e c cd ct a d f
def bn4(h:∀kV b f d cd ct a e g c,bindArgs (fnT st x q kV b f d cd ct) ⟨[a,e,g,c],[]⟩=pure (ps.zip [a,e,g,c]):=by intros;rfl)(hp:ps.length=4:=by rfl):BN x q st ps:=λkV b f d cd ct i j=>OJ (P:=λi=>bindArgs (fnT st x q kV b f d cd ct) ⟨i,[]⟩=pure (ps.zip i)) (j.trans hp) λa e g c=>h kV b f d cd ct a e g c
def bn5(h:∀kV b f d cd ct a e g c i,bindArgs (fnT st x q kV b f d cd ct) ⟨[a,e,g,c,i],[]⟩=pure (ps.zip [a,e,g,c,i]):=by intros;rfl)(hp:ps.length=5:=by rfl):BN x q st ps:=λkV b f d cd ct j l=>OK (P:=λj=>bindArgs (fnT st x q kV b f d cd ct) ⟨j,[]⟩=pure (ps.zip j)) (l.trans hp) λa e g c i=>h kV b f d cd ct a e g c i
def bn6(h:∀kV b g e cd ct a f i c j d,bindArgs (fnT st x q kV b g e cd ct) ⟨[a,f,i,c,j,d],[]⟩=pure (ps.zip [a,f,i,c,j,d]):=by intros;rfl)(hp:ps.length=6:=by rfl):BN x q st ps:=λkV b g e cd ct l m=>OU (P:=λl=>bindArgs (fnT st x q kV b g e cd ct) ⟨l,[]⟩=pure (ps.zip l)) (m.trans hp) λa f i c j d=>h kV b g e cd ct a f i c j d
structure Adr where
 (yb kO qF kQ QF kR Zr wO jE kT QG Yo qt kU zf vF qQ qR ke Zs yQ Zt qp QH z9 Zu yi zA ve zX wg QI Zv qD zI QJ ym jq yW WO Yp zB qT rV Yk wj qr yq yX jr qf zK Zw qg yF U4 zZ yG qq jC yE qE Nu aw Nv:Addr)
 (cq cw VE cy ax Zx WQ Zy JG QK wQ Zz VF ZA vf YG wm QL ZC WR YH QM WT ay az WU Yq QN VG Nw pB wo JH Yr aA aB VH JI ZD VI WV EE VJ cz JJ WX JK QO Nx aC Ny:Sq)
 (He iq bq ir Nz CW NB Hf CY Hg eS mL:Tok)
abbrev PN(K:SD)(mg:RU)(a:Adr):Prop:=
 (mg "LIMIT"=some (.int 1000000000 a.He))/\
 (mg "NAME_SIGNS"=some (.str "abcdefghijklmnopqrstuvwxyz0123456789" a.iq))/\
 (mg "LONGEST_NAME"=some (.int 12 a.bq))/\
 (mg "MOST_TRIPS"=some (.int 40 a.ir))/\
 (mg "NAME"=some (.int 0 a.Nz))/\
 (mg "ORIGIN"=some (.int 1 a.CW))/\
 (mg "GOAL"=some (.int 2 a.NB))/\
 (mg "START"=some (.int 3 a.Hf))
abbrev PQ(K:SD)(mg:RU)(a:Adr):Prop:=
 (mg "FINISH"=some (.int 4 a.CY))/\
 (mg "SEATS"=some (.int 5 a.Hg))/\
 (mg "MOST_PLACES"=some (.int 12 a.eS))/\
 (mg "MOST_WAYS"=some (.int 60 a.mL))/\
 (mg "FleetError"=some (.ref a.yb))/\
 (mg "BadName"=some (.ref a.kO))/\
 (mg "BadNumber"=some (.ref a.qF))/\
 (mg "TooMany"=some (.ref a.kQ))
abbrev Txt2(K:SD)(mg:RU)(a:Adr):Prop:=
 (mg "Twice"=some (.ref a.QF))/\
 (mg "NoPlace"=some (.ref a.kR))/\
 (mg "NoWay"=some (.ref a.Zr))/\
 (mg "NoTrip"=some (.ref a.wO))/\
 (mg "Backward"=some (.ref a.jE))/\
 (mg "TooFast"=some (.ref a.kT))/\
 (mg "Table"=some (.ref a.QG))/\
 (mg "Roads"=some (.ref a.Yo))
abbrev PR(K:SD)(mg:RU)(a:Adr):Prop:=
 (mg "Unlinked"=some (.ref a.qt))/\
 (mg "TooLong"=some (.ref a.kU))/\
 (mg "all"=none)/\
 (mg "any"=none)/\
 (mg "bool"=none)/\
 (mg "dict"=none)/\
 (mg "isinstance"=none)/\
 (mg "len"=none)
abbrev PU(K:SD)(mg:RU)(a:Adr):Prop:=
 (mg "list"=none)/\
 (mg "max"=none)/\
 (mg "range"=none)/\
 (mg "sorted"=none)/\
 (mg "zip"=none)/\
 (Def K mg "_law_draw" V_ ["_law_script","_law_k","_law_many"] a.zf a.cq)/\
 (Def K mg "_law_ways" Wa ["_law_script","_law_places","_law_scale","_law_ring"] a.vF a.cw)/\
 (Def K mg "_law_lengths" Z7 ["_law_places","_law_ways_here"] a.qQ a.VE)
abbrev PX(K:SD)(mg:RU)(a:Adr):Prop:=
 (Def K mg "_law_name" Wb ["_law_script","_law_k","_law_number"] a.qR a.cy)/\
 (Def K mg "_law_trips" Kl ["_law_script","_law_places","_law_far","_law_scale","_law_many"] a.ke a.ax)/\
 (Fun K "__init__" "TooMany.__init__" Za a.Zs a.Zx)/\
 (Binds K a.Zx ["self","most"] [])/\
 (Def K mg "check_most" Qe ["things","most"] a.yQ a.WQ)/\
 (Fun K "__init__" "BadName.__init__" Zb a.Zt a.Zy)/\
 (Binds K a.Zy ["self","name"] [])/\
 (Def K mg "checked_name" Zc ["name"] a.qp a.JG)
abbrev PY(K:SD)(mg:RU)(a:Adr):Prop:=
 (Fun K "__init__" "Twice.__init__" Qf a.QH a.QK)/\
 (Binds K a.QK ["self","name"] [])/\
 (Def K mg "checked_new_name" jK ["name","had"] a.z9 a.wQ)/\
 (Fun K "__init__" "NoPlace.__init__" Zd a.Zu a.Zz)/\
 (Binds K a.Zz ["self","name"] [])/\
 (Def K mg "check_place" Z8 ["name","places"] a.yi a.VF)/\
 (Fun K "length" "Roads.length" Ze a.zA a.ZA)/\
 (Binds K a.ZA ["self","origin","goal"] [])
abbrev PZ(K:SD)(mg:RU)(a:Adr):Prop:=
 (Fun K "__init__" "BadNumber.__init__" kY a.ve a.vf)/\
 (Binds K a.vf ["self","value"] [])/\
 (Def K mg "checked_number" kZ ["value","least"] a.zX a.YG)/\
 (Fun K "__init__" "Backward.__init__" vO a.wg a.wm)/\
 (Binds K a.wm ["self","name"] [])/\
 (Fun K "__init__" "NoWay.__init__" Qg a.QI a.QL)/\
 (Binds K a.QL ["self","origin","goal"] [])/\
 (Fun K "__init__" "TooFast.__init__" Zf a.Zv a.ZC)
abbrev P0(K:SD)(mg:RU)(a:Adr):Prop:=
 (Binds K a.ZC ["self","name"] [])/\
 (Def K mg "check_trip" Qh ["roads","trip","had"] a.qD a.WR)/\
 (Def K mg "place_in_order" k8 ["trip"] a.zI a.YH)/\
 (Fun K "__init__" "Table.__init__" Qi a.QJ a.QM)/\
 (Binds K a.QM ["self","roads","trips"] [])/\
 (Def K mg "_law_length" Qj ["_law_far","_law_home","_law_row"] a.ym a.WT)/\
 (Def K mg "_law_limit" Km ["_law_script","_law_far","_law_home","_law_trips_here"] a.jq a.ay)/\
 (Def K mg "_law_right" Kn ["_law_far","_law_places","_law_board","_law_home","_law_names","_law_limit_here"] a.yW a.az)
abbrev P1(K:SD)(mg:RU)(a:Adr):Prop:=
 (Def K mg "_law_spoilt" Qk ["_law_script","_law_k","_law_rows"] a.WO a.WU)/\
 (Fun K "__init__" "NoTrip.__init__" Z9 a.Yp a.Yq)/\
 (Binds K a.Yq ["self","name"] [])/\
 (Fun K "trip" "Table.trip" Ql a.zB a.QN)/\
 (Binds K a.QN ["self","name"] [])/\
 (Def K mg "check_trips" Z_ ["table","names"] a.qT a.VG)/\
 (Def K mg "gap" Gh ["table","one","other"] a.rV a.Nw)/\
 (Def K mg "linked" dv ["table","one","other"] a.Yk a.pB)
abbrev Mm(K:SD)(mg:RU)(a:Adr):Prop:=
 (Fun K "__init__" "Unlinked.__init__" vP a.wj a.wo)/\
 (Binds K a.wo ["self","first","second"] [])/\
 (Def K mg "check_linked" Zg ["table","names"] a.qr a.JH)/\
 (Fun K "names" "Roads.names" Ya a.yq a.Yr)/\
 (Binds K a.Yr ["self"] [])/\
 (Def K mg "check_row" Ko ["table","home","names"] a.yX a.aA)/\
 (Def K mg "check_way" Kp ["roads","origin","goal"] a.jr a.aB)/\
 (Def K mg "check_block" Yb ["table","home","names"] a.qf a.VH)
abbrev Mn(K:SD)(mg:RU)(a:Adr):Prop:=
 (Def K mg "block_length" Zh ["table","home","names"] a.zK a.JI)/\
 (Fun K "__init__" "TooLong.__init__" Zi a.Zw a.ZD)/\
 (Binds K a.ZD ["self","name"] [])/\
 (Def K mg "check_short" Yc ["table","home","name","limit"] a.qg a.VI)/\
 (Def K mg "can_be_cut" Qm ["table","home","names","limit"] a.yF a.WV)/\
 (Def K mg "flat" xm ["lists"] a.U4 a.EE)/\
 (Def K mg "pieces_hold" Yd ["table","home","names","limit","pieces"] a.zZ a.VJ)/\
 (Def K mg "_law_true" Wc ["_law_table","_law_home","_law_names","_law_limit_here","_law_parts_here","_law_due"] a.yG a.cz)
abbrev Mo(K:SD)(mg:RU)(a:Adr):Prop:=
 (Def K mg "check_places" Zj ["places"] a.qq a.JJ)/\
 (Def K mg "check_ways" Qn ["places","ways"] a.jC a.WX)/\
 (Def K mg "heights_from" Zk ["origin","ways"] a.yE a.JK)/\
 (Fun K "__init__" "Roads.__init__" Qo a.qE a.QO)/\
 (Binds K a.QO ["self","places","ways"] [])/\
 (Def K mg "cut" Gi ["table","home","names","limit"] a.Nu a.Nx)/\
 (Def K mg "_law_parts" Kq ["_law_far","_law_board","_law_home","_law_names","_law_limit_here"] a.aw a.aC)/\
 (Def K mg "law" Gj ["_law_script"] a.Nv a.Ny)
abbrev Mp(K:SD)(mg:RU)(a:Adr):Prop:=
 (Y5 K a.kO)/\
 (XMk K a.kO a.Zt)/\
 (Catch K a.kO a.yb true)/\
 (W.takerIn K a.kO "name"=some none)/\
 (Y5 K a.qF)/\
 (XMk K a.qF a.ve)/\
 (Catch K a.qF a.yb true)/\
 (W.takerIn K a.qF "value"=some none)
abbrev Mq(K:SD)(mg:RU)(a:Adr):Prop:=
 (Y5 K a.kQ)/\
 (XMk K a.kQ a.Zs)/\
 (Catch K a.kQ a.yb true)/\
 (W.takerIn K a.kQ "most"=some none)/\
 (Y5 K a.QF)/\
 (XMk K a.QF a.QH)/\
 (Catch K a.QF a.yb true)/\
 (W.takerIn K a.QF "name"=some none)
abbrev Mr(K:SD)(mg:RU)(a:Adr):Prop:=
 (Y5 K a.kR)/\
 (XMk K a.kR a.Zu)/\
 (Catch K a.kR a.yb true)/\
 (W.takerIn K a.kR "name"=some none)/\
 (Y5 K a.Zr)/\
 (XMk K a.Zr a.QI)/\
 (Catch K a.Zr a.yb true)/\
 (W.takerIn K a.Zr "origin"=some none)
abbrev Ms(K:SD)(mg:RU)(a:Adr):Prop:=
 (W.takerIn K a.Zr "goal"=some none)/\
 (Y5 K a.wO)/\
 (XMk K a.wO a.Yp)/\
 (Catch K a.wO a.yb true)/\
 (W.takerIn K a.wO "name"=some none)/\
 (Y5 K a.jE)/\
 (XMk K a.jE a.wg)/\
 (Catch K a.jE a.yb true)
abbrev Mu(K:SD)(mg:RU)(a:Adr):Prop:=
 (W.takerIn K a.jE "name"=some none)/\
 (Y5 K a.kT)/\
 (XMk K a.kT a.Zv)/\
 (Catch K a.kT a.yb true)/\
 (W.takerIn K a.kT "name"=some none)/\
 (Y5 K a.qt)/\
 (XMk K a.qt a.wj)/\
 (Catch K a.qt a.yb true)
abbrev Mv(K:SD)(mg:RU)(a:Adr):Prop:=
 (W.takerIn K a.qt "first"=some none)/\
 (W.takerIn K a.qt "second"=some none)/\
 (Y5 K a.kU)/\
 (XMk K a.kU a.Zw)/\
 (Catch K a.kU a.yb true)/\
 (W.takerIn K a.kU "name"=some none)/\
 (Cls K a.QG)/\
 (vm K a.QG "by_name")
abbrev Mw(K:SD)(mg:RU)(a:Adr):Prop:=
 (vm K a.QG "order")/\
 (vm K a.QG "roads")/\
 (Meth K a.QG "trip" a.zB)/\
 (Mk K a.QG a.QJ)/\
 (Cls K a.Yo)/\
 (vm K a.Yo "lengths")/\
 (vm K a.Yo "places")/\
 (vm K a.Yo "ways")
abbrev My(K:SD)(mg:RU)(a:Adr):Prop:=
 (Meth K a.Yo "length" a.zA)/\
 (Meth K a.Yo "names" a.yq)/\
 (Mk K a.Yo a.qE)/\
 (W.kitOne K (.type "bool") (.type "bool")=some true)/\
 (W.kitOne K (.type "int") (.type "bool")=some false)
abbrev Txt(K:SD)(mg:RU)(a:Adr):Prop:=PN K mg a/\PQ K mg a/\Txt2 K mg a/\PR K mg a/\PU K mg a/\PX K mg a/\PY K mg a/\PZ K mg a/\P0 K mg a/\P1 K mg a/\Mm K mg a/\Mn K mg a/\Mo K mg a/\Mp K mg a/\Mq K mg a/\Mr K mg a/\Ms K mg a/\Mu K mg a/\Mv K mg a/\Mw K mg a/\My K mg a
section
variable {K:SD}{mg:RU}{a:Adr}(T:Txt K mg a)
include T
def Txt.cc0:PN K mg a:=T.1
def Txt.lZ:=T.cc0.1
def Txt.Qq:=T.cc0.2.1
def Txt.Zl:=T.cc0.2.2.1
def Txt.Qr:=T.cc0.2.2.2.1
def Txt.Wx:=T.cc0.2.2.2.2.1
def Txt.Ye:=T.cc0.2.2.2.2.2.1
def Txt.UM:=T.cc0.2.2.2.2.2.2.1
def Txt.Qs:=T.cc0.2.2.2.2.2.2.2
def Txt.cc1:PQ K mg a:=T.2.1
def Txt.wH:=T.cc1.1
def Txt.l0:=T.cc1.2.1
def Txt.Yf:=T.cc1.2.2.1
def Txt.Kv:=T.cc1.2.2.2.1
def Txt.Qt:=T.cc1.2.2.2.2.1
def Txt.Vb:=T.cc1.2.2.2.2.2.1
def Txt.Kw:=T.cc1.2.2.2.2.2.2.1
def Txt.UN:=T.cc1.2.2.2.2.2.2.2
def Txt.cc2:Txt2 K mg a:=T.2.2.1
def Txt.l6:=T.cc2.1
def Txt.UO:=T.cc2.2.1
def Txt.dC:=T.cc2.2.2.1
def Txt.dD:=T.cc2.2.2.2.1
def Txt.Wg:=T.cc2.2.2.2.2.1
def Txt.UP:=T.cc2.2.2.2.2.2.1
def Txt.l7:=T.cc2.2.2.2.2.2.2.1
def Txt.l8:=T.cc2.2.2.2.2.2.2.2
def Txt.cc3:PR K mg a:=T.2.2.2.1
def Txt.Wh:=T.cc3.1
def Txt.UQ:=T.cc3.2.1
def Txt.Gk:=T.cc3.2.2.1
def Txt.Gm:=T.cc3.2.2.2.1
def Txt.xn:=T.cc3.2.2.2.2.1
def Txt.og:=T.cc3.2.2.2.2.2.1
def Txt.Qu:=T.cc3.2.2.2.2.2.2.1
def Txt.vS:=T.cc3.2.2.2.2.2.2.2
def Txt.cc4:PU K mg a:=T.2.2.2.2.1
def Txt.ZR:=T.cc4.1
def Txt.Ck:=T.cc4.2.1
def Txt.Qv:=T.cc4.2.2.1
def Txt.dE:=T.cc4.2.2.2.1
def Txt.Cm:=T.cc4.2.2.2.2.1
def Txt.zp:=T.cc4.2.2.2.2.2.1
def Txt.vD:=T.cc4.2.2.2.2.2.2.1
def Txt.qN:=T.cc4.2.2.2.2.2.2.2
def Txt.cc5:PX K mg a:=T.2.2.2.2.2.1
def Txt.ZS:=T.cc5.1
def Txt.j9:=T.cc5.2.1
def Txt.aR:=T.cc5.2.2.1
def Txt.aS:=T.cc5.2.2.2.1
def Txt.jw:=T.cc5.2.2.2.2.1
def Txt.aT:=T.cc5.2.2.2.2.2.1
def Txt.Ju:=T.cc5.2.2.2.2.2.2.1
def Txt.kC:=T.cc5.2.2.2.2.2.2.2
def Txt.cc6:PY K mg a:=T.2.2.2.2.2.2.1
def Txt.gA:=T.cc6.1
def Txt.gB:=T.cc6.2.1
def Txt.yO:=T.cc6.2.2.1
def Txt.aU:=T.cc6.2.2.2.1
def Txt.aV:=T.cc6.2.2.2.2.1
def Txt.yP:=T.cc6.2.2.2.2.2.1
def Txt.aW:=T.cc6.2.2.2.2.2.2.1
def Txt.q_:=T.cc6.2.2.2.2.2.2.2
def Txt.cc7:PZ K mg a:=T.2.2.2.2.2.2.2.1
def Txt.Xi:=T.cc7.1
def Txt.Xj:=T.cc7.2.1
def Txt.yz:=T.cc7.2.2.1
def Txt.UR:=T.cc7.2.2.2.1
def Txt.US:=T.cc7.2.2.2.2.1
def Txt.gC:=T.cc7.2.2.2.2.2.1
def Txt.Wz:=T.cc7.2.2.2.2.2.2.1
def Txt.aX:=T.cc7.2.2.2.2.2.2.2
def Txt.cc8:P0 K mg a:=T.2.2.2.2.2.2.2.2.1
def Txt.aY:=T.cc8.1
def Txt.wI:=T.cc8.2.1
def Txt.qj:=T.cc8.2.2.1
def Txt.gD:=T.cc8.2.2.2.1
def Txt.gE:=T.cc8.2.2.2.2.1
def Txt.jx:=T.cc8.2.2.2.2.2.1
def Txt.Yg:=T.cc8.2.2.2.2.2.2.1
def Txt.vT:=T.cc8.2.2.2.2.2.2.2
def Txt.cc9:P1 K mg a:=T.2.2.2.2.2.2.2.2.2.1
def Txt.jA:=T.cc9.1
def Txt.dF:=T.cc9.2.1
def Txt.dG:=T.cc9.2.2.1
def Txt.gG:=T.cc9.2.2.2.1
def Txt.jB:=T.cc9.2.2.2.2.1
def Txt.vw:=T.cc9.2.2.2.2.2.1
def Txt.Cn:=T.cc9.2.2.2.2.2.2.1
def Txt.XU:=T.cc9.2.2.2.2.2.2.2
def Txt.DU:Mm K mg a:=T.2.2.2.2.2.2.2.2.2.2.1
def Txt.UT:=T.DU.1
def Txt.UU:=T.DU.2.1
def Txt.kD:=T.DU.2.2.1
def Txt.dH:=T.DU.2.2.2.1
def Txt.dI:=T.DU.2.2.2.2.1
def Txt.j_:=T.DU.2.2.2.2.2.1
def Txt.vU:=T.DU.2.2.2.2.2.2.1
def Txt.vx:=T.DU.2.2.2.2.2.2.2
def Txt.DV:Mn K mg a:=T.2.2.2.2.2.2.2.2.2.2.2.1
def Txt.yU:=T.DV.1
def Txt.aZ:=T.DV.2.1
def Txt.a8:=T.DV.2.2.1
def Txt.jM:=T.DV.2.2.2.1
def Txt.wJ:=T.DV.2.2.2.2.1
def Txt.bS:=T.DV.2.2.2.2.2.1
def Txt.vy:=T.DV.2.2.2.2.2.2.1
def Txt.vE:=T.DV.2.2.2.2.2.2.2
def Txt.DW:Mo K mg a:=T.2.2.2.2.2.2.2.2.2.2.2.2.1
def Txt.kE:=T.DW.1
def Txt.wK:=T.DW.2.1
def Txt.qo:=T.DW.2.2.1
def Txt.gH:=T.DW.2.2.2.1
def Txt.gI:=T.DW.2.2.2.2.1
def Txt.rL:=T.DW.2.2.2.2.2.1
def Txt.yA:=T.DW.2.2.2.2.2.2.1
def Txt.xo:=T.DW.2.2.2.2.2.2.2
def Txt.DX:Mp K mg a:=T.2.2.2.2.2.2.2.2.2.2.2.2.2.1
def Txt.UW:=T.DX.1
def Txt.gJ:=T.DX.2.1
def Txt.rM:=T.DX.2.2.1
def Txt.UX:=T.DX.2.2.2.1
def Txt.UY:=T.DX.2.2.2.2.1
def Txt.l9:=T.DX.2.2.2.2.2.1
def Txt.gK:=T.DX.2.2.2.2.2.2.1
def Txt.Vc:=T.DX.2.2.2.2.2.2.2
def Txt.DY:Mq K mg a:=T.2.2.2.2.2.2.2.2.2.2.2.2.2.2.1
def Txt.gM:=T.DY.1
def Txt.xp:=T.DY.2.1
def Txt.rN:=T.DY.2.2.1
def Txt.UZ:=T.DY.2.2.2.1
def Txt.xq:=T.DY.2.2.2.2.1
def Txt.Gn:=T.DY.2.2.2.2.2.1
def Txt.Co:=T.DY.2.2.2.2.2.2.1
def Txt.dJ:=T.DY.2.2.2.2.2.2.2
def Txt.DZ:Mr K mg a:=T.2.2.2.2.2.2.2.2.2.2.2.2.2.2.2.1
def Txt.gN:=T.DZ.1
def Txt.xt:=T.DZ.2.1
def Txt.rO:=T.DZ.2.2.1
def Txt.U0:=T.DZ.2.2.2.1
def Txt.dM:=T.DZ.2.2.2.2.1
def Txt.xu:=T.DZ.2.2.2.2.2.1
def Txt.Cp:=T.DZ.2.2.2.2.2.2.1
def Txt.U1:=T.DZ.2.2.2.2.2.2.2
def Txt.D0:Ms K mg a:=T.2.2.2.2.2.2.2.2.2.2.2.2.2.2.2.2.1
def Txt.dN:=T.D0.1
def Txt.oh:=T.D0.2.1
def Txt.Cq:=T.D0.2.2.1
def Txt.xw:=T.D0.2.2.2.1
def Txt.a9:=T.D0.2.2.2.2.1
def Txt.bU:=T.D0.2.2.2.2.2.1
def Txt.rP:=T.D0.2.2.2.2.2.2.1
def Txt.l_:=T.D0.2.2.2.2.2.2.2
def Txt.D2:Mu K mg a:=by grind
def Txt.Xk:=T.D2.1
def Txt.gO:=T.D2.2.1
def Txt.xy:=T.D2.2.2.1
def Txt.rQ:=T.D2.2.2.2.1
def Txt.U2:=T.D2.2.2.2.2.1
def Txt.Wi:=T.D2.2.2.2.2.2.1
def Txt.rR:=T.D2.2.2.2.2.2.2.1
def Txt.mf:=T.D2.2.2.2.2.2.2.2
def Txt.D3:Mv K mg a:=by grind
def Txt.Wj:=T.D3.1
def Txt.Vd:=T.D3.2.1
def Txt.gP:=T.D3.2.2.1
def Txt.xA:=T.D3.2.2.2.1
def Txt.rT:=T.D3.2.2.2.2.1
def Txt.U3:=T.D3.2.2.2.2.2.1
def Txt.yD:=T.D3.2.2.2.2.2.2.1
def Txt.ql:=T.D3.2.2.2.2.2.2.2
def Txt.D4:Mw K mg a:=by grind
def Txt.a_:=T.D4.1
def Txt.yV:=T.D4.2.1
def Txt.qO:=T.D4.2.2.1
def Txt.Cr:=T.D4.2.2.2.1
def Txt.qP:=T.D4.2.2.2.2.1
def Txt.Yw:=T.D4.2.2.2.2.2.1
def Txt.jN:=T.D4.2.2.2.2.2.2.1
def Txt.dO:=T.D4.2.2.2.2.2.2.2
def Txt.Mz:My K mg a:=T.2.2.2.2.2.2.2.2.2.2.2.2.2.2.2.2.2.2.2.2
def Txt.qB:=T.Mz.1
def Txt.ba:=T.Mz.2.1
def Txt.Cs:=T.Mz.2.2.1
def Txt.Qw:=T.Mz.2.2.2.1
def Txt.Kx:=T.Mz.2.2.2.2
end
def cls(a:Adr):Nat->Addr
 |0=>a.yb
 |1=>a.kO
 |2=>a.qF
 |3=>a.kQ
 |4=>a.QF
 |5=>a.kR
 |6=>a.Zr
 |7=>a.wO
 |8=>a.jE
 |9=>a.kT
 |10=>a.QG
 |11=>a.Yo
 |12=>a.qt
 |13=>a.kU
 |_=>0
abbrev WW(K:SD)(a:Adr):RC:=⟨K,cls a⟩
abbrev bV:MS:=
  (yk (qJ 3 (mC (.i 5)))
  (yk (sIf (zU (mOp pGt (zg vq (zb (zc 0) zk)) (mC (.i 0)))) (qJ 3 (mOp Jj (mOp pIx (zc 0) (mOp Jj (zc 1) (zg vq (zb (zc 0) zk)))) (mC (.i 1000000007)))) yB)
  (vt (mOp Jj (mOp p9 (mOp Jj (mOp jZ (mOp zP (mOp zP (zc 3) (mOp jZ (mC (.i 37)) (zc 1))) `f) (mOp zP (mC (.i 48271)) (mOp jZ (zc 1) (zc 1)))) (mC (.i 2147483647))) (mC (.i 7))) (zc 2)))))
def zf:List PV->Out PV:=ZI false 4 bV
abbrev vV:MG:=
  (gNm 3)
abbrev vW:MS:=
  (gk 2 (zb (zc 3) (zb (zc 3) zk)) (mC (.i 0)))
abbrev vX:MG:=
  (gTp 3 (wA (gNm 4) (wA (gNm 5) (wA (gNm 6) rq))))
abbrev vY:MS:=
  (sIf (mOr (zU (gj true (zb (zc 4) (zb (zc 5) zk)) (zc 2))) (zU (mOp pLt (zc 6) (iK (zc 2) (zb (zc 4) (zb (zc 5) zk)))))) (gk 2 (zb (zc 4) (zb (zc 5) zk)) (zc 6)) yB)
abbrev vZ:MG:=
  (gNm 5)
abbrev jO:MS:=
  (sIf (cQ (zU (gj false (zb (zc 4) (zb (zc 7) zk)) (zc 2))) (zU (gj false (zb (zc 7) (zb (zc 5) zk)) (zc 2)))) (yk (qJ 8 (mOp zP (iK (zc 2) (zb (zc 4) (zb (zc 7) zk))) (iK (zc 2) (zb (zc 7) (zb (zc 5) zk)))))
  (sIf (mOr (zU (gj true (zb (zc 4) (zb (zc 5) zk)) (zc 2))) (zU (mOp pLt (zc 8) (iK (zc 2) (zb (zc 4) (zb (zc 5) zk)))))) (gk 2 (zb (zc 4) (zb (zc 5) zk)) (zc 8)) yB)) yB)
abbrev v5:MG:=
  (gNm 4)
abbrev v7:MS:=
  (KU (ye (zc 0)) vZ jO)
abbrev v8:MG:=
  (gNm 7)
abbrev v9:MS:=
  (KU (ye (zc 0)) v5 v7)
abbrev Ve:MS:=
  (yk (qJ 2 DG)
  (yk (KU (ye (zc 0)) vV vW)
  (yk (KU (ye (zc 1)) vX vY)
  (yk (KU (ye (zc 0)) v8 v9)
  (vt (zc 2))))))
def qQ:List PV->Out PV:=ZI true 9 Ve
abbrev Yx:MS:=
  (vt (i9 (zb (mOp pIx (zc 0) (mC (.i 3))) (zb (mOp pIx (zc 0) (mC (.i 4))) (zb (mOp pIx (zc 0) (mC (.i 0))) zk)))))
def zI:List PV->Out PV:=ZI false 1 Yx
abbrev Zm:MG:=
  (gNm 4)
abbrev Zn:MS:=
  (yk (qJ 3 (mOp Wv (mOp zP (zc 3) (mOp pIx (mOp pIx (zc 2) (zc 4)) (mC (.i 4)))) (mOp pIx (mOp pIx (zc 2) (zc 4)) (mC (.i 3)))))
  (sIf (zU (mOp pGt (zc 4) (mC (.i 0)))) (qJ 3 (mOp zP (zc 3) (iK (zc 0) (zb (mOp pIx (mOp pIx (zc 2) (mOp Wv (zc 4) `f)) (mC (.i 2))) (zb (mOp pIx (mOp pIx (zc 2) (zc 4)) `f) zk))))) yB))
abbrev WA:MS:=
  (yk (qJ 3 (mOp zP (iK (zc 0) (zb (zc 1) (zb (mOp pIx (mOp pIx (zc 2) (mC (.i 0))) `f) zk))) (iK (zc 0) (zb (mOp pIx (mOp pIx (zc 2) (mUn iI `f)) (mC (.i 2))) (zb (zc 1) zk)))))
  (yk (KU (Xe (zb (zg vq (zb (zc 2) zk)) zk)) Zm Zn)
  (vt (zc 3))))
def ym:List PV->Out PV:=ZI false 5 WA
abbrev Vf:MS:=
  (vt (zg qW (zb (Kj [11] "places" (zc 0)) zk)))
def yq:List PV->Out PV:=ZI true 1 Vf
abbrev oi:MG:=
  (gNm 2)
abbrev oj:MS:=
  (Lo 1 (zc 2))
abbrev D5:MS:=
  (yk (qJ 1 (vC zk))
  (yk (KU (ye (zc 0)) oi oj)
  (vt (zc 1))))
def U4:List PV->Out PV:=ZI true 3 D5
abbrev Yy:MG:=
  (gTp 3 (wA (gNm 4) (wA (gNm 5) (wA (gNm 6) rq))))
abbrev jc:MS:=
  (sIf (zU (mOp (pIn false) (zc 4) (zc 2))) (yk (qJ 7 (mOp zP (mOp pIx (zc 2) (zc 4)) (zc 6)))
  (sIf (mOr (zU (mOp (pIn true) (zc 5) (zc 2))) (zU (mOp pLt (zc 7) (mOp pIx (zc 2) (zc 5))))) (yk (FC 2 (zc 5) (zc 7))
  (qJ 3 (mC (.b true)))) yB)) yB)
abbrev jd:MT:=
  (zU (zc 3))
abbrev yL:MS:=
  (yk (qJ 3 (mC (.b false)))
  (KU (ye (zc 1)) Yy jc))
abbrev Jv:MS:=
  (yk (qJ 2 (mD1 (zc 0) (mC (.i 0))))
  (yk (qJ 3 (mC (.b true)))
  (yk (bK jd yL)
  (vt (zc 2)))))
def yE:List PV->Out PV:=ZI true 8 Jv
abbrev WB:MG:=
  (gNm 6)
abbrev WC:MS:=
  (sIf (zU (zc 3)) (Dv 5 (i9 (zb (mOp pIx (zc 1) (zc 6)) (zb (mOp pIx (zc 1) (mOp Jj (mOp zP (zc 6) `f) (zc 4))) (zb (mOp zP `f (zg zf (zb (zc 0) (zb (mOp zP (mC (.i 10)) (zc 6)) (zb (mOp jZ (mC (.i 30)) (zc 2)) zk))))) zk))))) yB)
abbrev WD:MG:=
  (gNm 6)
abbrev WE:MS:=
  (yk (qJ 7 (zg zf (zb (zc 0) (zb (mOp zP (mC (.i 20)) (zc 6)) (zb (mOp jZ (zc 4) (zc 4)) zk)))))
  (Dv 5 (i9 (zb (mOp pIx (zc 1) (mOp Jj (zc 7) (zc 4))) (zb (mOp pIx (zc 1) (mOp p9 (zc 7) (zc 4))) (zb (mOp zP `f (zg zf (zb (zc 0) (zb (mOp zP (mC (.i 30)) (zc 6)) (zb (mOp jZ (mC (.i 30)) (zc 2)) zk))))) zk))))))
abbrev bW:MS:=
  (yk (qJ 4 (zg vq (zb (zc 1) zk)))
  (yk (qJ 5 (vC zk))
  (yk (KU (Xe (zb (zc 4) zk)) WB WC)
  (yk (KU (Xe (zb (zg zf (zb (zc 0) (zb (mC (.i 4)) (zb (mC (.i 9)) zk)))) zk)) WD WE)
  (vt (zc 5))))))
def vF:List PV->Out PV:=ZI true 8 bW
abbrev bX:MS:=
  (yk (qJ 3 (zg zf (zb (zc 0) (zb (zc 1) (zb (mC (.i 11)) zk)))))
  (yk (qJ 4 (mOp zP (zg zf (zb (zc 0) (zb (mOp zP (zc 1) `f) (zb (mOp Wv (mC (.i 11)) (zc 3)) zk)))) (mOp Jj (zc 2) (mC (.i 2)))))
  (vt (mOp zP (mOp zP (mOp jZ (mC (.s "x")) (zc 3)) (mOp pIx (mC (.s "abcdefghijklmnopqrstuvwyz0123456789")) (zc 2))) (mOp jZ (mC (.s "x")) (zc 4))))))
def qR:List PV->Out PV:=ZI false 5 bX
abbrev Vg:MG:=
  (gNm 8)
abbrev Vh:MS:=
  (sIf (zU (mOp lX (zc 8) (zc 1))) (vt (mOp p_ (mC (.i 10)) (mC (.i 9)))) yB)
abbrev U5:MS:=
  (yk (qJ 4 (zg zf (zb (zc 0) (zb (mC (.i 60)) (zb (mC (.i 6)) zk)))))
  (yk (sIf (mOr (zU (mOp (jG false) (zc 3) (vC zk))) (zU (mOp (jG false) (zc 4) (mC (.i 0))))) (vt (mOp pIx (vC (zb (zg zf (zb (zc 0) (zb (mC (.i 61)) (zb (mOp p_ (mC (.i 10)) (mC (.i 8))) zk)))) (zb (mOp Wv (mC (.i 0)) (zg zf (zb (zc 0) (zb (mC (.i 61)) (zb (mOp p_ (mC (.i 10)) (mC (.i 8))) zk))))) zk))) (zg zf (zb (zc 0) (zb (mC (.i 62)) (zb (mC (.i 2)) zk)))))) yB)
  (yk (qJ 5 (zg zf (zb (zc 0) (zb (mC (.i 61)) (zb (zg vq (zb (zc 3) zk)) zk)))))
  (yk (qJ 6 (mOp zP (mOp zP (zc 5) `f) (zg zf (zb (zc 0) (zb (mC (.i 62)) (zb (mOp Wv (zg vq (zb (zc 3) zk)) (zc 5)) zk))))))
  (yk (qJ 7 (mSl pSl (zc 3) (wZ (zc 5)) (wZ (zc 6))))
  (yk (KU (ye (vC (zb (i9 (zb (zc 2) (zb (mOp pIx (mOp pIx (zc 7) (mC (.i 0))) `f) zk))) (zb (i9 (zb (mOp pIx (mOp pIx (zc 7) (mUn iI `f)) (mC (.i 2))) (zb (zc 2) zk))) zk)))) Vg Vh)
  (vt (mOp Wv (zg ym (zb (zc 1) (zb (zc 2) (zb (zc 7) zk)))) (mOp Jj (zc 4) (mC (.i 2)))))))))))
def jq:List PV->Out PV:=ZI false 9 U5
abbrev vz:MG:=
  (gNm 6)
abbrev qe:MS:=
  (yk (sIf (zU (mOp (pIn true) (mOp pIx (zc 4) (zc 6)) (zc 2))) (vt (mC (.b false))) yB)
  (yk (qJ 7 (mOp pIx (zc 2) (mOp pIx (zc 4) (zc 6))))
  (yk (sIf (mOr (zU (gj true (zb (zc 3) (zb (mOp pIx (zc 7) `f) zk)) (zc 0))) (zU (gj true (zb (mOp pIx (zc 7) (mC (.i 2))) (zb (zc 3) zk)) (zc 0)))) (vt (mC (.b false))) yB)
  (yk (sIf (zU (mOp pGt (zg ym (zb (zc 0) (zb (zc 3) (zb (vC (zb (zc 7) zk)) zk)))) (zc 5))) (vt (mC (.b false))) yB)
  (sIf (zU (mOp pGt (zc 6) (mC (.i 0)))) (yk (qJ 8 (mOp pIx (zc 2) (mOp pIx (zc 4) (mOp Wv (zc 6) `f))))
  (sIf (mOr (zU (gj true (zb (mOp pIx (zc 8) (mC (.i 2))) (zb (mOp pIx (zc 7) `f) zk)) (zc 0))) (zU (mOp pGt (mOp zP (mOp pIx (zc 8) (mC (.i 4))) (iK (zc 0) (zb (mOp pIx (zc 8) (mC (.i 2))) (zb (mOp pIx (zc 7) `f) zk)))) (mOp pIx (zc 7) (mC (.i 3)))))) (vt (mC (.b false))) yB)) yB)))))
abbrev U6:MS:=
  (yk (sIf (zU (mOp (pIn true) (zc 3) (zc 1))) (vt (mC (.b false))) yB)
  (yk (KU (Xe (zb (zg vq (zb (zc 4) zk)) zk)) vz qe)
  (vt (mC (.b true)))))
def yW:List PV->Out PV:=ZI false 9 U6
abbrev jP:MG:=
  (gNm 0)
abbrev jQ:MT:=
  lB
abbrev jR:ME:=
  (zg qW (zb (zc 0) zk))
abbrev Vi:HMS:=
  (qd (kA 2 (sL [false,false,true] (mLC (ye (zc 2)) [none] jP jQ (mLI jR))))
  (qd (kA 3 (hP [true,true] (zg zf (zb (zc 0) (zb (zc 1) (zb (mC (.i 10)) zk))))))
  (qd (kA 4 (hP [true,true,true] (zg zf (zb (zc 0) (zb (mOp zP (zc 1) `f) (zb (zg Dq (zb `f (zb (zg vq (zb (zc 2) zk)) zk))) zk))))))
  (qd (hIf (hPT [false,false,false,true] (zU (mOp (jG false) (zc 3) (mC (.i 7))))) (n6 (zT 2) (zJ (zT 4) (zJ (hP [] (vC zk)) Je))) qv)
  (qd (hIf (hPT [false,false,true,false,true] (mOr (zU (mOp pGe (zc 4) (zg vq (zb (zc 2) zk)))) (zU (mOp (jG false) (mOp pIx (zc 2) (zc 4)) (vC zk))))) (lL (zT 2)) qv)
  (qd (kA 5 (hIx (zT 2) (zT 4)))
  (qd (kA 6 (hP [true,true,false,false,false,true] (zg zf (zb (zc 0) (zb (mOp zP (zc 1) (mC (.i 2))) (zb (zg vq (zb (zc 5) zk)) zk))))))
  (qd (hIf (hPT [false,false,false,true] (zU (mOp (jG false) (zc 3) `f))) (Xf (zT 5) (zT 6)) qv)
  (qd (hIf (hPT [false,false,false,true] (zU (mOp (jG false) (zc 3) (mC (.i 2))))) (sI (hIx (zT 2) (hP [true,true,true] (zg zf (zb (zc 0) (zb (mOp zP (zc 1) (mC (.i 3))) (zb (zg vq (zb (zc 2) zk)) zk)))))) (hP [false,false,false,false,false,true,true] (mOp pIx (zc 5) (zc 6)))) qv)
  (qd (hIf (hPT [false,false,false,true] (zU (mOp (jG false) (zc 3) (mC (.i 3))))) (gm (zT 5)) qv)
  (qd (hIf (hPT [false,false,false,true] (zU (mOp (jG false) (zc 3) (mC (.i 4))))) (n6 (zT 5) (zJ (zT 6) (zJ (hP [true,true] (mOp pIx (vC (zb (mC (.s "none")) (zb (mC (.s "")) (zb (mC (.s "xx")) zk)))) (zg zf (zb (zc 0) (zb (mOp zP (zc 1) (mC (.i 4))) (zb (mC (.i 3)) zk)))))) Je))) qv)
  (qd (hIf (hPT [false,false,false,true,true] (cQ (zU (mOp (jG false) (zc 3) (mC (.i 5)))) (zU (mOp pGt (zc 4) (mC (.i 0)))))) (qd (df (zT 2) (hP [false,false,false,false,true] (mOp Wv (zc 4) `f)) (hF [false,false,true,false,true,true] (mOp lE (mOp pIx (zc 2) (mOp Wv (zc 4) `f)) (zc 5))))
  (Xf (zT 2) (zT 4))) qv)
  (qd (hIf (hPT [false,false,false,true] (zU (mOp (jG false) (zc 3) (mC (.i 6))))) (qd (n6 (zT 2) (zJ (hP [false,false,false,false,true] (mOp zP (zc 4) `f)) (zJ (hF [false,false,false,false,false,true,true] (mSl sG (zc 5) (wZ (zc 6)) iJ)) Je)))
  (df (zT 2) (zT 4) (hF [false,false,false,false,false,true,true] (mSl sG (zc 5) iJ (wZ (zc 6)))))) qv)
  (qd (hIf (hPT [false,false,false,true] (zU (mOp (jG false) (zc 3) (mC (.i 8))))) (Xf (zT 2) (zT 4)) qv)
  (lL (zT 2))))))))))))))))
def Yh:List HV->AH->HX HV:=uY 7 Vi
abbrev Zo:HMG:=
  (hgN 7)
abbrev Zp:HMS:=
  (qd (kA 8 (hP [false,true,false,false,false,false,true,true] (mOp zP (zc 6) (vC (zb (mOp pIx (zc 1) (zc 7)) zk)))))
  (hIf (hPT [true,false,true,false,true,false,true,false,true] (cQ (zU (mOp (jG true) (zc 6) (vC zk))) (zU (mOp pLe (zg ym (zb (zc 0) (zb (zc 2) (zb (zc 8) zk)))) (zc 4))))) (qd (sI (hIx (zT 5) (hP [] (mUn iI `f))) (zT 7))
  (kA 6 (zT 8))) (qd (sI (zT 5) (hF [false,false,false,false,false,false,false,true] (vC (zb (zc 7) zk))))
  (kA 6 (hP [false,true,false,false,false,false,false,true] (vC (zb (mOp pIx (zc 1) (zc 7)) zk)))))))
abbrev WG:HMS:=
  (qd (kA 5 (hF [] (vC zk)))
  (qd (kA 6 (hP [] (vC zk)))
  (qd (rH (zT 3) Zo Zp)
  (lL (zT 5)))))
def qC:List HV->AH->HX HV:=uY 9 WG
abbrev Vj:MG:=
  (gNm 8)
abbrev Yi:MS:=
  (yk (qJ 9 (mOp pIx (zc 1) (zg zf (zb (zc 0) (zb (mOp zP (mC (.i 40)) (mOp jZ (mC (.i 5)) (zc 8))) (zb (zg vq (zb (zc 1) zk)) zk))))))
  (yk (sIf (zU (gj true (zb (zc 6) (zb (zc 9) zk)) (zc 2))) (qJ 9 (zc 6)) yB)
  (yk (qJ 10 (mOp pIx (zc 1) (zg zf (zb (zc 0) (zb (mOp zP (mC (.i 41)) (mOp jZ (mC (.i 5)) (zc 8))) (zb (zg vq (zb (zc 1) zk)) zk))))))
  (yk (sIf (zU (gj true (zb (zc 9) (zb (zc 10) zk)) (zc 2))) (qJ 10 (zc 9)) yB)
  (yk (qJ 11 (mOp jZ (zg zf (zb (zc 0) (zb (mOp zP (mC (.i 42)) (mOp jZ (mC (.i 5)) (zc 8))) (zb (mC (.i 2)) zk)))) (zg zf (zb (zc 0) (zb (mOp zP (mC (.i 43)) (mOp jZ (mC (.i 5)) (zc 8))) (zb (mOp jZ (mC (.i 30)) (zc 3)) zk))))))
  (yk (qJ 12 (mOp jZ (mOp Jj (zg zf (zb (zc 0) (zb (mOp zP (mC (.i 44)) (mOp jZ (mC (.i 5)) (zc 8))) (zb (mC (.i 3)) zk)))) (mC (.i 2))) (zg zf (zb (zc 0) (zb (mOp zP (mC (.i 45)) (mOp jZ (mC (.i 5)) (zc 8))) (zb (mOp jZ (mC (.i 30)) (zc 3)) zk))))))
  (yk (qJ 13 (mOp zP (mOp zP (zc 7) (iK (zc 2) (zb (zc 6) (zb (zc 9) zk)))) (zc 11)))
  (yk (qJ 7 (zg Dq (zb (mOp zP (zc 13) `f) (zb (mOp zP (mOp zP (zc 13) (iK (zc 2) (zb (zc 9) (zb (zc 10) zk)))) (zc 12)) zk))))
  (yk (Dv 5 (i9 (zb (zg qR (zb (zc 0) (zb (mC (.i 7)) (zb (zc 8) zk)))) (zb (zc 9) (zb (zc 10) (zb (zc 13) (zb (zc 7) (zb (zg zf (zb (zc 0) (zb (mOp zP (mC (.i 46)) (mOp jZ (mC (.i 5)) (zc 8))) (zb (mC (.i 7)) zk)))) zk))))))))
  (qJ 6 (zc 10)))))))))))
abbrev U7:MS:=
  (yk (qJ 5 (vC zk))
  (yk (qJ 6 (mOp pIx (zc 1) (zg zf (zb (zc 0) (zb (mC (.i 5)) (zb (zg vq (zb (zc 1) zk)) zk))))))
  (yk (qJ 7 (mOp zP (mOp jZ (mC (.i 150)) (zc 3)) (zg zf (zb (zc 0) (zb (mC (.i 6)) (zb (mOp jZ (mC (.i 1440)) (zc 3)) zk))))))
  (yk (KU (Xe (zb (zc 4) zk)) Vj Yi)
  (vt (zc 5))))))
def ke:List PV->Out PV:=ZI true 14 U7
abbrev WH:MS:=
  (sIf (zU (mOp pGt (zg vq (zb (zc 0) zk)) (zc 1))) (vL 3 ["most"] (zb (zc 1) zk)) yB)
def yQ:List PV->Out PV:=ZI false 2 WH
abbrev Yz:MG:=
  (gNm 1)
abbrev je:MS:=
  (sIf (zU (mOp (pIn true) (zc 1) (mC (.s "abcdefghijklmnopqrstuvwxyz0123456789")))) (vL 1 ["name"] (zb (zc 0) zk)) yB)
abbrev Jw:MS:=
  (yk (sIf (mOr (zU (mOp pLt (zg vq (zb (zc 0) zk)) `f)) (zU (mOp pGt (zg vq (zb (zc 0) zk)) (mC (.i 12))))) (vL 1 ["name"] (zb (zc 0) zk)) yB)
  (yk (KU (gh (zc 0)) Yz je)
  (vt (zc 0))))
def qp:List PV->Out PV:=ZI false 2 Jw
abbrev Vk:MS:=
  (sIf (zU (mOp (pIn true) (zc 0) (zc 1))) (vL 5 ["name"] (zb (zc 0) zk)) yB)
def yi:List PV->Out PV:=ZI false 2 Vk
abbrev YA:MS:=
  (yk (sIf (mOr (zU (mOp pLt (zc 0) (zc 1))) (zU (mOp pGt (zc 0) (mC (.i 1000000000))))) (vL 2 ["value"] (zb (zc 0) zk)) yB)
  (vt (zc 0)))
def zX:List PV->Out PV:=ZI false 2 YA
abbrev WI:MS:=
  (yk (sIf (zU (mOp (pIn true) (zc 1) (Kj [10] "by_name" (zc 0)))) (vL 7 ["name"] (zb (zc 1) zk)) yB)
  (vt (mOp pIx (Kj [10] "by_name" (zc 0)) (zc 1))))
def zB:List PV->Out PV:=ZI false 2 WI
abbrev wL:MS:=
  (yk (jo (zg qp (zb (zc 0) zk)))
  (yk (sIf (zU (mOp (pIn false) (zc 0) (zc 1))) (vL 4 ["name"] (zb (zc 0) zk)) yB)
  (vt (zc 0))))
def z9:List PV->Out PV:=ZI false 2 wL
abbrev Jx:MS:=
  (yk (jo (zg yi (zb (zc 1) (zb (Kj [11] "places" (zc 0)) zk))))
  (yk (jo (zg yi (zb (zc 2) (zb (Kj [11] "places" (zc 0)) zk))))
  (vt (NL (mOp pIx (Kj [11] "lengths" (zc 0)) (zc 1)) (zc 2)))))
def zA:List PV->Out PV:=ZI false 3 Jx
abbrev v_:MG:=
  (gNm 2)
abbrev wa:MS:=
  (jo (kX [(10,zB)] "trip" (zc 0) (zb (zc 2) zk)))
abbrev Vl:MS:=
  (KU (ye (zc 1)) v_ wa)
def qT:List PV->Out PV:=ZI false 3 Vl
abbrev Jy:MG:=
  (gTp 3 (wA (gNm 2) (wA (gNm 3) (wA (gNm 4) rq))))
abbrev kG:MS:=
  (yk (jo (zg yi (zb (zc 2) (zb (zc 0) zk))))
  (yk (jo (zg yi (zb (zc 3) (zb (zc 0) zk))))
  (jo (zg zX (zb (zc 4) (zb `f zk))))))
abbrev WJ:MS:=
  (KU (ye (zc 1)) Jy kG)
def jC:List PV->Out PV:=ZI false 5 WJ
abbrev WK:MS:=
  (yk (jo (zg z9 (zb (mOp pIx (zc 1) (mC (.i 0))) (zb (zc 2) zk))))
  (yk (qJ 3 (kX [(11,zA)] "length" (zc 0) (zb (mOp pIx (zc 1) `f) (zb (mOp pIx (zc 1) (mC (.i 2))) zk))))
  (yk (jo (zg zX (zb (mOp pIx (zc 1) (mC (.i 3))) (zb (mC (.i 0)) zk))))
  (yk (jo (zg zX (zb (mOp pIx (zc 1) (mC (.i 4))) (zb (mC (.i 0)) zk))))
  (yk (jo (zg zX (zb (mOp pIx (zc 1) (mC (.i 5))) (zb (mC (.i 0)) zk))))
  (yk (sIf (zU (mOp pLe (mOp pIx (zc 1) (mC (.i 4))) (mOp pIx (zc 1) (mC (.i 3))))) (vL 8 ["name"] (zb (mOp pIx (zc 1) (mC (.i 0))) zk)) yB)
  (yk (sIf (zU (mOp (By false) (zc 3) (mC .n))) (vL 6 ["origin","goal"] (zb (mOp pIx (zc 1) `f) (zb (mOp pIx (zc 1) (mC (.i 2))) zk))) yB)
  (sIf (zU (mOp pLt (mOp Wv (mOp pIx (zc 1) (mC (.i 4))) (mOp pIx (zc 1) (mC (.i 3)))) (zc 3))) (vL 9 ["name"] (zb (mOp pIx (zc 1) (mC (.i 0))) zk)) yB))))))))
def qD:List PV->Out PV:=ZI false 4 WK
abbrev Gp:MS:=
  (yk (qJ 3 (kX [(10,zB)] "trip" (zc 0) (zb (zc 1) zk)))
  (yk (qJ 4 (kX [(10,zB)] "trip" (zc 0) (zb (zc 2) zk)))
  (yk (qJ 5 (kX [(11,zA)] "length" (Kj [10] "roads" (zc 0)) (zb (mOp pIx (zc 3) (mC (.i 2))) (zb (mOp pIx (zc 4) `f) zk))))
  (yk (sIf (zU (mOp (By false) (zc 5) (mC .n))) (vt (mC .n)) yB)
  (vt (mOp Wv (mOp Wv (mOp pIx (zc 4) (mC (.i 3))) (mOp pIx (zc 3) (mC (.i 4)))) (zc 5)))))))
def rV:List PV->Out PV:=ZI false 6 Gp
abbrev U8:MS:=
  (sIf (zU (mOp (By false) (kX [(11,zA)] "length" (zc 0) (zb (zc 1) (zb (zc 2) zk))) (mC .n))) (vL 6 ["origin","goal"] (zb (zc 1) (zb (zc 2) zk))) yB)
def jr:List PV->Out PV:=ZI false 3 U8
abbrev YB:MG:=
  (gNm 2)
abbrev jf:MS:=
  (yk (jo (zg z9 (zb (zc 2) (zb (zc 1) zk))))
  (FC 1 (zc 2) (mC (.b true))))
abbrev Jz:MS:=
  (yk (qJ 1 BK)
  (KU (ye (zc 0)) YB jf))
def qq:List PV->Out PV:=ZI false 3 Jz
abbrev jS:HMG:=
  (hgN 3)
abbrev y8:HMS:=
  (qd (UB (hP [true,true,false,true] (zg qD (zb (zc 1) (zb (zc 3) (zb (Kj [10] "by_name" (zc 0)) zk))))))
  (LX (LQ [10] "by_name" (zT 0)) (hP [false,false,false,true] (mOp pIx (zc 3) (mC (.i 0)))) (zT 3)))
abbrev wb:MG:=
  (gNm 0)
abbrev wc:MT:=
  lB
abbrev wd:ME:=
  (mOp pIx (zc 0) (mC (.i 0)))
abbrev vA:HMS:=
  (qd (UB (hP [false,false,true] (zg yQ (zb (zc 2) (zb (mC (.i 40)) zk)))))
  (qd (dq [10] "roads" (zT 0) (zT 1))
  (qd (dq [10] "by_name" (zT 0) (hF [] BK))
  (qd (FV [false,false,true] (ye (zc 2)) jS y8)
  (dq [10] "order" (zT 0) (hP [false,false,true] (mLC (ye (nZ zI (zb (zc 2) zk))) [none] wb wc wd)))))))
def Yj:List HV->AH->HX HV:=uY 4 vA
abbrev om:MS:=
  (yk (qJ 3 (zg rV (zb (zc 0) (zb (zc 1) (zb (zc 2) zk)))))
  (vt (rl (mOp (By true) (zc 3) (mC .n)) (mOp pGe (zc 3) (mC (.i 0))))))
def Yk:List PV->Out PV:=ZI false 4 om
abbrev Qx:MG:=
  (gNm 0)
abbrev Qy:MT:=
  lB
abbrev Qz:ME:=
  (i9 (zb (zc 0) (zb (zg yE (zb (zc 0) (zb (zc 1) zk))) zk)))
abbrev wM:MS:=
  (yk (jo (zg yQ (zb (zc 1) (zb (mC (.i 12)) zk))))
  (yk (jo (zg yQ (zb (zc 2) (zb (mC (.i 60)) zk))))
  (yk (jo (zg qq (zb (zc 1) zk)))
  (yk (jo (zg jC (zb (zc 1) (zb (zc 2) zk))))
  (yk (lz 0 [11] "places" (zg qW (zb (zc 1) zk)))
  (yk (lz 0 [11] "ways" (zg qW (zb (zc 2) zk)))
  (lz 0 [11] "lengths" (zg Uz (zb (mLC (ye (zc 1)) [none,some 2] Qx Qy Qz) zk)))))))))
def qE:List PV->Out PV:=OD 11 2 wM
abbrev k_:MG:=
  (gTp 2 (wA (gNm 2) (wA (gNm 3) rq)))
abbrev vc:MS:=
  (sIf (sF (zU (zg Yk (zb (zc 0) (zb (zc 2) (zb (zc 3) zk)))))) (vL 12 ["first","second"] (zb (zc 2) (zb (zc 3) zk))) yB)
abbrev JA:MS:=
  (yk (jo (zg qT (zb (zc 0) (zb (zc 1) zk))))
  (KU (AV (zb (zc 1) (zb (mSl pSl (zc 1) (wZ `f) iJ) zk))) k_ vc))
def qr:List PV->Out PV:=ZI false 4 JA
abbrev U9:MS:=
  (yk (jo (zg yi (zb (zc 1) (zb (kX [(11,yq)] "names" (Kj [10] "roads" (zc 0)) zk) zk))))
  (jo (zg qr (zb (zc 0) (zb (zc 2) zk)))))
def yX:List PV->Out PV:=ZI false 3 U9
abbrev Vm:MS:=
  (yk (jo (zg yX (zb (zc 0) (zb (zc 1) (zb (zc 2) zk)))))
  (sIf (zU (mOp pGt (zg vq (zb (zc 2) zk)) (mC (.i 0)))) (yk (jo (zg jr (zb (Kj [10] "roads" (zc 0)) (zb (zc 1) (zb (mOp pIx (kX [(10,zB)] "trip" (zc 0) (zb (mOp pIx (zc 2) (mC (.i 0))) zk)) `f) zk)))))
  (jo (zg jr (zb (Kj [10] "roads" (zc 0)) (zb (mOp pIx (kX [(10,zB)] "trip" (zc 0) (zb (mOp pIx (zc 2) (mUn iI `f)) zk)) (mC (.i 2))) (zb (zc 1) zk)))))) yB))
def qf:List PV->Out PV:=ZI false 3 Vm
abbrev YC:MG:=
  (gNm 5)
abbrev jg:MS:=
  (yk (qJ 6 (kX [(10,zB)] "trip" (zc 0) (zb (zc 5) zk)))
  (yk (Lp 4 (pI λa b=>.i (a+b)) (mOp Wv (mOp zP (kX [(11,zA)] "length" (Kj [10] "roads" (zc 0)) (zb (zc 3) (zb (mOp pIx (zc 6) `f) zk))) (mOp pIx (zc 6) (mC (.i 4)))) (mOp pIx (zc 6) (mC (.i 3)))))
  (qJ 3 (mOp pIx (zc 6) (mC (.i 2))))))
abbrev JB:MS:=
  (yk (jo (zg qf (zb (zc 0) (zb (zc 1) (zb (zc 2) zk)))))
  (yk (qJ 3 (zc 1))
  (yk (qJ 4 (mC (.i 0)))
  (yk (KU (ye (zc 2)) YC jg)
  (vt (mOp zP (zc 4) (kX [(11,zA)] "length" (Kj [10] "roads" (zc 0)) (zb (zc 3) (zb (zc 1) zk)))))))))
def zK:List PV->Out PV:=ZI false 7 JB
abbrev Vn:MS:=
  (sIf (zU (mOp pGt (zg zK (zb (zc 0) (zb (zc 1) (zb (vC (zb (zc 2) zk)) zk)))) (zc 3))) (vL 13 ["name"] (zb (zc 2) zk)) yB)
def qg:List PV->Out PV:=ZI false 4 Vn
abbrev JC:MG:=
  (gNm 4)
abbrev JD:MS:=
  (jo (zg qg (zb (zc 0) (zb (zc 1) (zb (zc 4) (zb (zc 3) zk))))))
abbrev WL:MS:=
  (yk (lV [1,2,3,4,5,6,7,8,9,12,13] (yk (jo (zg yX (zb (zc 0) (zb (zc 1) (zb (zc 2) zk)))))
  (KU (ye (zc 2)) JC JD)) false)
  (vt (mC (.b true))))
def yF:List PV->Out PV:=ZI false 5 WL
abbrev oq:HMG:=
  (hgN 4)
abbrev ot:HMS:=
  (UB (hP [true,true,false,true,true] (zg qg (zb (zc 0) (zb (zc 1) (zb (zc 4) (zb (zc 3) zk)))))))
abbrev dP:HMG:=
  (hgN 4)
abbrev dQ:HMS:=
  (hIf (hPT [true,true,false,true,true,true] (cQ (zU (mOp pGt (zg vq (zb (zc 5) zk)) (mC (.i 0)))) (zU (mOp pLe (zg zK (zb (zc 0) (zb (zc 1) (zb (mOp zP (mOp pIx (zc 5) (mUn iI `f)) (vC (zb (zc 4) zk))) zk)))) (zc 3))))) (sI (hIx (zT 5) (hP [] (mUn iI `f))) (zT 4)) (sI (zT 5) (hF [false,false,false,false,true] (vC (zb (zc 4) zk)))))
abbrev D6:HMS:=
  (qd (UB (hP [true,true,true] (zg yX (zb (zc 0) (zb (zc 1) (zb (zc 2) zk))))))
  (qd (rH (zT 2) oq ot)
  (qd (kA 5 (hF [] (vC zk)))
  (qd (rH (zT 2) dP dQ)
  (lL (zT 5))))))
def bY:List HV->AH->HX HV:=uY 6 D6
abbrev Xl:MG:=
  (gNm 0)
abbrev Xm:MT:=
  lB
abbrev Xn:ME:=
  (mOp pGt (zg zK (zb (zc 1) (zb (zc 2) (zb (zc 0) zk)))) (zc 3))
abbrev YD:MG:=
  (gTp 2 (wA (gNm 0) (wA (gNm 1) rq)))
abbrev YE:MT:=
  lB
abbrev YF:ME:=
  (mOp zP (zc 0) (mSl pSl (zc 1) iJ (wZ `f)))
abbrev Xo:MG:=
  (gNm 0)
abbrev Xp:MT:=
  lB
abbrev Xq:ME:=
  (mOp pGt (zg zK (zb (zc 1) (zb (zc 2) (zb (zc 0) zk)))) (zc 3))
abbrev Vo:MS:=
  (yk (sIf (sF (zU (zg yF (zb (zc 0) (zb (zc 1) (zb (zc 2) (zb (zc 3) zk))))))) (vt (mC (.b false))) yB)
  (yk (sIf (mOr (zU (mOp Mg (vC zk) (zc 4))) (zU (mOp (jG true) (zg U4 (zb (zc 4) zk)) (zc 2)))) (vt (mC (.b false))) yB)
  (yk (sIf (zU (zg Hq (zb (mLC (ye (zc 4)) [none,some 0,some 1,some 3] Xl Xm Xn) zk))) (vt (mC (.b false))) yB)
  (yk (qJ 5 (mLC (AV (zb (zc 4) (zb (mSl pSl (zc 4) (wZ `f) iJ) zk))) [none,none] YD YE YF))
  (vt (zg Ho (zb (mLC (ye (zc 5)) [none,some 0,some 1,some 3] Xo Xp Xq) zk)))))))
def zZ:List PV->Out PV:=ZI false 6 Vo
abbrev Vp:MG:=
  (gNm 0)
abbrev Vq:MT:=
  lB
abbrev Vr:ME:=
  (zg qW (zb (zc 0) zk))
abbrev bZ:MS:=
  (yk (qJ 6 (vC (zb (zg qW (zb (zc 2) zk)) (zb (mLC (ye (zc 4)) [none] Vp Vq Vr) zk))))
  (yk (qJ 7 (zg zZ (zb (zc 0) (zb (zc 1) (zb (mOp pIx (zc 6) (mC (.i 0))) (zb (zc 3) (zb (mOp pIx (zc 6) `f) zk)))))))
  (vt (rl (mUn (PB [(.bool,true),(.int,false)]) (zc 7)) (rl (mOp (jG false) (zc 7) (zc 5)) (mOp (jG false) (zc 6) (vC (zb (zc 2) (zb (zc 4) zk)))))))))
def yG:List PV->Out PV:=ZI false 8 bZ
abbrev ou:MG:=
  (gNm 0)
abbrev ow:MT:=
  lB
abbrev oy:ME:=
  (zg qR (zb (zc 1) (zb (mC (.i 0)) (zb (zc 0) zk))))
abbrev oz:MG:=
  (gNm 0)
abbrev oA:MT:=
  lB
abbrev oB:ME:=
  (i9 (zb (mOp pIx (zc 0) (mC (.i 0))) (zb (zc 0) zk)))
abbrev oC:MG:=
  (gNm 0)
abbrev oE:MT:=
  lB
abbrev oF:ME:=
  (mOp pIx (zc 0) (mC (.i 0)))
abbrev Vs:MG:=
  (gNm 0)
abbrev Vt:MT:=
  lB
abbrev Vu:ME:=
  (vC (zb (zc 0) zk))
abbrev D7:HMS:=
  (qd (kA 1 (hP [true] (mOp pIx (vC (zb `f (zb (mC (.i 40)) (zb (mC (.i 100000)) zk)))) (zg zf (zb (zc 0) (zb (mC (.i 3)) (zb (mC (.i 3)) zk)))))))
  (qd (kA 2 (hP [true] (mLC (Xe (zb (mOp zP `f (zg zf (zb (zc 0) (zb (mC (.i 2)) (zb (mC (.i 5)) zk))))) zk)) [none,some 0] ou ow oy)))
  (qd (kA 3 (hP [true,true,true] (zg vF (zb (zc 0) (zb (zc 2) (zb (zc 1) (zb (mOp pGt (zg zf (zb (zc 0) (zb (mC (.i 9)) (zb (mC (.i 4)) zk)))) (mC (.i 0))) zk)))))))
  (qd (kA 4 (hP [false,false,true,true] (zg qQ (zb (zc 2) (zb (zc 3) zk)))))
  (qd (kA 5 (hP [true,true,true,false,true] (zg ke (zb (zc 0) (zb (zc 2) (zb (zc 4) (zb (zc 1) (zb (zg zf (zb (zc 0) (zb (mC (.i 8)) (zb (mC (.i 9)) zk)))) zk))))))))
  (qd (kA 6 (Mb 10 Yj (zJ (hP [false,false,true,true] (zg qE (zb (zg qW (zb (zc 2) zk)) (zb (zg qW (zb (zc 3) zk)) zk)))) (zJ (hP [false,false,false,false,false,true] (zg qW (zb (zc 5) zk))) Je))))
  (qd (kA 7 (hP [false,false,false,false,false,true] (zg Uz (zb (mLC (ye (zc 5)) [none] oz oA oB) zk))))
  (qd (kA 8 (hP [true,false,true] (mOp pIx (zc 2) (zg zf (zb (zc 0) (zb (mC (.i 18)) (zb (zg vq (zb (zc 2) zk)) zk)))))))
  (qd (kA 9 (hF [false,false,false,false,false,true] (mLC (ye (zc 5)) [none] oC oE oF)))
  (qd (kA 10 (hP [true,false,false,false,true,true,false,false,true] (zg jq (zb (zc 0) (zb (zc 4) (zb (zc 8) (zb (zc 5) zk)))))))
  (qd (hIf (hPT [false,false,true,false,true,false,false,true,true,true,true] (zU (zg yW (zb (zc 4) (zb (zc 2) (zb (zc 7) (zb (zc 8) (zb (zc 9) (zb (zc 10) zk))))))))) (qd (kA 11 (K5 bY (zJ (zT 6) (zJ (zT 8) (zJ (hF `h (zg qW (zb (zc 9) zk))) (zJ (zT 10) Je))))))
  (hIf (hPT [false,false,false,false,false,false,true,false,true,true,true,true] (sF (zU (zg yG (zb (zc 6) (zb (zc 8) (zb (zc 9) (zb (zc 10) (zb (zc 11) (zb (mC (.b true)) zk)))))))))) (lL (hP [] (mC (.b false)))) qv)) qv)
  (qd (hIf (hPT [true] (zU (mOp (jG false) (zg zf (zb (zc 0) (zb (mC (.i 63)) (zb (mC (.i 8)) zk)))) `f))) (gm (zT 9)) qv)
  (qd (kA 12 (hP [true] (mOp pIx (vC (zb (mC (.s "none")) (zb (mC (.s "")) (zb (mC (.s "xx")) zk)))) (zg zf (zb (zc 0) (zb (mC (.i 66)) (zb (mC (.i 3)) zk)))))))
  (qd (hIf (hPT [true] (zU (mOp (jG false) (zg zf (zb (zc 0) (zb (mC (.i 64)) (zb (mC (.i 8)) zk)))) `f))) (n6 (zT 9) (zJ (hP [true,false,false,false,false,false,false,false,false,true] (zg zf (zb (zc 0) (zb (mC (.i 65)) (zb (mOp zP `f (zg vq (zb (zc 9) zk))) zk))))) (zJ (zT 12) Je))) qv)
  (qd (hIf (hPT [true] (zU (mOp (jG false) (zg zf (zb (zc 0) (zb (mC (.i 67)) (zb (mC (.i 8)) zk)))) `f))) (kA 8 (zT 12)) qv)
  (qd (kA 13 (hP [false,false,true,false,true,false,false,true,true,true,true] (zg yW (zb (zc 4) (zb (zc 2) (zb (zc 7) (zb (zc 8) (zb (zc 9) (zb (zc 10) zk)))))))))
  (qd (kA 11 (hIx (AU (zJ (sL `h (mLC (ye (zc 9)) [none] Vs Vt (mLI Vu))) (zJ (AU (zJ (hF `h (zg qW (zb (zc 9) zk))) Je)) Je))) (hP [true] (zg zf (zb (zc 0) (zb (mC (.i 68)) (zb (mC (.i 2)) zk)))))))
  (qd (hIf (hPT [true,false,false,false,false,false,false,false,false,false,false,false,false,true] (cQ (zU (zc 13)) (zU (mOp pGt (zg zf (zb (zc 0) (zb (mC (.i 69)) (zb (mC (.i 3)) zk)))) (mC (.i 0)))))) (kA 11 (K5 qC (zJ (zT 4) (zJ (zT 7) (zJ (zT 8) (zJ (zT 9) (zJ (zT 10) Je))))))) qv)
  (qd (kA 14 (rK (zT 13) (hOp (jG false) (zT 11) (K5 qC (zJ (zT 4) (zJ (zT 7) (zJ (zT 8) (zJ (zT 9) (zJ (zT 10) Je)))))))))
  (qd (hIf (hPT [false,false,false,false,false,false,true,false,true,true,true,true,false,false,true] (sF (zU (zg yG (zb (zc 6) (zb (zc 8) (zb (zc 9) (zb (zc 10) (zb (zc 11) (zb (zc 14) zk)))))))))) (lL (hP [] (mC (.b false)))) qv)
  (qd (kA 11 (K5 Yh (zJ (zT 0) (zJ (hP [] (mC (.i 100))) (zJ (zT 11) Je)))))
  (qd (kA 14 (rK (zT 13) (hOp (jG false) (zT 11) (K5 qC (zJ (zT 4) (zJ (zT 7) (zJ (zT 8) (zJ (zT 9) (zJ (zT 10) Je)))))))))
  (lL (hP [false,false,false,false,false,false,true,false,true,true,true,true,false,false,true] (zg yG (zb (zc 6) (zb (zc 8) (zb (zc 9) (zb (zc 10) (zb (zc 11) (zb (zc 14) zk)))))))))))))))))))))))))))))))
def D8:List HV->AH->HX HV:=uY 15 D7
def zu(T:Txt K mg a):y_ P w K mg base (CXe P w) 1 a.zf a.cq ["_law_script","_law_k","_law_many"] (lsp (WW K a) false [true,true,true] zf):=
 zL (S':=[1,1,1,0]) (Sb:=[]) (Sc:=[]) T.zp.F Kr rfl rfl rfl `b λc A b s H E d=>
  (zh (se 3 Kr.nd ei)
   (zh (qw (yI Ji Jk (qZ rfl T.vS (za (ev 0) zd)) ei (yH _))
    (zr (se 3 Kr.nd (zE Z1 Z2 (ix d (ev 0) (zE Z1 Z2 (ev 1) (qZ rfl T.vS (za (ev 0) zd)))) ei)))
    yo)
   (zr (yN (zE Z1 Z2 (zE uf ug (zE Z1 Z2 (zE yS yT (zE zF zG (zE zF zG (ev 3) (zE yS yT ei (ev 1))) ei) (zE zF zG ei (zE yS yT (ev 1) (ev 1)))) ei) ei) (ev 2))))))
def dR(T:Txt K mg a):y_ P w K mg base (CXe P w) 1 a.qQ a.VE ["_law_places","_law_ways_here"] (lsp (WW K a) true [true,true] qQ):=
 zL (ms:=Ve) (S':=[1,1,0,0,0,0,0,0,0]) (Sb:=[]) (Sc:=[]) T.qN.F yf rfl rfl rfl `b λd A c s H E b=>
  (zh (V5 (i:=2) yf.nd rfl (.inl rfl) B5)
   (zh (jt (zH ⟨rfl,rfl⟩) rfl (wB (ZO (pv 0))) (gn 3 yf.nd)
    (zr (lR (y6 b) (pv 2) (za (zi (pv 3)) (za (zi (pv 3)) zd)) ei)))
   (zh (jt (zH ⟨rfl,rfl⟩) rfl (wB (ZO (pv 1))) (fT (n:=3) rfl (j7 (gn 4 yf.nd) (j7 (gn 5 yf.nd) (j7 (gn 6 yf.nd) fS ZP) ZP) ZP))
    (zr (qw (TWM.tm (aI (vN (y6 b) (za (zi (pv 4)) (za (zi (pv 5)) zd)) (ev 2)) (Jo (yI pM rg (ev 6) (Jr (y6 b) (ev 2) (za (zi (pv 4)) (za (zi (pv 5)) zd))) (yH _)))))
    (zr (lR (y6 b) (pv 2) (za (zi (pv 4)) (za (zi (pv 5)) zd)) (zi (pv 6))))
    yo)))
   (zh (jt (zH ⟨rfl,rfl⟩) rfl (wB (ZO (pv 0))) (gn 7 yf.nd)
    (zr (jt (zH ⟨rfl,rfl⟩) rfl (wB (ZO (pv 0))) (gn 4 yf.nd)
    (zr (jt (zH ⟨rfl,rfl⟩) rfl (wB (ZO (pv 0))) (gn 5 yf.nd)
    (zr (qw (TWM.tm (fQ (DI (y6 b) (za (zi (pv 4)) (za (zi (pv 7)) zd)) (ev 2)) (Uk (DI (y6 b) (za (zi (pv 7)) (za (zi (pv 5)) zd)) (ev 2)))))
    (zh (se 8 yf.nd (zE zF zG (Jr (y6 b) (ev 2) (za (zi (pv 4)) (za (zi (pv 7)) zd))) (Jr (y6 b) (ev 2) (za (zi (pv 7)) (za (zi (pv 5)) zd)))))
   (zr (qw (TWM.tm (aI (vN (y6 b) (za (zi (pv 4)) (za (zi (pv 5)) zd)) (ev 2)) (Jo (yI pM rg (ev 8) (Jr (y6 b) (ev 2) (za (zi (pv 4)) (za (zi (pv 5)) zd))) (yH _)))))
    (zr (lR (y6 b) (pv 2) (za (zi (pv 4)) (za (zi (pv 5)) zd)) (zi (pv 8))))
    yo)))
    yo)))))))
   (zr (Uq (pv 2)))))))
def bb(T:Txt K mg a):y_ P w K mg base (CXe P w) 1 a.Zs a.Zx ["self","most"] (sH a.kQ ["most"]):=by
 refine T.aR.okX UG (λf H Q E h=>by obtain⟨e,d,rfl,b,_⟩:=h;rw[R4,b];rfl) λg A c s H f Q E j h=>?_;obtain⟨e,d,rfl,b,i,k⟩:=h
 match d,b with
 |[v],_=>exact⟨_,j4 (j5 (pv 0) (pv 1) rfl),_,rfl,_,rfl,e,a.kQ,.none,rfl,T.gM,T.UZ,.inl ⟨i,k⟩⟩
def JE(T:Txt K mg a):y_ P w K mg base (CXe P w) 1 a.Zt a.Zy ["self","name"] (sH a.kO ["name"]):=by
 refine T.aT.okX UH (λf H Q E h=>by obtain⟨e,d,rfl,b,_⟩:=h;rw[R4,b];rfl) λg A c s H f Q E j h=>?_;obtain⟨e,d,rfl,b,i,k⟩:=h
 match d,b with
 |[v],_=>exact⟨_,j4 (j5 (pv 0) (pv 1) rfl),_,rfl,_,rfl,e,a.kO,.none,rfl,T.UW,T.UX,.inl ⟨i,k⟩⟩
def gQ(T:Txt K mg a):y_ P w K mg base (CXe P w) 1 a.QH a.QK ["self","name"] (sH a.QF ["name"]):=by
 refine T.gA.okX dy (λf H Q E h=>by obtain⟨e,d,rfl,b,_⟩:=h;rw[R4,b];rfl) λg A c s H f Q E j h=>?_;obtain⟨e,d,rfl,b,i,k⟩:=h
 match d,b with
 |[v],_=>exact⟨_,j4 (j5 (pv 0) (pv 1) rfl),_,rfl,_,rfl,e,a.QF,.none,rfl,T.xq,T.dJ,.inl ⟨i,k⟩⟩
def bc(T:Txt K mg a):y_ P w K mg base (CXe P w) 1 a.Zu a.Zz ["self","name"] (sH a.kR ["name"]):=by
 refine T.aU.okX UI (λf H Q E h=>by obtain⟨e,d,rfl,b,_⟩:=h;rw[R4,b];rfl) λg A c s H f Q E j h=>?_;obtain⟨e,d,rfl,b,i,k⟩:=h
 match d,b with
 |[v],_=>exact⟨_,j4 (j5 (pv 0) (pv 1) rfl),_,rfl,_,rfl,e,a.kR,.none,rfl,T.gN,T.U0,.inl ⟨i,k⟩⟩
def Xr(T:Txt K mg a):y_ P w K mg base (CXe P w) 1 a.ve a.vf ["self","value"] (sH a.qF ["value"]):=by
 refine T.Xi.okX Wd (λf H Q E h=>by obtain⟨e,d,rfl,b,_⟩:=h;rw[R4,b];rfl) λg A c s H f Q E j h=>?_;obtain⟨e,d,rfl,b,i,k⟩:=h
 match d,b with
 |[v],_=>exact⟨_,j4 (j5 (pv 0) (pv 1) rfl),_,rfl,_,rfl,e,a.qF,.none,rfl,T.UY,T.Vc,.inl ⟨i,k⟩⟩
def U_(T:Txt K mg a):y_ P w K mg base (CXe P w) 1 a.wg a.wm ["self","name"] (sH a.jE ["name"]):=by
 refine T.UR.okX Xg (λf H Q E h=>by obtain⟨e,d,rfl,b,_⟩:=h;rw[R4,b];rfl) λg A c s H f Q E j h=>?_;obtain⟨e,d,rfl,b,i,k⟩:=h
 match d,b with
 |[v],_=>exact⟨_,j4 (j5 (pv 0) (pv 1) rfl),_,rfl,_,rfl,e,a.jE,.none,rfl,T.bU,T.Xk,.inl ⟨i,k⟩⟩
def WM(T:Txt K mg a):y_ P w K mg base (CXe P w) 1 a.QI a.QL ["self","origin","goal"] (sH a.Zr ["origin","goal"]):=by
 refine T.gC.okX dz (λp H Q E h=>by obtain⟨e,n,rfl,i,_⟩:=h;rw[R4,i];rfl) λx A j s H p Q E y h=>?_;obtain⟨e,n,rfl,i,m,k⟩:=h
 match n,i with
 |[v,u],_=>
  have l:∀{c},H c=none->c≠e:=λh z=>by rw[z,m]at h;cases h
  exact⟨_,XG (j5 (pv 0) (pv 1) rfl) (j4 (j5 (pv 0) (pv 2) rfl)),_,rfl,_,rfl,e,a.Zr,.none,rfl,T.dM,T.U1,.inl ⟨m,λc f=>⟨_,rfl,_,rfl,e,a.Zr,.none,rfl,T.dM,T.dN,.inr ⟨c,[(("origin":Str),v)],by rw[zj],by rw[zm (l f),zj],l f,(show 1<1000 by decide),by
   have q:=k c f;have o:KN ("goal":Str) u [(("origin":Str),v)]=[(("origin":Str),v),(("goal":Str),u)]:=rfl;have r:∀{A B C:HO},upd (upd (upd H c A) e B) c C=upd (upd H c C) e B:=λ{A B C}=>funext λb=>by
    by_cases g:b=c
    .subst g;rw[zj,zm (l f),zj]
    .rw[zm g];by_cases d:b=e
     .subst d;rw[zj,zj]
     .rw[zm d,zm d,zm g,zm g]
   rw[r];exact q⟩⟩⟩⟩
def bf(T:Txt K mg a):y_ P w K mg base (CXe P w) 1 a.Zv a.ZC ["self","name"] (sH a.kT ["name"]):=by
 refine T.aX.okX UK (λf H Q E h=>by obtain⟨e,d,rfl,b,_⟩:=h;rw[R4,b];rfl) λg A c s H f Q E j h=>?_;obtain⟨e,d,rfl,b,i,k⟩:=h
 match d,b with
 |[v],_=>exact⟨_,j4 (j5 (pv 0) (pv 1) rfl),_,rfl,_,rfl,e,a.kT,.none,rfl,T.gO,T.U2,.inl ⟨i,k⟩⟩
def Xs(T:Txt K mg a):y_ P w K mg base (CXe P w) 1 a.zI a.YH ["trip"] (lsp (WW K a) false [true] zI):=
 zL (S':=[1]) (Sb:=[]) (Sc:=[]) T.qj.F Wf rfl rfl rfl `b λd A b s H E c=>
  (zr (yN (Ww (za (ix c (ev 0) (yr (zR rfl T.Qs ⟨_,rfl⟩))) (za (ix c (ev 0) (yr (zR rfl T.wH ⟨_,rfl⟩))) (za (ix c (ev 0) (yr (zR rfl T.Wx ⟨_,rfl⟩))) zd))))))
def QA(T:Txt K mg a):y_ P w K mg base (CXe P w) 1 a.ym a.WT ["_law_far","_law_home","_law_row"] (lsp (WW K a) false [true,false,true] ym):=
 zL (S':=[1,0,1,0,0]) (Sb:=[]) (Sc:=[]) T.jx.F jL rfl rfl rfl `b λd A c s H E b=>
  (zh (se 3 jL.nd (zE zF zG (Jr (y6 b) (ev 0) (za (zi (pv 1)) (za (ix b (ix b (ev 2) ei) ei) zd))) (Jr (y6 b) (ev 0) (za (ix b (ix b (ev 2) (p8 bE bJ ei)) ei) (za (zi (pv 1)) zd)))))
   (zh (jt (zH ⟨rfl,rfl⟩) rfl (V6 rfl T.Qv (za (qZ rfl T.vS (za (ev 2) zd)) zd)) (gn 4 jL.nd)
    (zh (se 3 jL.nd (zE ZJ ZL (zE zF zG (ev 3) (ix b (ix b (ev 2) (ev 4)) ei)) (ix b (ix b (ev 2) (ev 4)) ei)))
   (zr (qw (yI Ji Jk (ev 4) ei (yH _))
    (zr (se 3 jL.nd (zE zF zG (ev 3) (Jr (y6 b) (ev 0) (za (ix b (ix b (ev 2) (zE ZJ ZL (ev 4) ei)) ei) (za (ix b (ix b (ev 2) (ev 4)) ei) zd))))))
    yo))))
   (zr (yN (zi (pv 3))))))
def dS(T:Txt K mg a):y_ P w K mg base (CXe P w) 1 a.Yp a.Yq ["self","name"] (sH a.wO ["name"]):=by
 refine T.dF.okX aN (λf H Q E h=>by obtain⟨e,d,rfl,b,_⟩:=h;rw[R4,b];rfl) λg A c s H f Q E j h=>?_;obtain⟨e,d,rfl,b,i,k⟩:=h
 match d,b with
 |[v],_=>exact⟨_,j4 (j5 (pv 0) (pv 1) rfl),_,rfl,_,rfl,e,a.wO,.none,rfl,T.oh,T.a9,.inl ⟨i,k⟩⟩
def aa(T:Txt K mg a):y_ P w K mg base (CXe P w) 1 a.wj a.wo ["self","first","second"] (sH a.qt ["first","second"]):=by
 refine T.UT.okX Xh (λp H Q E h=>by obtain⟨e,n,rfl,i,_⟩:=h;rw[R4,i];rfl) λx A j s H p Q E y h=>?_;obtain⟨e,n,rfl,i,m,k⟩:=h
 match n,i with
 |[v,u],_=>
  have l:∀{c},H c=none->c≠e:=λh z=>by rw[z,m]at h;cases h
  exact⟨_,XG (j5 (pv 0) (pv 1) rfl) (j4 (j5 (pv 0) (pv 2) rfl)),_,rfl,_,rfl,e,a.qt,.none,rfl,T.Wi,T.Wj,.inl ⟨m,λc f=>⟨_,rfl,_,rfl,e,a.qt,.none,rfl,T.Wi,T.Vd,.inr ⟨c,[(("first":Str),v)],by rw[zj],by rw[zm (l f),zj],l f,(show 1<1000 by decide),by
   have q:=k c f;have o:KN ("second":Str) u [(("first":Str),v)]=[(("first":Str),v),(("second":Str),u)]:=rfl;have r:∀{A B C:HO},upd (upd (upd H c A) e B) c C=upd (upd H c C) e B:=λ{A B C}=>funext λb=>by
    by_cases g:b=c
    .subst g;rw[zj,zm (l f),zj]
    .rw[zm g];by_cases d:b=e
     .subst d;rw[zj,zj]
     .rw[zm d,zm d,zm g,zm g]
   rw[r];exact q⟩⟩⟩⟩
def dU(T:Txt K mg a):y_ P w K mg base (CXe P w) 1 a.yq a.Yr ["self"] (lsp (WW K a) true [true] yq):=
 zL (ms:=Vf) (S':=[1]) (Sb:=[]) (Sc:=[]) T.dH aO rfl rfl rfl `b λc A b s H E d=>
  (zr (FA (jJ rfl rfl T.ZR (za (ZM (ev 0) (fa ⟨T.qP,T.jN⟩ fz)) zd))))
def bg(T:Txt K mg a):y_ P w K mg base (CXe P w) 1 a.Zw a.ZD ["self","name"] (sH a.kU ["name"]):=by
 refine T.aZ.okX UL (λf H Q E h=>by obtain⟨e,d,rfl,b,_⟩:=h;rw[R4,b];rfl) λg A c s H f Q E j h=>?_;obtain⟨e,d,rfl,b,i,k⟩:=h
 match d,b with
 |[v],_=>exact⟨_,j4 (j5 (pv 0) (pv 1) rfl),_,rfl,_,rfl,e,a.kU,.none,rfl,T.gP,T.U3,.inl ⟨i,k⟩⟩
def MB(T:Txt K mg a):y_ P w K mg base (CXe P w) 1 a.U4 a.EE ["lists"] (lsp (WW K a) true [true] U4):=
 zL (ms:=D5) (S':=[1,0,0]) (Sb:=[]) (Sc:=[]) T.bS.F lY rfl rfl rfl `b λc A b s H E d=>
  (zh (V5 (i:=1) lY.nd rfl (.inl rfl) (qc zd))
   (zh (jt (zH ⟨rfl,rfl⟩) rfl (wB (ZO (pv 0))) (gn 2 lY.nd)
    (zr (uC (pv 1) (ev 2))))
   (zr (Uq (pv 1)))))
def bh(T:Txt K mg a):y_ P w K mg base (CXe P w) 1 a.yE a.JK ["origin","ways"] (lsp (WW K a) true [true,true] yE):=
 zL (ms:=Jv) (S':=[1,1,0,0,0,0,0,0]) (Sb:=[]) (Sc:=[]) T.qo.F yh rfl rfl rfl `b λd A c s H E b=>
  (zh (V5 (i:=2) yh.nd rfl (.inl rfl) (OR (ev 0) ei))
   (zh (se 3 yh.nd (Y2 Y1))
   (zh (BI (zH ⟨rfl,rfl⟩) (KQ (ev 3))
    (zh (se 3 yh.nd (Y2 Y1))
   (zr (jt (zH ⟨rfl,rfl⟩) rfl (wB (ZO (pv 1))) (fT (n:=3) rfl (j7 (gn 4 yh.nd) (j7 (gn 5 yh.nd) (j7 (gn 6 yh.nd) fS ZP) ZP) ZP))
    (zr (qw (Ld (y6 b) (ev 4) (ev 2))
    (zh (se 7 yh.nd (zE zF zG (ix b (ev 2) (ev 4)) (ev 6)))
   (zr (qw (TWM.tm (aI (Ja (y6 b) (ev 5) (ev 2)) (Jo (yI pM rg (ev 7) (ix b (ev 2) (ev 5)) (yH _)))))
    (zh (Dw (y6 b) (pv 2) (ev 5) (zi (pv 7)))
   (zr (se 3 yh.nd (Y2 Y1))))
    yo)))
    yo))))))
   (zr (Uq (pv 2))))))
def rW(T:Txt K mg a):y_ P w K mg base (CXe P w) 2 a.vF a.cw ["_law_script","_law_places","_law_scale","_law_ring"] (lsp (WW K a) true [true,true,true,true] vF):=
 zL (ms:=bW) (S':=[1,1,1,1,0,0,0,0]) (Sb:=[]) (Sc:=[]) T.vD.F j8 rfl rfl rfl `b λd A c s H E b=>
  (zh (se 4 j8.nd (qZ rfl T.vS (za (ev 1) zd)))
   (zh (V5 (i:=5) j8.nd rfl (.inl rfl) (qc zd))
   (zh (jt (zH ⟨rfl,rfl⟩) rfl (V6 rfl T.Qv (za (ev 4) zd)) (gn 6 j8.nd)
    (zr (qw (KQ (ev 3))
    (zr (Ur (pv 5) (Ww (za (ix b (ev 1) (ev 6)) (za (ix b (ev 1) (zE Z1 Z2 (zE zF zG (ev 6) ei) (ev 4))) (za (zE zF zG ei (ec (zu T) b T.zp zz (za (ev 0) (za (EM.weak (zE zF zG ei (ev 6))) (za (EM.weak (zE yS yT ei (ev 2))) zd))))) zd))))))
    yo)))
   (zh (jt (zH ⟨rfl,rfl⟩) rfl (V6 rfl T.Qv (za `i zd)) (gn 6 j8.nd)
    (zh (se 7 j8.nd (ec (zu T) b T.zp zz (za (ev 0) (za (EM.weak (zE zF zG ei (ev 6))) (za (EM.weak (zE yS yT (ev 4) (ev 4))) zd)))))
   (zr (Ur (pv 5) (Ww (za (ix b (ev 1) (zE Z1 Z2 (ev 7) (ev 4))) (za (ix b (ev 1) (zE uf ug (ev 7) (ev 4))) (za (zE zF zG ei (ec (zu T) b T.zp zz (za (ev 0) (za (EM.weak (zE zF zG ei (ev 6))) (za (EM.weak (zE yS yT ei (ev 2))) zd))))) zd))))))))
   (zr (Uq (pv 5)))))))
def b5(T:Txt K mg a):y_ P w K mg base (CXe P w) 2 a.qR a.cy ["_law_script","_law_k","_law_number"] (lsp (WW K a) false [true,true,true] qR):=
 zL (ms:=bX) (S':=[1,1,1,0,0]) (Sb:=[]) (Sc:=[]) T.ZS.F Ks rfl rfl rfl `b λd A b s H E c=>
  (zh (se 3 Ks.nd (ec (zu T) c T.zp zz (za (ev 0) (za (ev 1) (za (EM.weak ei) zd)))))
   (zh (se 4 Ks.nd (zE zF zG (ec (zu T) c T.zp zz (za (ev 0) (za (EM.weak (zE zF zG (ev 1) ei)) (za (EM.weak (zE ZJ ZL ei (ev 3))) zd)))) (zE Z1 Z2 (ev 2) ei)))
   (zr (yN (zE zF zG (zE zF zG (zE yS yT (Jn KJ) (ev 3)) (ix c (Jn KJ) (ev 2))) (zE yS yT (Jn KJ) (ev 4)))))))
def mj(T:Txt K mg a):y_ P w K mg base (CXe P w) 2 a.jq a.ay ["_law_script","_law_far","_law_home","_law_trips_here"] (lsp (WW K a) false [true,true,false,true] jq):=
 zL (S':=[1,1,0,1,0,0,0,0,0]) (Sb:=[]) (Sc:=[]) T.Yg.F ju rfl rfl rfl `b λd A c s H E b=>
  (zh (se 4 ju.nd `i)
   (zh (qw (TWM.tm (aI (KS b.units (ev 3) (FM.em (qc zd))) (Jo (KS b.units (ev 4) ei))))
    (zr (yN (ix b (FM.em (qc (za (ec (zu T) b T.zp zz (za (ev 0) (za (EM.weak ei) (za (EM.weak (zE tf i6 ei ei)) zd)))) (za (zE ZJ ZL ei (ec (zu T) b T.zp zz (za (ev 0) (za (EM.weak ei) (za (EM.weak (zE tf i6 ei ei)) zd))))) zd)))) `i)))
    yo)
   (zh (se 5 ju.nd (ec (zu T) b T.zp zz (za (ev 0) (za (EM.weak ei) (za (EM.weak (qZ rfl T.vS (za (ev 3) zd))) zd)))))
   (zh (se 6 ju.nd (zE zF zG (zE zF zG (ev 5) ei) (ec (zu T) b T.zp zz (za (ev 0) (za (EM.weak ei) (za (EM.weak (zE ZJ ZL (qZ rfl T.vS (za (ev 3) zd)) (ev 5))) zd))))))
   (zh (se 7 ju.nd (XN (ev 3) (Kk (ev 5)) (Kk (ev 6))))
   (zh (jt (zH ⟨rfl,rfl⟩) rfl (wB (EM.en (FM.em (qc (za (Ww (za (zi (pv 2)) (za (ix b (ix b (ev 7) ei) ei) zd))) (za (Ww (za (ix b (ix b (ev 7) (p8 bE bJ ei)) ei) (za (zi (pv 2)) zd))) zd)))))) (gn 8 ju.nd)
    (zr (qw (xl (y6 b) (ev 8) (ev 1))
    (zr (yN (zE tf i6 ei ei)))
    yo)))
   (zr (yN (zE ZJ ZL (ec (QA T) b T.jx zz (za (ev 1) (za (zi (pv 2)) (za (ev 7) zd)))) (zE Z1 Z2 (ev 4) ei))))))))))
def ae(T:Txt K mg a):y_ P w K mg base (CXe P w) 2 a.yW a.az ["_law_far","_law_places","_law_board","_law_home","_law_names","_law_limit_here"] (lsp (WW K a) false [true,true,true,false,true,true] yW):=
 zL (S':=[1,1,1,0,1,1,0,0,0]) (Sb:=[]) (Sc:=[]) T.vT.F wG rfl rfl rfl `b λd A c s H E b=>
  (zh (qw (Ja (y6 b) (ev 3) (ev 1))
    (zr (yN (Y2 Y1)))
    yo)
   (zh (jt (zH ⟨rfl,rfl⟩) rfl (V6 rfl T.Qv (za (qZ rfl T.vS (za (ev 4) zd)) zd)) (gn 6 wG.nd)
    (zh (qw (Ja (y6 b) (ix b (ev 4) (ev 6)) (ev 2))
    (zr (yN (Y2 Y1)))
    yo)
   (zh (se 7 wG.nd (ix b (ev 2) (ix b (ev 4) (ev 6))))
   (zh (qw (TWM.tm (aI (vN (y6 b) (za (zi (pv 3)) (za (ix b (ev 7) ei) zd)) (ev 0)) (Jo (vN (y6 b) (za (ix b (ev 7) ei) (za (zi (pv 3)) zd)) (ev 0)))))
    (zr (yN (Y2 Y1)))
    yo)
   (zh (qw (yI Ji Jk (ec (QA T) b T.jx zz (za (ev 0) (za (zi (pv 3)) (za (EM.weak (FM.em (qc (za (zi (pv 7)) zd)))) zd)))) (ev 5) (yH _))
    (zr (yN (Y2 Y1)))
    yo)
   (zr (qw (yI Ji Jk (ev 6) ei (yH _))
    (zh (se 8 wG.nd (ix b (ev 2) (ix b (ev 4) (zE ZJ ZL (ev 6) ei))))
   (zr (qw (TWM.tm (aI (vN (y6 b) (za (ix b (ev 8) ei) (za (ix b (ev 7) ei) zd)) (ev 0)) (Jo (yI Ji Jk (zE zF zG (ix b (ev 8) ei) (Jr (y6 b) (ev 0) (za (ix b (ev 8) ei) (za (ix b (ev 7) ei) zd)))) (ix b (ev 7) ei) (yH _)))))
    (zr (yN (Y2 Y1)))
    yo)))
    yo)))))))
   (zr (yN (Y2 Y1)))))
def dW(T:Txt K mg a):y_ P w K mg base (CXe P w) 2 a.WO a.WU ["_law_script","_law_k","_law_rows"] (hsp (WW K a) 3 Yh):=
 gf (ms:=Vi) T.jA.F qM rfl rfl rfl λd A c s H E b=>
  (zt (F9 (S:=Ti) (fr':=false) (j:=2) [false,false,true] ["_law_row"] [none] [0] qM.nd rfl rfl rfl (by kernel_rfl) (Z5 (ev 2)) (λ_=>(j6 (i:=0) (show List.Nodup (["_law_row"]:List Str)from by decide +kernel) rfl (.inl rfl))) (λ_=>Y_) (λ_=>(jJ rfl rfl T.ZR (za (ev 0) zd))))
   (zt (hse 3 qM.nd (hp (ec (zu T) b T.zp zz (za (ev 0) (za (ev 1) (za (EM.weak ei) zd))))))
   (zt (hse 4 qM.nd (hp (ec (zu T) b T.zp zz (za (ev 0) (za (EM.weak (zE zF zG (ev 1) ei)) (za (EM.weak (Dr rfl rfl T.Ck (za ei (za (qZ rfl T.vS (za (ev 2) zd)) zd)))) zd))))))
   (zt (Y3 (e_ (S:=Ti) (fr:=false) [false,false,false,true] (KS b.units (ev 3) ei))
    (yg (K7 (zC (pv 2)) (zV (zC (pv 4)) (zV (hp (FM.em (qc zd))) Yv))))
    qY)
   (zt (Y3 (e_ (S:=Ti) (fr:=false) [false,false,true,false,true] (TWM.tm (aI (yI Ia IS (ev 4) (qZ rfl T.vS (za (ev 2) zd)) (yH _)) (Jo (KS b.units (ix b (ev 2) (ev 4)) (FM.em (qc zd)))))))
    (yg (UC (zC (pv 2))))
    qY)
   (zt (hse 5 qM.nd (uW (y6 b) (zC (pv 2)) (zC (pv 4))))
   (zt (hse 6 qM.nd (hp (ec (zu T) b T.zp zz (za (ev 0) (za (EM.weak (zE zF zG (ev 1) ei)) (za (EM.weak (qZ rfl T.vS (za (ev 5) zd))) zd))))))
   (zt (Y3 (e_ (S:=Ti) (fr:=false) [false,false,false,true] (KS b.units (ev 3) ei))
    (yg (lQ (zC (pv 5)) (zC (pv 6))))
    qY)
   (zt (Y3 (e_ (S:=Ti) (fr:=false) [false,false,false,true] (KS b.units (ev 3) ei))
    (yg (Qd (uW (y6 b) (zC (pv 2)) (hp (ec (zu T) b T.zp zz (za (ev 0) (za (EM.weak (zE zF zG (ev 1) ei)) (za (EM.weak (qZ rfl T.vS (za (ev 2) zd))) zd)))))) (hp (ix b (ev 5) (ev 6)))))
    qY)
   (zt (Y3 (e_ (S:=Ti) (fr:=false) [false,false,false,true] (KS b.units (ev 3) ei))
    (yg (bO (zC (pv 5))))
    qY)
   (zt (Y3 (e_ (S:=Ti) (fr:=false) [false,false,false,true] (KS b.units (ev 3) ei))
    (yg (K7 (zC (pv 5)) (zV (zC (pv 6)) (zV (hp (ix b (FM.em (qc (za (Jn KJ) (za (Jn KJ) (za (Jn KJ) zd))))) (ec (zu T) b T.zp zz (za (ev 0) (za (EM.weak (zE zF zG (ev 1) ei)) (za (EM.weak ei) zd)))))) Yv))))
    qY)
   (zt (Y3 (e_ (S:=Ti) (fr:=false) [false,false,false,true,true] (TWM.tm (fQ (KS b.units (ev 3) ei) (Uk (yI Ji Jk (ev 4) ei (yH _))))))
    (zt (uX (zC (pv 2)) (hp (zE ZJ ZL (ev 4) ei)) (hf (Lu (by exact(ix b (ev 2) (zE ZJ ZL (ev 4) ei))) (by exact(ev 5)))))
   (yg (lQ (zC (pv 2)) (zC (pv 4)))))
    qY)
   (zt (Y3 (e_ (S:=Ti) (fr:=false) [false,false,false,true] (KS b.units (ev 3) ei))
    (zt (K7 (zC (pv 2)) (zV (hp (zE zF zG (ev 4) ei)) (zV (hf (nJ (ev 5) (Kk (ev 6)) Uo)) Yv)))
   (yg (uX (zC (pv 2)) (zC (pv 4)) (hf (nJ (ev 5) Uo (Kk (ev 6)))))))
    qY)
   (zt (Y3 (e_ (S:=Ti) (fr:=false) [false,false,false,true] (KS b.units (ev 3) ei))
    (yg (lQ (zC (pv 2)) (zC (pv 4))))
    qY)
   (yg (UC (zC (pv 2))))))))))))))))))
def QB(T:Txt K mg a):y_ P w K mg base (CXe P w) 2 a.aw a.aC ["_law_far","_law_board","_law_home","_law_names","_law_limit_here"] (hsp (WW K a) 5 qC):=
 gf T.yA.F qA rfl rfl rfl λd A c s H E b=>
  (zt (hse 5 qA.nd (hf (qc zd)))
   (zt (hse 6 qA.nd (hp (FM.em (qc zd))))
   (zt (lM (zH ⟨rfl,rfl⟩) rfl (zC (pv 3)) (dg qA.nd rfl (.inl rfl))
    (zt (hse 8 qA.nd (hp (zE zF zG (ev 6) (FM.em (qc (za (ix b (ev 1) (ev 7)) zd))))))
   (yg (Y3 (e_ (S:=[0,0,0,0,0,0,0,0,0]) (fr:=false) [true,false,true,false,true,false,true,false,true] (TWM.tm (fQ (I0 b.units (ev 6) (FM.em (qc zd))) (Uk (yI EL Fm (ec (QA T) b T.jx zz (za (ev 0) (za (zi (pv 2)) (za (ev 8) zd)))) (ev 4) (yH _))))))
    (zt (Qd (uW (y6 b) (zC (pv 5)) (hp (p8 bE bJ ei))) (zC (pv 7)))
   (yg (hse 6 qA.nd (zC (pv 8)))))
    (zt (Qd (zC (pv 5)) (hf (qc (za (zi (pv 7)) zd))))
   (yg (hse 6 qA.nd (hp (FM.em (qc (za (ix b (ev 1) (ev 7)) zd)))))))))))
   (yg (UC (zC (pv 5)))))))
def mq(T:Txt K mg a):y_ P w K mg base (CXe P w) 3 a.ke a.ax ["_law_script","_law_places","_law_far","_law_scale","_law_many"] (lsp (WW K a) true [true,true,true,true,true] ke):=
 zL (S':=[1,1,1,1,1,0,0,0,0,0,0,0,0,0]) (Sb:=[]) (Sc:=[]) T.j9.F z7 rfl rfl rfl `b λd A c s H E b=>
  (zh (V5 z7.nd rfl (.inl rfl) (qc zd))
   (zh (se 6 z7.nd (ix b (ev 1) (ec (zu T) b T.zp zz (za (ev 0) (za (EM.weak ei) (za (EM.weak (qZ rfl T.vS (za (ev 1) zd))) zd))))))
   (zh (se 7 z7.nd (zE zF zG (zE yS yT ei (ev 3)) (ec (zu T) b T.zp zz (za (ev 0) (za (EM.weak ei) (za (EM.weak (zE yS yT ei (ev 3))) zd))))))
   (zh (jt (zH ⟨rfl,rfl⟩) rfl (V6 rfl T.Qv (za (ev 4) zd)) (gn 8 z7.nd)
    (zh (se 9 z7.nd (ix b (ev 1) (ec (zu T) b T.zp zz (za (ev 0) (za (EM.weak (zE zF zG ei (zE yS yT ei (ev 8)))) (za (EM.weak (qZ rfl T.vS (za (ev 1) zd))) zd))))))
   (zh (qw (vN (y6 b) (za (zi (pv 6)) (za (zi (pv 9)) zd)) (ev 2))
    (zr (se 9 z7.nd (zi (pv 6))))
    yo)
   (zh (se 10 z7.nd (ix b (ev 1) (ec (zu T) b T.zp zz (za (ev 0) (za (EM.weak (zE zF zG ei (zE yS yT ei (ev 8)))) (za (EM.weak (qZ rfl T.vS (za (ev 1) zd))) zd))))))
   (zh (qw (vN (y6 b) (za (zi (pv 9)) (za (zi (pv 10)) zd)) (ev 2))
    (zr (se 10 z7.nd (zi (pv 9))))
    yo)
   (zh (se 11 z7.nd (zE yS yT (ec (zu T) b T.zp zz (za (ev 0) (za (EM.weak (zE zF zG ei (zE yS yT ei (ev 8)))) (za (EM.weak ei) zd)))) (ec (zu T) b T.zp zz (za (ev 0) (za (EM.weak (zE zF zG ei (zE yS yT ei (ev 8)))) (za (EM.weak (zE yS yT ei (ev 3))) zd))))))
   (zh (se 12 z7.nd (zE yS yT (zE Z1 Z2 (ec (zu T) b T.zp zz (za (ev 0) (za (EM.weak (zE zF zG ei (zE yS yT ei (ev 8)))) (za (EM.weak ei) zd)))) ei) (ec (zu T) b T.zp zz (za (ev 0) (za (EM.weak (zE zF zG ei (zE yS yT ei (ev 8)))) (za (EM.weak (zE yS yT ei (ev 3))) zd))))))
   (zh (se 13 z7.nd (zE zF zG (zE zF zG (ev 7) (Jr (y6 b) (ev 2) (za (zi (pv 6)) (za (zi (pv 9)) zd)))) (ev 11)))
   (zh (se 7 z7.nd (Dr rfl rfl T.Ck (za (zE zF zG (ev 13) ei) (za (zE zF zG (zE zF zG (ev 13) (Jr (y6 b) (ev 2) (za (zi (pv 9)) (za (zi (pv 10)) zd)))) (ev 12)) zd))))
   (zh (Ur (pv 5) (Ww (za (ec (b5 T) b T.ZS zz (za (ev 0) (za (EM.weak ei) (za (ev 8) zd)))) (za (zi (pv 9)) (za (zi (pv 10)) (za (zi (pv 13)) (za (zi (pv 7)) (za (ec (zu T) b T.zp zz (za (ev 0) (za (EM.weak (zE zF zG ei (zE yS yT ei (ev 8)))) (za (EM.weak ei) zd)))) zd))))))))
   (zr (se 6 z7.nd (zi (pv 10))))))))))))))
   (zr (Uq (pv 5)))))))
def QC(T:Txt K mg a):y_ P w K mg base (CXe P w) 3 a.yQ a.WQ ["things","most"] (lsp (WW K a) false [true,false] yQ):=
 zL (ms:=WH) (S':=[1,0]) (Sb:=[]) (Sc:=[]) T.jw.F dw rfl rfl rfl `b λd A b s H E e=>
  (zr (qw (yI Ji Jk (qZ rfl T.vS (za (ev 0) zd)) (ev 1) (yH _))
    (zr (qK (c:=3) rfl T.xp T.gM (bb T) (rm e) rfl T.UN T.aS (za (zi (pv 1)) zd)))
    yo))
def bj(T:Txt K mg a):y_ P w K mg base (CXe P w) 3 a.qp a.JG ["name"] (lsp (WW K a) false [false] qp):=
 zL (ms:=Jw) (S':=[0,0]) (Sb:=[]) (Sc:=[]) T.kC.F Qp rfl rfl rfl `b λe A b s H E d=>
  (zh (qw (TWM.tm (aI (yI pM rg (qZ rfl T.vS (za (ev 0) zd)) ei (yH _)) (Jo (yI Ji Jk (qZ rfl T.vS (za (ev 0) zd)) (yr (zR (v:=.int 12) rfl T.Zl ⟨_,rfl⟩)) (yH _)))))
    (zr (qK (c:=1) rfl T.gJ T.UW (JE T) (rm d) rfl T.Vb T.Ju (za (zi (pv 0)) zd)))
    yo)
   (zh (jt (zH ⟨rfl,rfl⟩) rfl (L9 (ev 0)) (gn 1 Qp.nd)
    (zr (qw (Ja (y6 d) (ev 1) (Jn (zR (v:=.str "abcdefghijklmnopqrstuvwxyz0123456789") rfl T.Qq ⟨_,rfl⟩)))
    (zr (qK (c:=1) rfl T.gJ T.UW (JE T) (rm d) rfl T.Vb T.Ju (za (zi (pv 0)) zd)))
    yo)))
   (zr (yN (zi (pv 0))))))
def jT(T:Txt K mg a):y_ P w K mg base (CXe P w) 3 a.yi a.VF ["name","places"] (lsp (WW K a) false [false,true] yi):=
 zL (ms:=Vk) (S':=[0,1]) (Sb:=[]) (Sc:=[]) T.yP.F aM rfl rfl rfl `b λe A b s H E d=>
  (zr (qw (Ja (y6 d) (ev 0) (ev 1))
    (zr (qK (c:=5) rfl T.xt T.gN (bc T) (rm d) rfl T.UO T.aV (za (zi (pv 0)) zd)))
    yo))
def jh(T:Txt K mg a):y_ P w K mg base (CXe P w) 3 a.zX a.YG ["value","least"] (lsp (WW K a) false [false,true] zX):=
 zL (ms:=YA) (S':=[0,1]) (Sb:=[]) (Sc:=[]) T.yz.F We rfl rfl rfl `b λd A b s H E e=>
  (zh (qw (TWM.tm (aI (yI pM rg (ev 0) (ev 1) (yH _)) (Jo (yI Ji Jk (ev 0) (yr (zR (v:=.int 1000000000) rfl T.lZ ⟨_,rfl⟩)) (yH _)))))
    (zr (qK (c:=2) rfl T.l9 T.UY (Xr T) (rm e) rfl T.Kw T.Xj (za (zi (pv 0)) zd)))
    yo)
   (zr (yN (zi (pv 0)))))
def jD(T:Txt K mg a):y_ P w K mg base (CXe P w) 3 a.zB a.QN ["self","name"] (lsp (WW K a) false [true,false] zB):=
 zL (ms:=WI) (S':=[1,0]) (Sb:=[]) (Sc:=[]) T.gG dA rfl rfl rfl `b λe A b s H E d=>
  (zh (qw (Ja (y6 d) (ev 1) (ZM (ev 0) (fa ⟨T.yD,T.ql⟩ fz)))
    (zr (qK (c:=7) rfl T.Cq T.oh (dS T) (rm d) rfl T.dD T.dG (za (zi (pv 1)) zd)))
    yo)
   (zr (yN (ix d (ZM (ev 0) (fa ⟨T.yD,T.ql⟩ fz)) (ev 1)))))
def wN(T:Txt K mg a):y_ P w K mg base (CXe P w) 4 a.z9 a.wQ ["name","had"] (lsp (WW K a) false [false,true] z9):=
 zL (ms:=wL) (S':=[0,1]) (Sb:=[]) (Sc:=[]) T.yO.F Kt rfl rfl rfl `b λe A b s H E d=>
  (zh (yy (ec (bj T) d T.kC zz (za (zi (pv 0)) zd)))
   (zh (qw (Ld (y6 d) (ev 0) (ev 1))
    (zr (qK (c:=4) rfl T.Gn T.xq (gQ T) (rm d) rfl T.l6 T.gB (za (zi (pv 0)) zd)))
    yo)
   (zr (yN (zi (pv 0))))))
def ja(T:Txt K mg a):y_ P w K mg base (CXe P w) 4 a.zA a.ZA ["self","origin","goal"] (lsp (WW K a) false [true,false,false] zA):=
 zL (S':=[1,0,0]) (Sb:=[]) (Sc:=[]) T.aW UJ rfl rfl rfl `b λd A c s H E b=>
  (zh (yy (ec (jT T) b T.yP zz (za (zi (pv 1)) (za (EM.weak (ZM (ev 0) (fa ⟨T.qP,T.jN⟩ fz))) zd))))
   (zh (yy (ec (jT T) b T.yP zz (za (zi (pv 2)) (za (EM.weak (ZM (ev 0) (fa ⟨T.qP,T.jN⟩ fz))) zd))))
   (zr (yN (L_ (y6 b) (ix b (ZM (ev 0) (fa ⟨T.qP,T.Yw⟩ fz)) (ev 1)) (ev 2) ⟨rfl,rfl,rfl,rfl⟩)))))
def dX(T:Txt K mg a):y_ P w K mg base (CXe P w) 4 a.qT a.VG ["table","names"] (lsp (WW K a) false [true,true] qT):=
 zL (Sb:=[]) (Sc:=[]) T.vw.F Js rfl rfl rfl `b λc A b s H E d=>
  (zr (jt (zH ⟨rfl,rfl⟩) rfl (wB (ZO (pv 1))) (gn 2 Js.nd)
    (zr (yy (vJ (ev 0) (al ⟨_,_,_,_,T.yD,T.qO,jD T,(rm d),T.jB⟩) zz (za (zi (pv 2)) zd))))))
def gR(T:Txt K mg a):y_ P w K mg base (CXe P w) 4 a.jC a.WX ["places","ways"] (lsp (WW K a) false [true,true] jC):=
 zL (ms:=WJ) (S':=[1,1,0,0,0]) (Sb:=[]) (Sc:=[]) T.wK.F vv rfl rfl rfl `b λd A b s H E c=>
  (zr (jt (zH ⟨rfl,rfl⟩) rfl (wB (ZO (pv 1))) (fT (n:=3) rfl (j7 (gn 2 vv.nd) (j7 (gn 3 vv.nd) (j7 (gn 4 vv.nd) fS ZP) ZP) ZP))
    (zh (yy (ec (jT T) c T.yP zz (za (zi (pv 2)) (za (ev 0) zd))))
   (zh (yy (ec (jT T) c T.yP zz (za (zi (pv 3)) (za (ev 0) zd))))
   (zr (yy (ec (jh T) c T.yz zz (za (zi (pv 4)) (za (EM.weak ei) zd)))))))))
def gS(T:Txt K mg a):y_ P w K mg base (CXe P w) 5 a.qD a.WR ["roads","trip","had"] (lsp (WW K a) false [true,true,true] qD):=
 zL (ms:=WK) (S':=[1,1,1,0]) (Sb:=[]) (Sc:=[]) T.wI.F K9 rfl rfl rfl `b λe A d s H E b=>
  (zh (yy (ec (wN T) b T.yO zz (za (ix b (ev 1) (yr (zR (v:=.int 0) rfl T.Wx ⟨_,rfl⟩))) (za (ev 2) zd))))
   (zh (se 3 K9.nd (vJ (fr:=false) (ws:=[false,false]) (tab:=[(11,zA)]) (ev 0) (al ⟨_,_,_,_,T.qP,T.qB,ja T,(rm b),T.q_⟩) zz (za (ix b (ev 1) (yr (zR (v:=.int 1) rfl T.Ye ⟨_,rfl⟩))) (za (ix b (ev 1) (yr (zR (v:=.int 2) rfl T.UM ⟨_,rfl⟩))) zd))))
   (zh (yy (ec (jh T) b T.yz zz (za (ix b (ev 1) (yr (zR (v:=.int 3) rfl T.Qs ⟨_,rfl⟩))) (za (EM.weak ei) zd))))
   (zh (yy (ec (jh T) b T.yz zz (za (ix b (ev 1) (yr (zR (v:=.int 4) rfl T.wH ⟨_,rfl⟩))) (za (EM.weak ei) zd))))
   (zh (yy (ec (jh T) b T.yz zz (za (ix b (ev 1) (yr (zR (v:=.int 5) rfl T.l0 ⟨_,rfl⟩))) (za (EM.weak ei) zd))))
   (zh (qw (yI EL Fm (ix b (ev 1) (yr (zR (v:=.int 4) rfl T.wH ⟨_,rfl⟩))) (ix b (ev 1) (yr (zR (v:=.int 3) rfl T.Qs ⟨_,rfl⟩))) (yH _))
    (zr (qK (c:=8) rfl T.rP T.bU (U_ T) (rm b) rfl T.Wg T.US (za (ix b (ev 1) (yr (zR (v:=.int 0) rfl T.Wx ⟨_,rfl⟩))) zd)))
    yo)
   (zh (qw (yI tD uh (ev 3) (fP fe) (yH _))
    (zr (qK (c:=6) rfl T.xu T.dM (WM T) (rm b) rfl T.dC T.Wz (za (ix b (ev 1) (yr (zR (v:=.int 1) rfl T.Ye ⟨_,rfl⟩))) (za (ix b (ev 1) (yr (zR (v:=.int 2) rfl T.UM ⟨_,rfl⟩))) zd))))
    yo)
   (zr (qw (yI pM rg (zE ZJ ZL (ix b (ev 1) (yr (zR (v:=.int 4) rfl T.wH ⟨_,rfl⟩))) (ix b (ev 1) (yr (zR (v:=.int 3) rfl T.Qs ⟨_,rfl⟩)))) (ev 3) (yH _))
    (zr (qK (c:=9) rfl T.xy T.gO (bf T) (rm b) rfl T.UP T.aY (za (ix b (ev 1) (yr (zR (v:=.int 0) rfl T.Wx ⟨_,rfl⟩))) zd)))
    yo)))))))))
def O3(T:Txt K mg a):y_ P w K mg base (CXe P w) 5 a.rV a.Nw ["table","one","other"] (lsp (WW K a) false [true,false,false] rV):=
 zL (ms:=Gp) (S':=[1,0,0,0,0,0]) (Sb:=[]) (Sc:=[]) T.Cn.F n_ rfl rfl rfl `b λd A c s H E b=>
  (zh (se 3 n_.nd (vJ (fr:=false) (ws:=[false]) (tab:=[(10,zB)]) (ev 0) (al ⟨_,_,_,_,T.yD,T.qO,jD T,(rm b),T.jB⟩) zz (za (zi (pv 1)) zd)))
   (zh (se 4 n_.nd (vJ (fr:=false) (ws:=[false]) (tab:=[(10,zB)]) (ev 0) (al ⟨_,_,_,_,T.yD,T.qO,jD T,(rm b),T.jB⟩) zz (za (zi (pv 2)) zd)))
   (zh (se 5 n_.nd (vJ (fr:=false) (ws:=[false,false]) (tab:=[(11,zA)]) (ZM (ev 0) (fa ⟨T.yD,T.yV⟩ fz)) (al ⟨_,_,_,_,T.qP,T.qB,ja T,(rm b),T.q_⟩) zz (za (ix b (ev 3) (yr (zR (v:=.int 2) rfl T.UM ⟨_,rfl⟩))) (za (ix b (ev 4) (yr (zR (v:=.int 1) rfl T.Ye ⟨_,rfl⟩))) zd))))
   (zh (qw (yI tD uh (ev 5) (fP fe) (yH _))
    (zr (yN (fP fe)))
    yo)
   (zr (yN (zE ZJ ZL (zE ZJ ZL (ix b (ev 4) (yr (zR (v:=.int 3) rfl T.Qs ⟨_,rfl⟩))) (ix b (ev 3) (yr (zR (v:=.int 4) rfl T.wH ⟨_,rfl⟩)))) (ev 5))))))))
def af(T:Txt K mg a):y_ P w K mg base (CXe P w) 5 a.jr a.aB ["roads","origin","goal"] (lsp (WW K a) false [true,false,false] jr):=
 zL (Sb:=[]) (Sc:=[]) T.vU.F gz rfl rfl rfl `b λe A b s H E d=>
  (zr (qw (yI tD uh (vJ (ev 0) (al ⟨_,_,_,_,T.qP,T.qB,ja T,(rm d),T.q_⟩) zz (za (zi (pv 1)) (za (zi (pv 2)) zd))) (fP fe) (yH _))
    (zr (qK rfl T.xu T.dM (WM T) (rm d) rfl T.dC T.Wz (za (zi (pv 1)) (za (zi (pv 2)) zd))))
    yo))
def bo(T:Txt K mg a):y_ P w K mg base (CXe P w) 5 a.qq a.JJ ["places"] (lsp (WW K a) false [true] qq):=
 zL (Sb:=[]) (Sc:=[]) T.kE.F vR rfl rfl rfl `b λd A b s H E c=>
  (zh (V5 vR.nd rfl (.inl rfl) uL)
   (zr (jt (zH ⟨rfl,rfl⟩) rfl (wB (ZO (pv 0))) (gn 2 vR.nd)
    (zh (yy (ec (wN T) c T.yO zz (za (zi (pv 2)) (za (ev 1) zd))))
   (zr (Dw (y6 c) (pv 1) (ev 2) (Y2 Y1)))))))
def dY(T:Txt K mg a):y_ P w K mg base (CXe P w) 6 a.QJ a.QM ["self","roads","trips"] (hsp (WW K a) 3 Yj):=
 gf (ms:=vA) T.gD K_ rfl rfl rfl λd A c s H E b=>
  (zt (de (hp (ec (QC T) b T.jw zz (za (ev 2) (za (yr (zR (v:=.int 40) rfl T.Qr ⟨_,rfl⟩)) zd)))))
   (zt (xh (zC (pv 0)) (zC (pv 1)) (fa ⟨T.yD,T.yV⟩ fz))
   (zt (xh (zC (pv 0)) (hf uL) (fa ⟨T.yD,T.ql⟩ fz))
   (zt (FW (S:=[0,0,0,0]) (fr:=false) [false,false,true] (zH ⟨rfl,rfl⟩) rfl (wB (EM.en (zi (pv 2)))) (dg (i:=3) K_.nd rfl (.inl rfl))
    (zt (de (hp (ec (gS T) b T.wI zz (za (ev 1) (za (ev 3) (za (EM.weak (ZM (ev 0) (fa ⟨T.yD,T.ql⟩ fz))) zd))))))
   (yg (LY (y6 b) (LU (zC (pv 0)) (fa ⟨T.yD,T.ql⟩ fz)) (hp (ix b (ev 3) (yr (zR (v:=.int 0) rfl T.Wx ⟨_,rfl⟩)))) (zC (pv 3))))))
   (yg (xh (zC (pv 0)) (hp (FM.em (rA ["trip"] [none] [0] rfl (by kernel_rfl) (Z5 (FM.em (Cb (wk:=true) (Xs T) (rm b) T.qj.b rfl T.dE rfl T.qj.g (za (ev 2) zd)))) (λ_=>(j6 (i:=0) (show List.Nodup (["trip"]:List Str)from by decide +kernel) rfl (.inl rfl))) (λ_=>Y_) (λ_=>(ix b (ev 0) (yr (zR (v:=.int 0) rfl T.Wx ⟨_,rfl⟩))))))) (fa ⟨T.yD,T.a_⟩ fz)))))))
def Ct(T:Txt K mg a):y_ P w K mg base (CXe P w) 6 a.Yk a.pB ["table","one","other"] (lsp (WW K a) false [true,false,false] Yk):=
 zL (ms:=om) (S':=[1,0,0,0]) (Sb:=[]) (Sc:=[]) T.XU.F gw rfl rfl rfl `b λc A b s H E d=>
  (zh (se 3 gw.nd (ec (O3 T) d T.Cn zz (za (ev 0) (za (zi (pv 1)) (za (zi (pv 2)) zd)))))
   (zr (yN (ui (bI EO Fn (ev 3) (fP fe) (yH _)) (Dk (bI Ia IS (ev 3) ei (yH _)))))))
def gT(T:Txt K mg a):y_ P w K mg base (CXe P w) 6 a.qE a.QO ["self","places","ways"] (NJ (WW K a) 11 [true,true] qE):=
 uK (ms:=wM) (S':=[2,1,1]) (Sb:=[]) (Sc:=[]) (n:=2) T.gH dB rfl rfl rfl `b rfl λd A c s H E b=>
  (zh (yy (ec (QC T) b T.jw zz (za (ev 1) (za (yr (zR (v:=.int 12) rfl T.Yf ⟨_,rfl⟩)) zd))))
   (zh (yy (ec (QC T) b T.jw zz (za (ev 2) (za (yr (zR (v:=.int 60) rfl T.Kv ⟨_,rfl⟩)) zd))))
   (zh (yy (ec (bo T) b T.kE zz (za (ev 1) zd)))
   (zh (yy (ec (gR T) b T.wK zz (za (ev 1) (za (ev 2) zd))))
   (zh (uD (i:=0) (pv 0) (FM.em (jJ rfl rfl T.ZR (za (ev 1) zd))) (fa ⟨T.qP,T.jN⟩ fz))
   (zh (uD (i:=0) (pv 0) (FM.em (jJ rfl rfl T.ZR (za (ev 2) zd))) (fa ⟨T.qP,T.dO⟩ fz))
   (zr (uD (i:=0) (pv 0) (FM.em (nQ rfl rfl T.og (za (FM.em (rA ["place","ways"] [none,some 2] [0,1] rfl (by kernel_rfl) (Z5 (ev 1)) (λ_=>(j6 (i:=0) (show List.Nodup (["place","ways"]:List Str)from by decide +kernel) rfl (.inl rfl))) (λ_=>Y_) (λ_=>(Ww (za (zi (pv 0)) (za (FM.em (Um (bh T) (rm b) rfl T.qo.g T.qo.k T.qo.b nu (za (ev 0) (za (ev 1) zd)))) zd)))))) zd))) (fa ⟨T.qP,T.Yw⟩ fz)))))))))
def bp(T:Txt K mg a):y_ P w K mg base (CXe P w) 7 a.qr a.JH ["table","names"] (lsp (WW K a) false [true,true] qr):=
 zL (Sb:=[]) (Sc:=[]) T.kD.F vQ rfl rfl rfl `b λe A b s H E d=>
  (zh (yy (ec (dX T) d T.vw zz (za (ev 0) (za (ev 1) zd))))
   (zr (jt (zH ⟨rfl,rfl⟩) rfl (F7 rfl T.Cm (ZO (pv 1)) (EM.en (XN (ev 1) (Kk ei) Uo))) (fT rfl (j7 (gn 2 vQ.nd) (j7 (gn 3 vQ.nd) fS ZP) ZP))
    (zr (qw (nC (KQ (ec (Ct T) d T.XU zz (za (ev 0) (za (zi (pv 2)) (za (zi (pv 3)) zd))))))
    (zr (qK rfl T.rR T.Wi (aa T) (rm d) rfl T.Wh T.UU (za (zi (pv 2)) (za (zi (pv 3)) zd))))
    yo)))))
def Ky(T:Txt K mg a):y_ P w K mg base (CXe P w) 8 a.yX a.aA ["table","home","names"] (lsp (WW K a) false [true,false,true] yX):=
 zL (ms:=U9) (S':=[1,0,1]) (Sb:=[]) (Sc:=[]) T.j_.F gx rfl rfl rfl `b λd A b s H E c=>
  (zh (yy (ec (jT T) c T.yP zz (za (zi (pv 1)) (za (EM.weak (FM.em (BC (tab:=[(11,yq)]) (ZM (ev 0) (fa ⟨T.yD,T.yV⟩ fz)) (al ⟨_,_,_,_,T.qP,T.ba,dU T,(rm c),T.dI⟩) zz))) zd))))
   (zr (yy (ec (bp T) c T.kD zz (za (ev 0) (za (ev 2) zd))))))
def dZ(T:Txt K mg a):y_ P w K mg base (CXe P w) 9 a.qf a.VH ["table","home","names"] (lsp (WW K a) false [true,false,true] qf):=
 zL (Sb:=[]) (Sc:=[]) T.vx.F aP rfl rfl rfl `b λd A c s H E b=>
  (zh (yy (ec (Ky T) b T.j_ zz (za (ev 0) (za (zi (pv 1)) (za (ev 2) zd)))))
   (zr (qw (yI Ji Jk (qZ rfl T.vS (za (ev 2) zd)) ei (yH _))
    (zh (yy (ec (af T) b T.vU zz (za (EM.weak (ZM (ev 0) (fa ⟨T.yD,T.yV⟩ fz))) (za (zi (pv 1)) (za (ix b (vJ (ev 0) (al ⟨_,_,_,_,T.yD,T.qO,jD T,(rm b),T.jB⟩) zz (za (ix b (ev 2) ei) zd)) (yr (zR rfl T.Ye ⟨_,rfl⟩))) zd)))))
   (zr (yy (ec (af T) b T.vU zz (za (EM.weak (ZM (ev 0) (fa ⟨T.yD,T.yV⟩ fz))) (za (ix b (vJ (ev 0) (al ⟨_,_,_,_,T.yD,T.qO,jD T,(rm b),T.jB⟩) zz (za (ix b (ev 2) (p8 bE bJ ei)) zd)) (yr (zR rfl T.UM ⟨_,rfl⟩))) (za (zi (pv 1)) zd)))))))
    yo)))
def kH(T:Txt K mg a):y_ P w K mg base (CXe P w) 10 a.zK a.JI ["table","home","names"] (lsp (WW K a) false [true,false,true] zK):=
 zL (S':=[1,0,1,0,0,0,0]) (Sb:=[]) (Sc:=[]) T.yU.F yJ rfl rfl rfl `b λd A c s H E b=>
  (zh (yy (ec (dZ T) b T.vx zz (za (ev 0) (za (zi (pv 1)) (za (ev 2) zd)))))
   (zh (se 3 yJ.nd (zi (pv 1)))
   (zh (se 4 yJ.nd ei)
   (zh (jt (zH ⟨rfl,rfl⟩) rfl (wB (ZO (pv 2))) (gn 5 yJ.nd)
    (zh (se 6 yJ.nd (vJ (ev 0) (al ⟨_,_,_,_,T.yD,T.qO,jD T,(rm b),T.jB⟩) zz (za (zi (pv 5)) zd)))
   (zh (FD yJ.nd rfl (.inl rfl) (zE ZJ ZL (zE zF zG (vJ (ZM (ev 0) (fa ⟨T.yD,T.yV⟩ fz)) (al ⟨_,_,_,_,T.qP,T.qB,ja T,(rm b),T.q_⟩) zz (za (zi (pv 3)) (za (ix b (ev 6) (yr (zR rfl T.Ye ⟨_,rfl⟩))) zd))) (ix b (ev 6) (yr (zR rfl T.wH ⟨_,rfl⟩)))) (ix b (ev 6) (yr (zR rfl T.Qs ⟨_,rfl⟩)))) HQ)
   (zr (se 3 yJ.nd (ix b (ev 6) (yr (zR rfl T.UM ⟨_,rfl⟩))))))))
   (zr (yN (zE zF zG (ev 4) (vJ (ZM (ev 0) (fa ⟨T.yD,T.yV⟩ fz)) (al ⟨_,_,_,_,T.qP,T.qB,ja T,(rm b),T.q_⟩) zz (za (zi (pv 3)) (za (zi (pv 1)) zd))))))))))
def Vv(T:Txt K mg a):y_ P w K mg base (CXe P w) 11 a.qg a.VI ["table","home","name","limit"] (lsp (WW K a) false [true,false,false,true] qg):=
 zL (Sb:=[]) (Sc:=[]) T.jM.F aQ rfl rfl rfl `b λe A b s H E d=>
  (zr (qw (yI Ji Jk (ec (kH T) d T.yU zz (za (ev 0) (za (zi (pv 1)) (za (EM.weak (FM.em (qc (za (zi (pv 2)) zd)))) zd)))) (ev 3) (yH _))
    (zr (qK rfl T.xA T.gP (bg T) (rm d) rfl T.UQ T.a8 (za (zi (pv 2)) zd)))
    yo))
def gU(T:Txt K mg a):y_ P w K mg base (CXe P w) 12 a.yF a.WV ["table","home","names","limit"] (lsp (WW K a) false [true,false,true,true] yF):=
 zL (S':=[1,0,1,1,0]) (Sb:=[]) (Sc:=[]) T.wJ.F Va rfl rfl rfl `b λd A b s H E c=>
  (zh (Gd (S2:=[]) ⟨rfl,rfl⟩ (λ_ _=>(zh (yy (ec (Ky T) c T.j_ zz (za (ev 0) (za (zi (pv 1)) (za (ev 2) zd)))))
   (zr (jt (zH ⟨rfl,rfl⟩) rfl (wB (ZO (pv 2))) (gn 4 Va.nd)
    (zr (yy (ec (Vv T) c T.jM zz (za (ev 0) (za (zi (pv 1)) (za (zi (pv 4)) (za (ev 3) zd))))))))))) rfl T.Qt (λe=>(zr (yN (Y2 Y1)))) (fa T.rM (fa T.gK (fa T.rN (fa T.Co (fa T.rO (fa T.Cp (fa T.xw (fa T.l_ (fa T.rQ (fa T.mf (fa T.rT fz))))))))))))
   (zr (yN (Y2 Y1))))
def MC(T:Txt K mg a):y_ P w K mg base (CXe P w) 12 a.Nu a.Nx ["table","home","names","limit"] (hsp (WW K a) 4 bY):=
 gf (ms:=D6) T.rL.F oa rfl rfl rfl λd A c s H E b=>
  (zt (de (hp (ec (Ky T) b T.j_ zz (za (ev 0) (za (zi (pv 1)) (za (ev 2) zd))))))
   (zt (lM (zH ⟨rfl,rfl⟩) rfl (zC (pv 2)) (dg (i:=4) oa.nd rfl (.inl rfl))
    (yg (de (hp (ec (Vv T) b T.jM zz (za (ev 0) (za (zi (pv 1)) (za (zi (pv 4)) (za (ev 3) zd)))))))))
   (zt (hse 5 oa.nd (hf (qc zd)))
   (zt (lM (zH ⟨rfl,rfl⟩) rfl (zC (pv 2)) (dg (i:=4) oa.nd rfl (.inl rfl))
    (yg (Y3 (e_ (S:=[0,0,0,0,0,0]) (fr:=false) [true,true,false,true,true,true] (TWM.tm (fQ (yI Ji Jk (qZ rfl T.vS (za (ev 5) zd)) ei (yH _)) (Uk (yI EL Fm (ec (kH T) b T.yU zz (za (ev 0) (za (zi (pv 1)) (za (EM.weak (zE zF zG (ix b (ev 5) (p8 bE bJ ei)) (FM.em (qc (za (zi (pv 4)) zd))))) zd)))) (ev 3) (yH _))))))
    (yg (Qd (uW (y6 b) (zC (pv 5)) (hp (p8 bE bJ ei))) (zC (pv 4))))
    (yg (Qd (zC (pv 5)) (hf (qc (za (zi (pv 4)) zd))))))))
   (yg (UC (zC (pv 5))))))))
def d6(T:Txt K mg a):y_ P w K mg base (CXe P w) 13 a.zZ a.VJ ["table","home","names","limit","pieces"] (lsp (WW K a) false [true,false,true,true,false] zZ):=
 zL (ms:=Vo) (S':=[1,0,1,1,0,0]) (Sb:=[]) (Sc:=[]) T.vy.F Jt rfl rfl rfl `b λd A c s H E b=>
  (zh (qw (nC (KQ (ec (gU T) b T.wJ zz (za (ev 0) (za (zi (pv 1)) (za (ev 2) (za (ev 3) zd)))))))
    (zr (yN (Y2 Y1)))
    yo)
   (zh (qw (TWM.tm (aI (Mi b.units (FM.em (qc zd)) (ev 4)) (Jo (I0 b.units (FM.em (Um (MB T) (rm b) rfl T.bS.g T.bS.k T.bS.b zz (za (ev 4) zd))) (ev 2)))))
    (zr (yN (Y2 Y1)))
    yo)
   (zh (qw (KQ (LD rfl rfl T.Gm (za (FM.em (rA ["piece","table","home","limit"] [none,some 0,some 1,some 3] [0,1,0,1] rfl (by kernel_rfl) (Z5 (ev 4)) (λ_=>(j6 (i:=0) (show List.Nodup (["piece","table","home","limit"]:List Str)from by decide +kernel) rfl (.inl rfl))) (λ_=>Y_) (λ_=>(bI Ji Jk (ec (kH T) b T.yU nu (za (ev 1) (za (zi (pv 2)) (za (ev 0) zd)))) (ev 3) (yH _))))) zd)))
    (zr (yN (Y2 Y1)))
    yo)
   (zh (OC (i:=5) ["piece","following"] [none,none] [0,0] Jt.nd rfl rfl rfl (by kernel_rfl) (Md rfl T.Cm (za (zi (pv 4)) (za (XN (ev 4) (Kk ei) Uo) zd))) (λ_=>(fT (n:=2) rfl (j7 (j6 (i:=0) (show List.Nodup (["piece","following"]:List Str)from by decide +kernel) rfl (.inl rfl)) (j7 (j6 (i:=1) (show List.Nodup (["piece","following"]:List Str)from by decide +kernel) rfl (.inl rfl)) fS ZP) ZP))) (λ_=>Y_) (λ_=>(zE zF zG (ev 0) (XN (ev 1) Uo (Kk ei)))))
   (zr (yN (Lj rfl rfl T.Gk (za (FM.em (rA ["piece","table","home","limit"] [none,some 0,some 1,some 3] [0,1,0,1] rfl (by kernel_rfl) (Z5 (ev 5)) (λ_=>(j6 (i:=0) (show List.Nodup (["piece","table","home","limit"]:List Str)from by decide +kernel) rfl (.inl rfl))) (λ_=>Y_) (λ_=>(bI Ji Jk (ec (kH T) b T.yU nu (za (ev 1) (za (zi (pv 2)) (za (ev 0) zd)))) (ev 3) (yH _))))) zd))))))))
def Wk(T:Txt K mg a):y_ P w K mg base (CXe P w) 14 a.yG a.cz ["_law_table","_law_home","_law_names","_law_limit_here","_law_parts_here","_law_due"] (lsp (WW K a) false [true,false,false,true,false,true] yG):=
 zL (ms:=bZ) (S':=[1,0,0,1,0,1,0,0]) (Sb:=[]) (Sc:=[]) T.vE.F Ku rfl rfl rfl (by decide) λcdv A outer s H E hr=>
  (zh (se 6 Ku.nd (FM.em (qc (za (FM.em (jJ rfl rfl T.ZR (za (ev 2) zd))) (za (FM.em (rA ["_law_part"] [none] [0] rfl (by kernel_rfl) (Z5 (ev 4)) (λ_=>(j6 (i:=0) (show List.Nodup (["_law_part"]:List Str)from by decide +kernel) rfl (.inl rfl))) (λ_=>Y_) (λ_=>(FM.em (jJ rfl rfl T.ZR (za (ev 0) zd)))))) zd)))))
   (zh (se 7 Ku.nd (ec (d6 T) hr T.vy zz (za (ev 0) (za (zi (pv 1)) (za (EM.weak (ix hr (ev 6) ei)) (za (ev 3) (za (ix hr (ev 6) ei) zd)))))))
   (zr (yN (ui (Ll rfl T.Qu (ev 7) (EG rfl T.xn PyProof.Rows.Boot.«bool» (v:=.ty "bool") rfl) rfl ⟨⟨trivial,T.Qw⟩,⟨⟨trivial,T.Kx⟩,trivial⟩⟩) (ui (IZ hr.units (ev 7) (ev 5)) (Dk (IZ hr.units (ev 6) (FM.em (qc (za (zi (pv 2)) (za (zi (pv 4)) zd))))))))))))
def MD(T:Txt K mg a):y_ P w K mg base (CXe P w) 15 a.Nv a.Ny ["_law_script"] (hsp (WW K a) 1 D8):=
 gf (ms:=D7) T.xo.F jv rfl rfl rfl λf A d s H E b=>
  (zt (hse 1 jv.nd (hp (ix b (FM.em (qc (za ei (za ei (za ei zd))))) `i)))
   (zt (Me (S:=Tr) (fr':=false) (j:=2) [true] ["_law_k","_law_script"] [none,some 0] [0,0] jv.nd rfl rfl rfl (by kernel_rfl) (V6 rfl T.Qv (za (zE zF zG ei `i) zd)) (λ_=>(j6 (i:=0) (show List.Nodup (["_law_k","_law_script"]:List Str)from by decide +kernel) rfl (.inl rfl))) (λ_=>Y_) (λ_=>(ec (b5 T) b T.ZS nu (za (ev 1) (za (EM.weak ei) (za (ev 0) zd))))))
   (zt (hse 3 jv.nd (hp (FM.em (Um (rW T) (rm b) rfl T.vD.g T.vD.k T.vD.b zz (za (ev 0) (za (ev 2) (za (ev 1) (za (EM.weak (bI Ji Jk `i ei (yH _))) zd))))))))
   (zt (hse 4 jv.nd (hp (FM.em (Um (dR T) (rm b) rfl T.qN.g T.qN.k T.qN.b zz (za (ev 2) (za (ev 3) zd))))))
   (zt (hse 5 jv.nd (hp (FM.em (Um (mq T) (rm b) rfl T.j9.g T.j9.k T.j9.b zz (za (ev 0) (za (ev 2) (za (ev 4) (za (ev 1) (za (EM.weak `i) zd)))))))))
   (zt (hse 6 jv.nd (Cc (c:=10) T.Cr (dY T) (rm b) rfl T.l7 T.gE zz (zV (hp (FM.em (Fy (c:=11) T.Cs (gT T) (rm b) rfl T.l8 T.gI zz (za (EM.weak (FM.em (jJ rfl rfl T.ZR (za (ev 2) zd)))) (za (EM.weak (FM.em (jJ rfl rfl T.ZR (za (ev 3) zd)))) zd))))) (zV (hp (FM.em (jJ rfl rfl T.ZR (za (ev 5) zd)))) Yv)) (λh G l g e=>a0K (·+1) ((yC (yC bN)) h G l g e))))
   (zt (hse 7 jv.nd (hp (FM.em (nQ rfl rfl T.og (za (FM.em (rA ["_law_trip"] [none] [0] rfl (by kernel_rfl) (Z5 (ev 5)) (λ_=>(j6 (i:=0) (show List.Nodup (["_law_trip"]:List Str)from by decide +kernel) rfl (.inl rfl))) (λ_=>Y_) (λ_=>(Ww (za (ix b (ev 0) ei) (za (zi (pv 0)) zd)))))) zd)))))
   (zt (hse 8 jv.nd (hp (ix b (ev 2) (ec (zu T) b T.zp zz (za (ev 0) (za (EM.weak ei) (za (EM.weak (qZ rfl T.vS (za (ev 2) zd))) zd)))))))
   (zt (OQ (S:=Tr) (fr':=false) (j:=9) [false,false,false,false,false,true] ["_law_trip"] [none] [0] jv.nd rfl rfl rfl (by kernel_rfl) (Z5 (ev 5)) (λ_=>(j6 (i:=0) (show List.Nodup (["_law_trip"]:List Str)from by decide +kernel) rfl (.inl rfl))) (λ_=>Y_) (λ_=>(ix b (ev 0) ei)))
   (zt (hse 10 jv.nd (hp (ec (mj T) b T.Yg zz (za (ev 0) (za (ev 4) (za (zi (pv 8)) (za (ev 5) zd)))))))
   (zt (Y3 (e_ (S:=Tr) (fr:=false) [false,false,true,false,true,false,false,true,true,true,true] (KQ (ec (ae T) b T.vT zz (za (ev 4) (za (ev 2) (za (ev 7) (za (zi (pv 8)) (za (ev 9) (za (ev 10) zd)))))))))
    (zt (hse 11 jv.nd (UA (MC T) (rm b) rfl T.rL.g T.rL.k T.rL.b zz (zV (zC (pv 6)) (zV (zC (pv 8)) (zV (hf (jJ rfl rfl T.ZR (za (ev 9) zd))) (zV (zC (pv 10)) Yv)))) (yC (yC (yC (yC bN))))))
   (yg (Y3 (e_ (S:=Tr) (fr:=false) [false,false,false,false,false,false,true,false,true,true,true,true] (nC (KQ (ec (Wk T) b T.vE zz (za (ev 6) (za (zi (pv 8)) (za (zi (pv 9)) (za (ev 10) (za (zi (pv 11)) (za (EM.weak (Y2 Y1)) zd))))))))))
    (yg (UC (hp (Y2 Y1))))
    qY)))
    qY)
   (zt (Y3 (e_ (S:=Tr) (fr:=false) [true] (KS b.units `i ei))
    (yg (bO (zC (pv 9))))
    qY)
   (zt (hse 12 jv.nd (hp (ix b (FM.em (qc (za (Jn KJ) (za (Jn KJ) (za (Jn KJ) zd))))) `i)))
   (zt (Y3 (e_ (S:=Tr) (fr:=false) [true] (KS b.units `i ei))
    (yg (K7 (zC (pv 9)) (zV (hp (ec (zu T) b T.zp zz (za (ev 0) (za (EM.weak ei) (za (EM.weak (zE zF zG ei (qZ rfl T.vS (za (ev 9) zd)))) zd))))) (zV (zC (pv 12)) Yv))))
    qY)
   (zt (Y3 (e_ (S:=Tr) (fr:=false) [true] (KS b.units `i ei))
    (yg (hse 8 jv.nd (zC (pv 12))))
    qY)
   (zt (hse 13 jv.nd (hp (ec (ae T) b T.vT zz (za (ev 4) (za (ev 2) (za (ev 7) (za (zi (pv 8)) (za (ev 9) (za (ev 10) zd)))))))))
   (zt (hse 11 jv.nd (uW (y6 b) (DE (zV (Gg (S:=Tr) (fr':=false) `h ["_law_name_here"] [none] [0] rfl (by kernel_rfl) (Z5 (ev 9)) (λ_=>(j6 (i:=0) (show List.Nodup (["_law_name_here"]:List Str)from by decide +kernel) rfl (.inl rfl))) (λ_=>Y_) (λ_=>(qc (za (zi (pv 0)) zd)))) (zV (DE (zV (hf (jJ rfl rfl T.ZR (za (ev 9) zd))) Yv)) Yv))) (hp `i)))
   (zt (Y3 (e_ (S:=Tr) (fr:=false) [true,false,false,false,false,false,false,false,false,false,false,false,false,true] (TWM.tm (fQ (KQ (ev 13)) (Uk (yI Ji Jk `i ei (yH _))))))
    (yg (hse 11 jv.nd (UA (QB T) (rm b) rfl T.yA.g T.yA.k T.yA.b zz (zV (zC (pv 4)) (zV (zC (pv 7)) (zV (zC (pv 8)) (zV (zC (pv 9)) (zV (zC (pv 10)) Yv))))) (yC (yC (yC (yC (yC bN))))))))
    qY)
   (zt (hse 14 jv.nd (DS (zC (pv 13)) (DR (DF b.units (zC (pv 11)) (UA (QB T) (rm b) rfl T.yA.g T.yA.k T.yA.b zz (zV (zC (pv 4)) (zV (zC (pv 7)) (zV (zC (pv 8)) (zV (zC (pv 9)) (zV (zC (pv 10)) Yv))))) (yC (yC (yC (yC (yC bN))))))))))
   (zt (Y3 (e_ (S:=Tr) (fr:=false) [false,false,false,false,false,false,true,false,true,true,true,true,false,false,true] (nC (KQ (ec (Wk T) b T.vE zz (za (ev 6) (za (zi (pv 8)) (za (zi (pv 9)) (za (ev 10) (za (zi (pv 11)) (za (ev 14) zd))))))))))
    (yg (UC (hp (Y2 Y1))))
    qY)
   (zt (hse 11 jv.nd (UA (dW T) (rm b) rfl T.jA.g T.jA.k T.jA.b zz (zV (zC (pv 0)) (zV (hp ei) (zV (zC (pv 11)) Yv))) (yC (yC (yC bN)))))
   (zt (hse 14 jv.nd (DS (zC (pv 13)) (DR (DF b.units (zC (pv 11)) (UA (QB T) (rm b) rfl T.yA.g T.yA.k T.yA.b zz (zV (zC (pv 4)) (zV (zC (pv 7)) (zV (zC (pv 8)) (zV (zC (pv 9)) (zV (zC (pv 10)) Yv))))) (yC (yC (yC (yC (yC bN))))))))))
   (yg (UC (hp (ec (Wk T) b T.vE zz (za (ev 6) (za (zi (pv 8)) (za (zi (pv 9)) (za (ev 10) (za (zi (pv 11)) (za (ev 14) zd))))))))))))))))))))))))))))))))
def zo(d:a ρ=.ok x)(c:b ρ=.ok y)(h:f x y=.ok z):mOp f a b ρ=.ok z:=by unfold mOp;rw[d,okb,c,okb,h]
def zw(h:ms ρ=.ok xs)(a:f xs=.ok x):zg f ms ρ=.ok x:=by unfold zg;rw[h,okb,a]
def zq(b:a ρ=.ok x)(h:ms ρ=.ok xs):zb a ms ρ=.ok (x::xs):=by unfold zb;rw[b,okb,h,okb]
def we(h:ms ρ=.ok xs)(a:xs.length<=sizeLine):vC ms ρ=.ok (.l xs):=by unfold vC;rw[h,okb,if_pos a]
def xB(b:a ρ=.ok (.i x))(c:0<n):mOp Jj a (mC (.i n)) ρ=.ok (.i (x % n)):=zo b rfl (fW c)
def O4(c:a ρ=.ok (.i x))(d:0<n)(b:n<1073741824):mOp p9 a (mC (.i n)) ρ=.ok (.i (x / n)):=zo c rfl (Dy d b)
def oG(b:a ρ=.ok (.i x)):zU (mOp (jG false) a (mC (.i n))) ρ=.ok (decide (x=n)):=by unfold zU;rw[zo b rfl (OF.trans (by rw[a1F]))];rfl
def QD(b:a ρ=.ok (.i x)):zU (mOp pGt a (mC (.i n))) ρ=.ok (decide (x>n)):=by unfold zU;rw[zo b rfl rfl];rfl
def gX(d:a ρ=.ok x)(c:b ρ=.ok y):cQ a b ρ=.ok (x&&y):=by
 unfold cQ;rw[d,okb];cases x
 .rfl
 .rw[c];rfl
def yn(h:c ρ=.ok x):sIf c a b ρ=if x=true then a ρ else b ρ:=by unfold sIf;rw[h,okb]
def Vw(h:m ρ=.ok x):vt m ρ=.ok (.rt x):=by unfold vt;rw[h,okb]
def MF(b:a ρ=.ok (.i x)):zU (mOp pLt a (mC (.i n))) ρ=.ok (decide (x<n)):=by unfold zU;rw[zo b rfl rfl];rfl
def zW(h:m ρ=.ok (.b b)):zU m ρ=.ok b:=by unfold zU;rw[h];rfl
def Vx(d:a ρ=.ok x)(c:b ρ=.ok y):mOr a b ρ=.ok (x||y):=by
 unfold mOr;rw[d,okb];cases x
 .rw[c];rfl
 .rfl
def b6(b:a ρ=.ok x):sF a ρ=.ok (!x):=by unfold sF;rw[b,okb]
def d7(d:a ρ=.ok (.b x))(c:b ρ=.ok (.b y)):rl a b ρ=.ok (.b (x&&y)):=by
 unfold rl;rw[d,okb];show(Out.ok x).bind _=_;rw[okb];cases x
 .rfl
 .rw[c];rfl
def sz5{z:Str}(h:z.length<=100000):z.length<=sizeLine:=a0l h `b
def signs_at(h:m ρ=.ok (.s z)):gh m ρ=.ok (z.cps.toList.map λc=>PV.s ⟨#[c]⟩):=by unfold gh;rw[h];rfl
def gY(h:ms ρ=.ok xs)(a:xs.length<=sizeLine):i9 ms ρ=.ok (.t xs):=by unfold i9;rw[h,okb,if_pos a]
def xC(c:a ρ=.ok false):cQ a b ρ=.ok false:=by unfold cQ;rw[c];rfl
def zx(h:p ρ G=.nx ρ' G')(a:q ρ' G'=o):qd p q ρ G=o:=by unfold qd;rw[h];exact a
def xD(h:p ρ G=.rt x G'):qd p q ρ G=.rt x G':=by unfold qd;rw[h]
def Vy(h:c ρ G=.ok false G'):hIf c p q ρ G=q ρ G':=by unfold hIf;rw[h];rfl
def ag(h:c ρ G=.ok true G'):hIf c p q ρ G=p ρ G':=by unfold hIf;rw[h];rfl
def b7(c:V3 bs ρ=some r)(a:m r=.ok b):hPT bs m ρ G=.ok b G:=by unfold hPT;rw[c];dsimp only;rw[a]
def Yl(d:V3 bs ρ=none)(c:Yu G bs ρ=some r)(a:m r=.ok b):hPT bs m ρ G=.ok b G:=by unfold hPT;rw[d,c];dsimp only;rw[a]
def XW(b:V3 bs ρ=some r)(a:m r=.ok x):hP bs m ρ G=.ok (.v x) G:=by unfold hP;rw[b];dsimp only;rw[a]
def yd(h:m ρ G=.ok x G'):kA i m ρ G=.nx (ρ.set i (some x)) G':=by unfold kA;rw[h];rfl
def mr(h:m ρ G=.ok x G'):lL m ρ G=.rt x G':=by unfold lL;rw[h];rfl
def d8:Yu G bs []=some []:=by cases bs<;>rfl
def Y4(h:Yu G [] ρ=some r):Yu G [] (a::ρ)=some (none::r):=by show(Yu G [] ρ).map _=_;rw[h];rfl
def qX(h:Yu G bs ρ=some r):Yu G (false::bs) (a::ρ)=some (none::r):=by show(Yu G bs ρ).map _=_;rw[h];rfl
def jH(a:qx G 8 x=some y)(h:Yu G bs ρ=some r):Yu G (true::bs) (some x::ρ)=some (some y::r):=by show(qx G 8 x).bind _=_;rw[a,h];rfl
def P2(h:a.length+b.length<=n)(c:n<=100000):zP (.s a) (.s b)=.ok (.s (a++b)):=by have:a.length+b.length<=sizeLine:=a0l (a0l h c) `b;unfold zP;simp only[this,if_true]
def xE(a:0<=i)(b:i<xs.length):pIx (.l xs) (.i i)=.ok (xs[i.toNat]'(`d)):=by rw[BL,bL a,S6 `a];rfl
def Y8{xs:RS}{i:Int}(b:0<=i)(a:i<xs.length):∃y∈xs,pIx (.l (xs.map .s)) (.i i)=.ok (.s y):=
 ⟨xs[i.toNat]'(`d),a0X _,by rw[xE b `c,a1m]⟩
def D9{xs:Sw}{i:Int}(b:0<=i)(a:i<xs.length):∃y∈xs,pIx (.l (xs.map .i)) (.i i)=.ok (.i y):=
 ⟨xs[i.toNat]'(`d),a0X _,by rw[xE b `c,a1m]⟩
def any_map{b c d:Type}[DecidableEq b]{f:c->d}{kvs:List (b×c)}{k:b}:(kvs.map λp=>(p.1,f p.2)).any (λa=>decide (a.1=k))=kvs.any (λa=>decide (a.1=k)):=by rw[a3I];rfl
def oH{b a c:Type}[DecidableEq b]{f:a->c}{kvs:List (b×a)}{k:b}{x:a}:dput (kvs.map λp=>(p.1,f p.2)) k (f x)=(dput kvs k x).map λp=>(p.1,f p.2):=by
 unfold dput;rw[any_map];split
 .rw[a0q,a0q];refine a0T λp _=>?_;show(if p.1=k then(p.1,f x)else(p.1,f p.2))=((if p.1=k then(p.1,x)else p).1,f (if p.1=k then(p.1,x)else p).2);split<;>rfl
 .rw[T5];rfl
theorem gZ{b c d:Type}[DecidableEq b]{f:c->d}:∀{a:List (b×c)}{k:b},zM (a.map λp=>(p.1,f p.2)) k=(zM a k).map f
 |[],_=>rfl
 | (j,u)::a,k=>by rw[T2,yt,yt,gZ];split<;>rfl
abbrev Wy:=Str×Str×Int
abbrev Ht:=List (Key×Int)
abbrev sk(z:Str):Key:=Sum.inr z
def wP(w:Wy):PV:=.t [.s w.1,.s w.2.1,.i w.2.2]
def hD(h:Ht):List (Key×PV):=h.map λp=>(p.1,.i p.2)
def xF:zM (hD h) k=(zM h k).map .i:=gZ
def MH:dput (hD h) k (.i v)=hD (dput h k v):=oH
def MJ:(hD h).length=h.length:=f8 _
def rlx(u:Ht×Bool)(w:Wy):Ht×Bool:=
 match zM u.1 (sk w.1)with
 |none=>u
 |some x=>match zM u.1 (sk w.2.1)with
  |none=>(dput u.1 (sk w.2.1) (x+w.2.2),true)
  |some y=>if x+w.2.2<y then(dput u.1 (sk w.2.1) (x+w.2.2),true)else u
def Gq(h:Ht):Nat:=(h.map λp=>p.2.toNat).sum
def Sup(V:List Wy)(o:Str)(h:Ht):Prop:=∀g y,zM h g=some y->g=sk o\/∃w∈V,sk w.2.1=g/\∃x,zM h (sk w.1)=some x/\x+w.2.2<=y
structure rX(V:List Wy)(K:SO)(o:Str)(h:Ht):Prop where
 sup:Sup V o h
 nd:(h.map (·.1)).Nodup
 sub:∀k∈h.map (·.1),k∈K
 pos:∀k x,zM h k=some x->0<=x
 own:zM h (sk o)=some 0
def XX(h:Ht)(w:Wy):Prop:=∀x,zM h (sk w.1)=some x->∃y,zM h (sk w.2.1)=some y/\y<=x+w.2.2
def Gr(K:SO)(h' h:Ht):Prop:=Prod.Lex (·<·) (·<·) (K.length-h'.length,Gq h') (K.length-h.length,Gq h)
theorem ah{d:Type}[DecidableEq d]:∀{a b:List d},a.Nodup->(∀x∈a,x∈b)->a.length<=b.length
 |[],b,_,_=>a0A _
 |x::a,b,i,h=>by have c:=h x v4;obtain⟨j,g⟩:=a0U.mp i;have:=ah g λy f=>(List.mem_erase_of_ne (show y≠x from λe=>j (e▸f))).mpr (h y (R9 _ f));rw[List.length_erase_of_mem c]at this;have l:=List.length_pos_of_mem c;rw[R4];omega
def rX.len{V:List Wy}{K:SO}{o:Str}{h:Ht}(i:rX V K o h):h.length<=K.length:=by
 have:=ah i.nd i.sub
 rwa [f8]at this
theorem xG{k:Key}{v:Int}:∀{h:Ht}{y:Int},(h.map (·.1)).Nodup->zM h k=some y->v.toNat<y.toNat->Gq (h.map λa=>if a.1=k then(a.1,v)else a)<Gq h
 |[],y,_,e,_=>by cases e
 | (j,x)::h,y,d,e,b=>by
  rw[yt]at e;obtain⟨g,f⟩:=a0U.mp d;by_cases c:j=k
  .subst c;rw[if_pos rfl]at e;cases e;have:(h.map λa=>if a.1=j then(a.1,v)else a)=h:=by
    conv=>rhs;rw[<- List.map_id h]
    refine a0T λp hp=>?_;rw[if_neg (λz=>g (a0F.mpr ⟨p,hp,z⟩))];rfl
   unfold Gq;rw[T2,this,if_pos rfl,T2,T2,a2z];exact Nat.add_lt_add_right b _
  .rw[if_neg c]at e;have:=xG f e b;unfold Gq at this ⊢;rw[T2,if_neg c,T2,T2,a2z];exact Nat.add_lt_add_left this _
def Sup.put{V:List Wy}{o:Str}{h:Ht}{w:Wy}{x:Int}(i:Sup V o h)(n:w∈V)(q:1<=w.2.2)(b:zM h (sk w.1)=some x)(f:∀y,zM h (sk w.2.1)=some y->x+w.2.2<y):Sup V o (dput h (sk w.2.1) (x+w.2.2)):=by
 have p:¬sk w.2.1=sk w.1:=λc=>by rw[<- c]at b;have:=f x b;omega
 intro g y e;rw[wF]at e;split at e
 .rename_i c;cases e;refine .inr ⟨w,n,c,x,?_,a0R _⟩;rw[wF,if_neg p];exact b
 .rcases i g y e with r|⟨l,d,m,j,a,le⟩
  .exact .inl r
  .refine .inr ⟨l,d,m,?_⟩;rw[wF];split
   .rename_i c;rw[<- c]at a;have:=f j a;exact⟨_,rfl,`d⟩
   .exact⟨j,a,le⟩
def D_{V:List Wy}{K:SO}{o:Str}{u:Ht×Bool}{w:Wy}(i:rX V K o u.1)(m:w∈V)(q:sk w.2.1∈K)(l:1<=w.2.2):rX V K o (rlx u w).1/\((rlx u w=u/\XX u.1 w)\/((rlx u w).2=true/\Gr K (rlx u w).1 u.1)):=by
 unfold rlx;cases g:zM u.1 (sk w.1)with
 |none=>exact⟨i,.inl ⟨rfl,λx e=>by rw[g]at e;cases e⟩⟩
 |some x=>
  have s:=i.pos _ _ g;cases b:zM u.1 (sk w.2.1)with
  |none=>
   have h:rX V K o (dput u.1 (sk w.2.1) (x+w.2.2)):=by
    refine⟨i.sup.put m l g (λy e=>by rw[b]at e;cases e),bR i.nd,λk d=>?_,λk y e=>?_,?_⟩
    .rw[K8,b]at d;rcases a0o.mp d with d|d
     .exact i.sub k d
     .rw[T9.mp d];exact q
    .rw[wF]at e;split at e
     .cases e;omega
     .exact i.pos k y e
    .rw[wF];split
     .rename_i z;rw[z]at b;rw[i.own]at b;cases b
     .exact i.own
   refine⟨h,.inr ⟨rfl,.left _ _ ?_⟩⟩;have n:=h.len;have:(dput u.1 (sk w.2.1) (x+w.2.2)).length=u.1.length+1:=by have:=a0K List.length (K8 (a:=u.1) (k:=sk w.2.1) (v:=x+w.2.2));rw[b,f8]at this;rw[this];simp
   dsimp only at n ⊢;omega
  |some y=>
   dsimp only;by_cases c:x+w.2.2<y
   .rw[if_pos c];have d:(zM u.1 (sk w.2.1)).isSome=true:=by rw[b];rfl
    have h:rX V K o (dput u.1 (sk w.2.1) (x+w.2.2)):=by
     refine⟨i.sup.put m l g (λz e=>by rw[b]at e;cases e;exact c),bR i.nd,λk f=>?_,λk z e=>?_,?_⟩
     .rw[K8,if_pos d]at f;exact i.sub k f
     .rw[wF]at e;split at e
      .cases e;omega
      .exact i.pos k z e
     .rw[wF];split
      .rename_i z;rw[z,i.own]at b;cases b;omega
      .exact i.own
    refine⟨h,.inr ⟨rfl,?_⟩⟩;have r:dput u.1 (sk w.2.1) (x+w.2.2)=u.1.map λj=>if j.1=sk w.2.1 then(j.1,x+w.2.2)else j:=by unfold dput;rw[wD,if_pos d]
    have p:=xG (v:=x+w.2.2) i.nd b `a;unfold Gr;rw[r,f8];exact .right _ p
   .rw[if_neg c];exact⟨i,.inl ⟨rfl,λz e=>by rw[g]at e;cases e;exact⟨y,b,`d⟩⟩⟩
def rY(e:Gr K a b)(d:Gr K b c):Gr K a c:=by unfold Gr at *;rw[Prod.lex_def]at *;omega
theorem oI{V:List Wy}{K:SO}{o:Str}:∀{W:List Wy}{u:Ht×Bool},rX V K o u.1->(∀w∈W,w∈V/\sk w.2.1∈K/\1<=w.2.2)->rX V K o (W.foldl rlx u).1/\((W.foldl rlx u=u/\∀w∈W,XX u.1 w)\/((W.foldl rlx u).2=true/\Gr K (W.foldl rlx u).1 u.1))
 |[],u,i,_=>⟨i,.inl ⟨rfl,λw h=>by cases h⟩⟩
 |w::W,u,i,e=>by
  obtain⟨v,g,m⟩:=e w v4;obtain⟨p,s⟩:=D_ i v g m;obtain⟨r,a⟩:=oI p λc h=>e c (R9 _ h);refine⟨r,?_⟩;rw[a1v];rcases s with⟨l,x⟩|⟨n,d⟩
  .rw[l]at a ⊢;rcases a with⟨b,f⟩|a
   .refine .inl ⟨b,λc h=>?_⟩;rcases T6.mp h with rfl|h
    .exact x
    .exact f c h
   .exact .inr a
  .rcases a with⟨b,f⟩|⟨q,j⟩
   .rw[b];exact .inr ⟨n,d⟩
   .exact .inr ⟨q,rY j d⟩
def Gs(r:Te):Prop:=∃a b c d,r=[a,b,c,d]
abbrev hSt(o:Str)(W:List Wy)(h:Ht)(b:Bool)(r:Te):Sto:=[some (.s o),some (.l (W.map wP)),some (.d (hD h)),some (.b b)]++r
def xH(b:a ρ=.ok (.s z))(c:zc i ρ=.ok (.d (hD h))):zU (mOp (pIn n) a (zc i)) ρ=.ok (xor n (zM h (sk z)).isSome):=by refine zW (zo b c ?_);show Out.ok (PV.b (xor n (zM (hD h) (sk z)).isSome))=_;rw[xF,a05]
def Eb(c:a ρ=.ok (.s z))(d:zc i ρ=.ok (.d (hD h)))(b:zM h (sk z)=some x):mOp pIx (zc i) a ρ=.ok (.i x):=by refine zo d c ?_;show ZH (zM (hD h) (sk z))=_;rw[xF,b];rfl
def b8(c:a ρ=.ok true):mOr a b ρ=.ok true:=by unfold mOr;rw[c];rfl
def Gu{o:Str}{W:List Wy}{h:Ht}{b:Bool}{w:Wy}{a7:Sz}(p:h.length<100000):∃f,jc [some (.s o),some (.l (W.map wP)),some (.d (hD h)),some (.b b),some (.s w.1),some (.s w.2.1),some (.i w.2.2),a7]=.ok (.nx [some (.s o),some (.l (W.map wP)),some (.d (hD (rlx (h,b) w).1)),some (.b (rlx (h,b) w).2),some (.s w.1),some (.s w.2.1),some (.i w.2.2),f]):=by
 have e:=yn (ρ:=[some (.s o),some (.l (W.map wP)),some (.d (hD h)),some (.b b),some (.s w.1),some (.s w.2.1),some (.i w.2.2),a7]) (a:=yk (qJ 7 (mOp zP (mOp pIx (zc 2) (zc 4)) (zc 6))) (sIf (mOr (zU (mOp (pIn true) (zc 5) (zc 2))) (zU (mOp pLt (zc 7) (mOp pIx (zc 2) (zc 5))))) (yk (FC 2 (zc 5) (zc 7)) (qJ 3 (mC (.b true)))) yB)) (b:=yB) (xH (n:=false) (a:=zc 4) (i:=2) rfl rfl);unfold rlx;cases g:zM h (sk w.1)with
 |none=>rw[g]at e;exact⟨a7,e⟩
 |some x=>
  rw[g]at e;have put:∀{d:Sto},d=[some (.s o),some (.l (W.map wP)),some (.d (hD h)),some (.b b),some (.s w.1),some (.s w.2.1),some (.i w.2.2),some (.i (x+w.2.2))]->yk (FC 2 (zc 5) (zc 7)) (qJ 3 (mC (.b true))) d=.ok (.nx [some (.s o),some (.l (W.map wP)),some (.d (hD (dput h (sk w.2.1) (x+w.2.2)))),some (.b true),some (.s w.1),some (.s w.2.1),some (.i w.2.2),some (.i (x+w.2.2))]):=λ{d} l=>by subst l;refine ze ⟨[some (.s o),some (.l (W.map wP)),some (.d (hD (dput h (sk w.2.1) (x+w.2.2)))),some (.b true),some (.s w.1),some (.s w.2.1),some (.i w.2.2),some (.i (x+w.2.2))].set 3 (some (.b b)),?_,rfl⟩;show(if(hD h).length<sizeLine then Out.ok (Fw.nx [some (.s o),some (.l (W.map wP)),some (.d (dput (hD h) (sk w.2.1) (.i (x+w.2.2)))),some (.b b),some (.s w.1),some (.s w.2.1),some (.i w.2.2),some (.i (x+w.2.2))])else .wall)=_;rw[if_pos (by rw[MJ];exact T7 p `b),MH];rfl
  have q:qJ 7 (mOp zP (mOp pIx (zc 2) (zc 4)) (zc 6)) [some (.s o),some (.l (W.map wP)),some (.d (hD h)),some (.b b),some (.s w.1),some (.s w.2.1),some (.i w.2.2),a7]=.ok (.nx [some (.s o),some (.l (W.map wP)),some (.d (hD h)),some (.b b),some (.s w.1),some (.s w.2.1),some (.i w.2.2),some (.i (x+w.2.2))]):=yp (zo (Eb rfl rfl g) rfl rfl);refine⟨some (.i (x+w.2.2)),e.trans ?_⟩;refine ze ⟨_,q,?_⟩;cases j:zM h (sk w.2.1)with
  |none=>refine(yn (b8 ((xH rfl rfl).trans (by rw[j];rfl)))).trans ?_;exact put rfl
  |some y=>
   dsimp only;have t:=yn (ρ:=[some (.s o),some (.l (W.map wP)),some (.d (hD h)),some (.b b),some (.s w.1),some (.s w.2.1),some (.i w.2.2),some (.i (x+w.2.2))]) (a:=yk (FC 2 (zc 5) (zc 7)) (qJ 3 (mC (.b true)))) (b:=yB) (Vx (x:=false) ((xH (n:=true) (a:=zc 5) (i:=2) rfl rfl).trans (by rw[j];rfl)) (zW (m:=mOp pLt (zc 7) (mOp pIx (zc 2) (zc 5))) (zo rfl (Eb rfl rfl j) rfl)));refine t.trans ?_;by_cases c:x+w.2.2<y
   .rw[if_pos c,S8 c];exact put rfl
   .rw[if_neg c,S7 c];rfl
theorem oJ{K:SO}{o:Str}{W:List Wy}(p:K.length<=1000)(n:∀w∈W,sk w.2.1∈K/\1<=w.2.2):∀{V:List Wy}{u:Ht×Bool}{r:Te},(∀w∈V,w∈W)->rX W K o u.1->Gs r->∃a,Gs a/\ZX Yy jc (V.map wP) (hSt o W u.1 u.2 r)=.ok (.nx (hSt o W (V.foldl rlx u).1 (V.foldl rlx u).2 a))
 |[],u,r,_,_,c=>⟨r,c,rfl⟩
 |w::V,u,r,j,i,c=>by obtain⟨x,z,y,d,rfl⟩:=c;obtain⟨f,e⟩:=Gu (o:=o) (W:=W) (h:=u.1) (b:=u.2) (w:=w) (a7:=d) (a1b (a0l i.len p) `b);obtain⟨g,m⟩:=n w (j w v4);obtain⟨v,_⟩:=D_ (u:=u) (w:=w) i (j w v4) g m;obtain⟨a,l,q⟩:=oJ p n (V:=V) (u:=rlx u w) (r:=[some (.s w.1),some (.s w.2.1),some (.i w.2.2),f]) (λs h=>j s (R9 _ h)) v ⟨_,_,_,_,rfl⟩;refine⟨a,l,?_⟩;rw[a1v,<- q];show(jc [some (.s o),some (.l (W.map wP)),some (.d (hD u.1)),some (.b u.2),some (.s w.1),some (.s w.2.1),some (.i w.2.2),d]).bind _=_;rw[e];rfl
theorem Ec(m:K.length<=1000)(g:∀w∈W,sk w.2.1∈K/\1<=w.2.2)(h:Ht)(i:rX W K o h)(r:Te)(p:Gs r):∃n a j,rX W K o a/\(∀w∈W,XX a w)/\j3 jd yL n (hSt o W h true r)=.ok (.nx (hSt o W a false j)):=by
 obtain⟨c,f,q⟩:=oJ m g (u:=(h,false)) (λw h=>h) i p;obtain⟨v,A⟩:=oI (u:=(h,false)) i λw h=>⟨h,g w h⟩;have y:yL (hSt o W h true r)=.ok (.nx (hSt o W (W.foldl rlx (h,false)).1 (W.foldl rlx (h,false)).2 c)):=ze ⟨hSt o W h false r,rfl,qz (yc rfl) q⟩;have one:∀{n d},j3 jd yL n (hSt o W (W.foldl rlx (h,false)).1 (W.foldl rlx (h,false)).2 c)=d->j3 jd yL (n+1) (hSt o W h true r)=d:=λ{n d} e=>by show(yL (hSt o W h true r)).bind _=_;rw[y];exact e
 rcases A with⟨s,l⟩|⟨z,b⟩
 .refine⟨2,h,c,i,l,one ?_⟩;rw[s];rfl
 .obtain⟨n,a,j,x,l,e⟩:=Ec m g (W.foldl rlx (h,false)).1 v c f;refine⟨n+1,a,j,x,l,one ?_⟩;rw[z];exact e
termination_by (K.length-h.length,Gq h)
decreasing_by exact b
def Kz(o:Str)(W:List Wy)(h:Ht):Prop:=rX W (sk o::W.map λw=>sk w.2.1) o h/\∀w∈W,XX h w
def b9(m:W.length<=100)(f:∀w∈W,1<=w.2.2):∃h,Kz o W h/\yE [.s o,.l (W.map wP)]=.ok (.d (hD h)):=by
 have d:rX W (sk o::W.map λw=>sk w.2.1) o [(sk o,0)]:=by
  refine⟨λg y e=>?_,a0U.mpr ⟨by simp,a3e⟩,λk l=>?_,λk x e=>?_,?_⟩
  .rw[yt]at e;split at e
   .rename_i c;exact .inl c.symm
   .cases e
  .rw[T9.mp l];exact v4
  .rw[yt]at e;split at e
   .cases e;exact a0R _
   .cases e
  .rw[yt,if_pos rfl]
 obtain⟨n,b,p,i,j,e⟩:=Ec `c (λw a=>⟨R9 _ (a0F.mpr ⟨w,a,rfl⟩),f w a⟩) [(sk o,0)] d [none,none,none,none] ⟨_,_,_,_,rfl⟩;refine⟨b,⟨i,j⟩,zN ?_⟩;exact ze ⟨_,rfl,ze ⟨hSt o W [(sk o,0)] true [none,none,none,none],rfl,ze ⟨_,uM e (by simp),rfl⟩⟩⟩
abbrev signs:Str:="abcdefghijklmnopqrstuvwxyz0123456789"
def str_inj{a b a' c:Str}(e:a.length=a'.length)(h:a++b=a'++c):a=a'/\b=c:=by have d:=a0K Str.cps h;have:=Array.append_inj d e;obtain⟨x⟩:=a;obtain⟨y⟩:=b;obtain⟨i⟩:=a';obtain⟨g⟩:=c;obtain⟨d,f⟩:=this;exact⟨a0K Str.mk d,a0K Str.mk f⟩
def Sgs(z:Str):Prop:=∀c∈z.cps.toList,c∈signs.cps.toList
def Sgs.app(g:Sgs a)(f:Sgs b):Sgs (a++b):=λc d=>by have e:(a++b).cps.toList=a.cps.toList++b.cps.toList:=Array.toList_append;rw[e]at d;exact(a0o.mp d).elim (g c) (f c)
def Nm(z:Str):Prop:=(1<=z.length/\z.length<=12)/\Sgs z
def nodup_range{d:Type}{f:Nat->d}(h:∀j k,j<n->k<n->f j=f k->j=k):((List.range n).map f).Nodup:=by rw[a2A,List.pairwise_map];refine List.Pairwise.imp_of_mem ?_ (a2A.mp List.nodup_range);intro a b i g c e;exact c (h a b (a0Z.mp i) (a0Z.mp g) e)
def WOk(N:RS)(W:List Wy):Prop:=∀w∈W,w.1∈N/\w.2.1∈N/\1<=w.2.2/\w.2.2<=1000000000
def kN{a:Type}{f:a->PV}{xs:List a}:vq [.l (xs.map f)]=.ok (.i (xs.length:Int)):=by show Out.ok (PV.i ((xs.map f).length:Int))=_;rw[f8]
def xI{N:RS}{s:Int}(h:0<N.length):∃z∈N,pIx (.l (N.map .s)) (.i (s % (N.length:Int)))=.ok (.s z):=
 Y8 (a2m _ `a) (a1U _ `a)
def Xt{fr:Bool}{n:Nat}{ms:MS}{xs:Sn}{ρ:Sto}(hf:fr=false)(h:ms (xs.map some++List.replicate (n-xs.length) none)=.ok (.nx ρ)):ZI fr n ms xs=.ok .n:=by subst hf;unfold ZI;rw[h];rfl
def z0(h:m ρ=.ok x):jo m ρ=.ok (.nx ρ):=by unfold jo;rw[h];rfl
def mw{x:PV}{n:Int}{k:Nat}(h:vq [x]=.ok (.i (k:Int)))(a:(k:Int)<=n):yQ [x,.i n]=.ok .n:=by refine Xt rfl ((yn (x:=false) (zW (zo (zw (xs:=[x]) rfl h) rfl ?_))).trans (show _=Out.ok (Fw.nx [some x,some (.i n)])from rfl));show Out.ok (PV.b (decide ((k:Int)>n)))=_;rw[S7 `a]
def xJ(h:Nm z):qp [.s z]=.ok (.s z):=by
 obtain⟨⟨l1,l2⟩,hs⟩:=h;have hl:vq [.s z]=.ok (.i z.length):=Lw (sz5 `a);have loop:∀{cs:RW}{o:Sz},(∀c∈cs,c∈signs.cps.toList)->∃o',ZX Yz je (cs.map λc=>PV.s ⟨#[c]⟩) [some (.s z),o]=.ok (.nx [some (.s z),o']):=by
  intro cs
  induction cs with
  |nil=>intro o _;exact⟨o,rfl⟩
  |cons c cs ih=>
   intro o hc;obtain⟨o',e⟩:=ih λx hx=>hc x (R9 _ hx);refine⟨o',?_⟩;have eb:je [some (.s z),some (.s ⟨#[c]⟩)]=.ok (.nx [some (.s z),some (.s ⟨#[c]⟩)]):=by refine(yn (x:=false) (zW (zo rfl rfl ?_))).trans rfl;show Out.ok (PV.b (xor true (!(Builtin.Str.occurrences signs ⟨#[c]⟩ 0 signs.length 1).isEmpty)))=_;rw[StrLaws.found_one,S8 (hc c v4)];rfl
   show(je [some (.s z),some (.s ⟨#[c]⟩)]).bind _=_;rw[eb];exact e
 obtain⟨o',e⟩:=loop (o:=none) hs;refine zN (ze ⟨_,(yn (Vx (x:=false) (y:=false) ((MF (zw rfl hl)).trans `c) ((QD (zw rfl hl)).trans `c))).trans rfl,ze ⟨_,qz (signs_at rfl) e,rfl⟩⟩)
def b_(P:RS):List (Key×PV):=P.map λz=>(sk z,.b true)
def oK(h:z∉P):zM (b_ P) (sk z)=none:=by
 cases e:zM (b_ P) (sk z)with
 |none=>rfl
 |some x=>have:=Jf e;obtain⟨y,b,a⟩:=a0F.mp this;cases a;exact absurd b h
def xK{N:RS}(c:N.Nodup)(g:∀z∈N,Nm z)(m:N.length<=12):qq [.l (N.map .s)]=.ok .n:=by
 have loop:∀{R P:RS}{o:Sz},P++R=N->∃b a,ZX YB jf (R.map .s) [some (.l (N.map .s)),some (.d (b_ P)),o]=.ok (.nx [some (.l (N.map .s)),some (.d (b_ b)),a]):=by
  intro R
  induction R with
  |nil=>intro P o _;exact⟨P,o,rfl⟩
  |cons z R f=>
   intro P o e;obtain⟨b,a,d⟩:=f (P:=P++[z]) (o:=some (.s z)) (by rw[a0n];exact e);refine⟨b,a,?_⟩;have hz:z∉P:=λh=>by rw[<- e]at c;exact(a1A.mp c).2.2 z h z v4 rfl
   have j:z∈N:=by rw[<- e];exact a0m _ v4
   have hp:(b_ P).length<=12:=by have:=a0K List.length e;rw[R7]at this;unfold b_;rw[f8];omega
   have en:z9 [.s z,.d (b_ P)]=.ok (.s z):=by refine zN (ze ⟨_,z0 (zw (xs:=[.s z]) rfl (xJ (g z j))),ze ⟨_,(yn (x:=false) (zW (zo (x:=.s z) (y:=.d (b_ P)) rfl rfl ?_))).trans (show _=Out.ok (Fw.nx [some (.s z),some (.d (b_ P))])from rfl),rfl⟩⟩);show Out.ok (PV.b (xor false (zM (b_ P) (sk z)).isSome))=_;rw[oK hz];rfl
   have i:dput (b_ P) (sk z) (.b true)=b_ (P++[z]):=by unfold dput;rw[wD,oK hz];unfold b_;rw[T5];rfl
   have l:jf [some (.l (N.map .s)),some (.d (b_ P)),some (.s z)]=.ok (.nx [some (.l (N.map .s)),some (.d (b_ (P++[z]))),some (.s z)]):=by refine ze ⟨_,z0 (zw (xs:=[.s z,.d (b_ P)]) rfl en),?_⟩;show(if(b_ P).length<sizeLine then Out.ok (Fw.nx [some (.l (N.map .s)),some (.d (dput (b_ P) (sk z) (.b true))),some (.s z)])else .wall)=_;rw[if_pos (a1b hp `b),i]
   show(jf [some (.l (N.map .s)),some (.d (b_ P)),some (.s z)]).bind _=_;rw[l];exact d
 obtain⟨b,a,e⟩:=loop (R:=N) (P:=[]) (o:=none) rfl;exact Xt rfl (ze ⟨[some (.l (N.map .s)),some (.d (b_ [])),none],rfl,qz (yc rfl) e⟩)
theorem MK{z:Str}:∀{N:RS},inP (.str z) (N.map .s)=some (decide (z∈N))
 |[]=>by rw[S7 (by simp)];rfl
 |y::N=>by
  show(match some (V.str y),inP (.str z) (N.map .s)with|some u,some b=>some (eqV u (.str z)||b)|_,_=>none)=_;rw[MK (N:=N)];show some ((y==z)||decide (z∈N))=_;congr 1;by_cases c:y=z
  .subst c;rw[a1I,S8 v4];rfl
  .rw[a0C.mpr c,Bool.false_or];by_cases h:z∈N
   .rw[S8 h,S8 (R9 _ h)]
   .rw[S7 h,S7 λq=>(T6.mp q).elim (λe=>c e.symm) h]
def Cu{z:Str}{N:RS}{n:Bool}:pIn n (.s z) (.l (N.map .s))=.ok (.b (xor n (decide (z∈N)))):=by show ZH ((inP (.str z) (N.map .s)).map λb=>PV.b (xor n b))=_;rw[MK];rfl
def kB{z:Str}{N:RS}(h:z∈N):yi [.s z,.l (N.map .s)]=.ok .n:=
 Xt rfl ((yn (x:=false) (zW (zo rfl rfl (Cu.trans `c)))).trans rfl)
def xM(b:1<=m)(a:m<=1000000000):zX [.i m,.i 1]=.ok (.i m):=by refine zN (ze ⟨_,(yn (Vx (x:=false) (y:=false) (zW (zo (x:=.i m) (y:=.i 1) rfl rfl ?_)) ((QD (x:=m) rfl).trans `c))).trans rfl,rfl⟩);show Out.ok (PV.b (decide (m<1)))=_;rw[S7 `a]
def Cv(h:WOk N W):jC [.l (N.map .s),.l (W.map wP)]=.ok .n:=by
 have loop:∀{V:List Wy}{a b c:Sz},(∀w∈V,w∈W)->∃f g d,ZX Jy kG (V.map wP) [some (.l (N.map .s)),some (.l (W.map wP)),a,b,c]=.ok (.nx [some (.l (N.map .s)),some (.l (W.map wP)),f,g,d]):=by
  intro V
  induction V with
  |nil=>intro a b c _;exact⟨a,b,c,rfl⟩
  |cons w V p=>
   intro a b c i;obtain⟨o,l,m,n⟩:=h w (i w v4);obtain⟨f,g,d,e⟩:=p (a:=some (.s w.1)) (b:=some (.s w.2.1)) (c:=some (.i w.2.2)) λx j=>i x (R9 _ j);refine⟨f,g,d,?_⟩;have q:kG [some (.l (N.map .s)),some (.l (W.map wP)),some (.s w.1),some (.s w.2.1),some (.i w.2.2)]=.ok (.nx [some (.l (N.map .s)),some (.l (W.map wP)),some (.s w.1),some (.s w.2.1),some (.i w.2.2)]):=
    ze ⟨_,z0 (zw (xs:=[.s w.1,.l (N.map .s)]) rfl (kB o)),ze ⟨_,z0 (zw (xs:=[.s w.2.1,.l (N.map .s)]) rfl (kB l)),z0 (zw (xs:=[.i w.2.2,.i 1]) rfl (xM m n))⟩⟩
   show(kG [some (.l (N.map .s)),some (.l (W.map wP)),some (.s w.1),some (.s w.2.1),some (.i w.2.2)]).bind _=_;rw[q];exact e
 obtain⟨f,g,d,e⟩:=loop (V:=W) (a:=none) (b:=none) (c:=none) λw h=>h;exact Xt rfl (qz (yc rfl) e)
def g5(N:RS)(F:Str->Ht):List (Key×PV):=N.map λz=>(sk z,.d (hD (F z)))
def roP(N:RS)(W:List Wy)(F:Str->Ht):PV:=.o 11 [("places",.l (N.map .s)),("ways",.l (W.map wP)),("lengths",.d (g5 N F))]
def oM:∀{acc:Sr},((acc++es).map (·.1)).Nodup->es.foldl (λacc kv=>dput acc kv.1 kv.2) acc=acc++es:=by
 induction es with
 |nil=>intro acc _;rw[a0i];rfl
 |cons e es ih=>
  intro acc nd;have hn:zM acc e.1=none:=by
   cases h:zM acc e.1 with
   |none=>rfl
   |some x=>have hm:e.1∈acc.map (·.1):=a0F.mpr ⟨_,Jf h,rfl⟩;rw[T5]at nd;exact absurd rfl ((a1A.mp nd).2.2 e.1 hm e.1 v4)
  have ed:dput acc e.1 e.2=acc++[e]:=by unfold dput;rw[wD,hn];rfl
  rw[a1v,ed,ih `c,a0n];rfl
def Cw(c:N.Nodup):((g5 N F).map (·.1)).Nodup:=by unfold g5;rw[a0q];exact List.Pairwise.map _ (λa b h e=>h (a1j e)) c
def Gv(h:o∈N):zM (g5 N F) (sk o)=some (.d (hD (F o))):=by
 induction N with
 |nil=>cases h
 |cons z N a=>
  unfold g5;rw[T2,yt];by_cases c:sk z=sk o
  .rw[if_pos c];rw[a1j c]
  .rw[if_neg c];exact a ((T6.mp h).resolve_left λe=>c (by rw[e]))
theorem oN{F:Str->Ht}:∀{N:RS},AS (N.map λz=>.t [.s z,.d (hD (F z))])=some (g5 N F)
 |[]=>rfl
 |z::N=>by show(AS (N.map λz=>.t [.s z,.d (hD (F z))])).map ((sk z,PV.d (hD (F z)))::·)=_;rw[oN];rfl
def xN(h:m (some (.o 11 fs)::r)=.ok v)(a:fs.length<1000):lz 0 [11] f m (some (.o 11 fs)::r)=.ok (.nx (some (.o 11 (AQ fs f v))::r)):=by unfold lz;rw[h];show(if 11∈[11]/\fs.length<1000 then Out.ok (Fw.nx (some (PV.o 11 (AQ fs f v))::r))else .wall)=_;rw[if_pos ⟨v4,a⟩]
structure ROk(N:RS)(W:List Wy):Prop where
 len:N.length<=12
 nd:N.Nodup
 nm:∀z∈N,Nm z
 wl:W.length<=60
 ok:WOk N W
def my(R:ROk N W):∃F:Str->Ht,∀z,Kz z W (F z)/\yE [.s z,.l (W.map wP)]=.ok (.d (hD (F z))):=
 ⟨λz=>Classical.choose (b9 (by have:=R.wl;omega) λw a=>(R.ok w a).2.2.1),λz=>a0p (b9 (by have:=R.wl;omega) λw a=>(R.ok w a).2.2.1)⟩
def Gw(R:ROk N W)(hF:∀z,yE [.s z,.l (W.map wP)]=.ok (.d (hD (F z)))):qE [.l (N.map .s),.l (W.map wP)]=.ok (roP N W F):=by
 have hl:=R.len;have hw:=R.wl;have ec:lcP Qx Qy Qz (N.map .s) [none,some (.l (W.map wP))] []=.ok (.l (N.map λz=>.t [.s z,.d (hD (F z))])):=by refine w_ PV.s (λz=>.t [.s z,.d (hD (F z))]) (λρ=>∃o,ρ=[o,some (.l (W.map wP))]) N [none,some (.l (W.map wP))] ⟨none,rfl⟩ (λz hz ρ ⟨o,ho⟩=>?_) `a;subst ho;exact⟨_,rfl,⟨_,rfl⟩,gY (zq rfl (zq (zw rfl (hF z)) rfl)) (S5 rfl)⟩
 have ed:Uz [.l (N.map λz=>.t [.s z,.d (hD (F z))])]=.ok (.d (g5 N F)):=by show ZH ((AS (N.map λz=>.t [.s z,.d (hD (F z))])).map λes=>PV.d (Uy es))=_;rw[oN];show Out.ok (PV.d (Uy (g5 N F)))=_;unfold Uy;rw[oM (by exact Cw R.nd)];rfl
 have e:wM [some (.o 11 []),some (.l (N.map .s)),some (.l (W.map wP))]=.ok (.nx [some (roP N W F),some (.l (N.map .s)),some (.l (W.map wP))]):=by refine ze ⟨_,z0 (zw rfl (mw kN `a)),ze ⟨_,z0 (zw rfl (mw kN `a)),ze ⟨_,z0 (zw rfl (xK R.nd R.nm hl)),ze ⟨_,z0 (zw rfl (Cv R.ok)),ze ⟨_,xN rfl `b,ze ⟨_,xN rfl (S5 rfl),(xN (zw (zq (Uw (yc rfl) ec) rfl) ed) (S5 rfl)).trans ?_⟩⟩⟩⟩⟩⟩;rfl
 show(match wM [some (.o 11 []),some (.l (N.map .s)),some (.l (W.map wP))]with | .ok (.nx ρ)=>(match ρ[0]? with|some (some x)=>Out.ok x|_=>.wall) | .ok (.rt _)=>.wall | .ok (.bk _)=>.wall | .ok (.ct _)=>.wall | .exc c fs=>.exc c fs | .wall=>.wall)=_;rw[e];rfl
def xO(h:m ρ=.ok (roP N W F)):Kj [11] "places" m ρ=.ok (.l (N.map .s))/\Kj [11] "lengths" m ρ=.ok (.d (g5 N F)):=by
 constructor
 .unfold Kj;rw[h];show(if 11∈[11]then ZH (List.lookup ("places":Str) [("places",PV.l (N.map .s)),("ways",.l (W.map wP)),("lengths",.d (g5 N F))])else .wall)=_;rfl
 .unfold Kj;rw[h];show(if 11∈[11]then ZH (List.lookup ("lengths":Str) [("places",PV.l (N.map .s)),("ways",.l (W.map wP)),("lengths",.d (g5 N F))])else .wall)=_;rfl
def Kz.Gx(g:Kz o W h)(e:zM h (sk z)=some y)(hz:z≠o):∃w∈W,w.2.1=z/\∃x,zM h (sk w.1)=some x/\x+w.2.2=y:=by
 rcases g.1.sup _ _ e with c|⟨w,f,a,x,b,le⟩
 .exact absurd (a1j c) hz
 .have a:=a1j a;obtain⟨j,d,i⟩:=g.2 w f x b;rw[a,e]at d;cases d;exact⟨w,f,a,x,b,`d⟩
def Ed:Option Int->PV
 |none=>.n
 |some x=>.i x
def ML(d:a ρ=.ok (.d (hD h)))(c:b ρ=.ok (.s z)):NL a b ρ=.ok (Ed (zM h (sk z))):=by unfold NL;rw[d];show(b ρ).bind (FY (hD h))=_;rw[c];show Out.ok ((zM (hD h) (sk z)).getD .n)=_;rw[xF];cases zM h (sk z)<;>rfl
def RI(d:a ρ=.ok (.d (g5 N F)))(c:b ρ=.ok (.s o))(e:o∈N):mOp pIx a b ρ=.ok (.d (hD (F o))):=by refine zo d c ?_;show ZH (zM (g5 N F) (sk o))=_;rw[Gv e];rfl
def cf(a:o∈N)(b:g∈N):zA [roP N W F,.s o,.s g]=.ok (Ed (zM (F o) (sk g))):=by have q:=xO (m:=zc 0) (ρ:=[some (roP N W F),some (.s o),some (.s g)]) (N:=N) (W:=W) (F:=F) rfl;exact zN (ze ⟨_,z0 (zw (xs:=[.s o,.l (N.map .s)]) (zq rfl (zq q.1 rfl)) (kB a)),ze ⟨_,z0 (zw (xs:=[.s g,.l (N.map .s)]) (zq rfl (zq q.1 rfl)) (kB b)),Vw (ML (RI q.2 rfl a) rfl)⟩⟩)
def XY(ha:a ρ=.ok (roP N W F))(hm:ms ρ=.ok xs)(h1:(nm==("places":Str))=false)(h2:(nm==("ways":Str))=false)(h3:(nm==("lengths":Str))=false)(h:f (roP N W F::xs)=.ok x):kX [(11,f)] nm a ms ρ=.ok x:=by unfold kX;rw[ha,okb];show(if(List.lookup nm [("places",PV.l (N.map .s)),("ways",.l (W.map wP)),("lengths",.d (g5 N F))]).isSome=true then Out.wall else(ms ρ).bind λxs=>f (roP N W F::xs))=_;rw[w4 h1,w4 h2,w4 h3,Dz,if_neg (by intro z;cases z),hm,okb];exact h
def ai(b:ms ρ=.ok [.s x,.s y])(a:m ρ=.ok (.dt L)):zU (gj n ms m) ρ=.ok (xor n (zM L [sk x,sk y]).isSome):=by refine zW ?_;unfold gj;rw[b];rw[a];rfl
def WN(a:m ρ=.ok (.dt L))(b:ms ρ=.ok [.s x,.s y])(e:zM L [sk x,sk y]=some v):iK m ms ρ=.ok (.i v):=by unfold iK;rw[a,b];show ZH ((zM L [sk x,sk y]).map PV.i)=_;rw[e];rfl
abbrev Lst:=List (List Key×Int)
def WS(N:RS)(W:List Wy):Prop:=∀w∈W,w.1∈N/\w.2.1∈N/\1<=w.2.2/\w.2.2<=3000000
def WS.ok(h:WS N W):WOk N W:=λw e=>by obtain⟨a,b,c,d⟩:=h w e;exact⟨a,b,c,`d⟩
def WS.app(h:WS N W)(f:a∈N)(d:g∈N)(e:1<=m)(c:m<=3000000):WS N (W++[(a,g,m)]):=λw b=>by
 rcases a0o.mp b with b|b
 .exact h w b
 .rw[T9.mp b];exact⟨f,d,e,c⟩
def xP(h:ρ[i]?=some (some (.dt L)))(b:ms ρ=.ok [.s x,.s y])(a:mv ρ=.ok (.i n))(c:L.length<100000):gk i ms mv ρ=.ok (.nx (ρ.set i (some (.dt (dput L [sk x,sk y] n))))):=by unfold gk;rw[a,h,b];show(if _ then _ else _)=_;exact if_pos (T7 c `b)
def oO{a b:Type}[DecidableEq a]{L:List (a×b)}{k:a}{v:b}:(dput L k v).length<=L.length+1:=by
 unfold dput;split
 .rw[f8];omega
 .rw[R7];exact S0 _
def MM:([sk a,sk b]=[sk c,sk d])↔(a=c/\b=d):=by simp
inductive WkM(N:RS)(W:List Wy)(M:RS):Str->Str->Int->Prop
 |nil {a}:a∈N->WkM N W M a a 0
 |edge {w:Wy}:w∈W->WkM N W M w.1 w.2.1 w.2.2
 |via {a m b u v}:m∈M->WkM N W M a m u->WkM N W M m b v->WkM N W M a b (u+v)
section
variable {N M:RS}{W:List Wy}{L L' L0:Lst}{a b m:Str}{u v:Int}
def WkM.nn(d:WS N W)(h:WkM N W M a b v):0<=v:=by
 induction h with
 |nil _=>exact a0R _
 |edge c=>have:=(d _ c).2.2.1;omega
 |via _ _ _ i j=>omega
def WkM.ends(d:WS N W)(h:WkM N W M a b v):a∈N/\b∈N:=by
 induction h with
 |nil h=>exact⟨h,h⟩
 |edge c=>exact⟨(d _ c).1,(d _ c).2.1⟩
 |via _ _ _ i j=>exact⟨i.1,j.2⟩
def WkM.split(r:∀z∈M',z∈M\/z=x)(c:WS N W)(h:WkM N W M' a b v):(∃u,u<=v/\WkM N W M a b u)\/∃s t,s+t<=v/\WkM N W M a x s/\WkM N W M x b t:=by
 induction h with
 |nil h=>exact .inl ⟨_,a0R _,.nil h⟩
 |edge B=>exact .inl ⟨_,a0R _,.edge B⟩
 |via f _ _ i j=>
  rcases r _ f with f|rfl
  .rcases i with⟨C,q,e⟩|⟨w,y,q,n,l⟩<;>rcases j with⟨D,p,o⟩|⟨s2,A,p,d,g⟩
   .exact .inl ⟨_,`d,.via f e o⟩
   .exact .inr ⟨_,_,`d,.via f e d,g⟩
   .exact .inr ⟨_,_,`d,n,.via f l o⟩
   .have:=l.nn c;have:=d.nn c;exact .inr ⟨_,_,`d,n,g⟩
  .rcases i with⟨C,q,e⟩|⟨w,y,q,n,l⟩<;>rcases j with⟨D,p,o⟩|⟨s2,A,p,d,g⟩
   .exact .inr ⟨_,_,`d,e,o⟩
   .have:=d.nn c;exact .inr ⟨_,_,`d,e,g⟩
   .have:=l.nn c;exact .inr ⟨_,_,`d,n,o⟩
   .have:=l.nn c;have:=d.nn c;exact .inr ⟨_,_,`d,n,g⟩
def at2(L:Lst)(a b:Str):Option Int:=zM L [sk a,sk b]
def Snd(N:RS)(W:List Wy)(L:Lst):Prop:=∀a b v,at2 L a b=some v->WkM N W N a b v
def yY(L:Lst)(a b:Str)(v:Int):Prop:=∃u,u<=v/\at2 L a b=some u
def Dwn(L L':Lst):Prop:=∀a b v,at2 L a b=some v->yY L' a b v
def Cmp(N:RS)(W:List Wy)(M:RS)(L:Lst):Prop:=∀a b v,WkM N W M a b v->yY L a b v
def Dwn.refl:Dwn L L:=λ_ _ v h=>⟨v,a0R _,h⟩
def yY.dwn(h:yY L a b v)(d:Dwn L L'):yY L' a b v:=by obtain⟨u,l,e⟩:=h;obtain⟨w,f,c⟩:=d _ _ _ e;exact⟨w,`d,c⟩
def Dwn.trans(d:Dwn L L')(d':Dwn L' L''):Dwn L L'':=λa b v h=>(d a b v h).dwn d'
def aj:at2 (dput L [sk a,sk b] v) c d=if a=c/\b=d then some v else at2 L c d:=by
 unfold at2;rw[wF];by_cases h:a=c/\b=d
 .rw[if_pos h,if_pos (MM.mpr h)]
 .rw[if_neg h,if_neg λe=>h (MM.mp e)]
def xQ(L:Lst)(a b:Str)(v:Int):Lst:=match at2 L a b with
 |some x=>if v<x then dput L [sk a,sk b] v else L
 |none=>dput L [sk a,sk b] v
def Jg:xQ L a b v=dput L [sk a,sk b] v/\(∀x,at2 L a b=some x->v<x)\/xQ L a b v=L/\∃x,x<=v/\at2 L a b=some x:=by
 unfold xQ;cases e:at2 L a b with
 |none=>exact .inl ⟨rfl,λx h=>nomatch h⟩
 |some x=>
  dsimp only;by_cases c:v<x
  .rw[if_pos c];exact .inl ⟨rfl,λy h=>by cases h;exact c⟩
  .rw[if_neg c];exact .inr ⟨rfl,x,`d,rfl⟩
def d9:Dwn L (xQ L a b v):=λc d w h=>by
 rcases Jg (v:=v)with⟨e,k⟩|⟨e,_⟩<;>rw[e]
 .unfold yY;rw[aj];by_cases q:a=c/\b=d
  .obtain⟨rfl,rfl⟩:=q;rw[if_pos ⟨rfl,rfl⟩];have:=k w h;exact⟨v,`d,rfl⟩
  .rw[if_neg q];exact⟨w,a0R _,h⟩
 .exact⟨w,a0R _,h⟩
def xR:yY (xQ L a b v) a b v:=by
 rcases Jg (L:=L) (a:=a) (b:=b) (v:=v)with⟨e,_⟩|⟨e,k⟩<;>rw[e]
 .unfold yY;rw[aj,if_pos ⟨rfl,rfl⟩];exact⟨v,a0R _,rfl⟩
 .exact k
def oP(h:Snd N W L)(f:WkM N W N a b v):Snd N W (xQ L a b v):=by
 rcases Jg (v:=v)with⟨e,_⟩|⟨e,k⟩<;>rw[e]
 .intro c d w e;rw[aj]at e;split at e
  .rename_i q;obtain⟨rfl,rfl⟩:=q;cases e;exact f
  .exact h _ _ _ e
 .exact h
def oQ:(xQ L a b v).length<=L.length+1:=by
 rcases Jg (L:=L) (a:=a) (b:=b) (v:=v)with⟨e,_⟩|⟨e,_⟩<;>rw[e]
 .exact oO
 .exact a0Y _
abbrev lSt(N:RS)(W:List Wy)(L:Lst)(p q r s t z:Sz):Sto:=[some (.l (N.map .s)),some (.l (W.map wP)),some (.dt L),p,q,r,s,t,z]
variable {p q r s t z:Sz}
def O5(B:N.length<=12):∃L p,L.length<=N.length/\Snd N W L/\(∀x∈N,yY L x x 0)/\ZX vV vW (N.map .s) (lSt N W [] none q r s t z)=.ok (.nx (lSt N W L p q r s t z)):=by
 obtain⟨y,⟨L,p,l,i,j,rfl⟩,e⟩:=Qb (g:=vV) (b:=vW) PV.s (λk o=>∃L p,L.length<=k/\Snd N W L/\(∀x∈N.take k,yY L x x 0)/\o=lSt N W L p q r s t z) N (lSt N W [] none q r s t z) ⟨[],none,S0 _,λ_ _ _ e=>(nomatch(show(none:SQ)=some _ from e)),λx f=>(nomatch f),rfl⟩ (λk A o ⟨L,p,l,i,j,n⟩=>by
  subst n;refine⟨_,rfl,_,⟨dput L [sk N[k],sk N[k]] 0,some (.s N[k]),a0l oO `a,λc d w e=>?_,λx f=>?_,rfl⟩,.inl (xP rfl rfl rfl `a)⟩
  .rw[aj]at e;split at e
   .rename_i h;obtain⟨rfl,rfl⟩:=h;cases e;exact .nil (a0X _)
   .exact i _ _ _ e
  .unfold yY;rw[aj];by_cases h:N[k]=x/\N[k]=x
   .rw[if_pos h];exact⟨0,a0R _,rfl⟩
   .rw[if_neg h];rw[a0z A]at f;rcases a0o.mp f with f|f
    .exact j x f
    .have:=T9.mp f;exact absurd ⟨this.symm,this.symm⟩ h)
 exact⟨L,p,l,i,λx f=>j x `c,e⟩
def oR(h:ks (lSt N W L p q r s t z)=.ok [.s a,.s b])(j:zc i (lSt N W L p q r s t z)=.ok (.i v))(l:L.length<100000):sIf (mOr (zU (gj true ks (zc 2))) (zU (mOp pLt (zc i) (iK (zc 2) ks)))) (gk 2 ks (zc i)) yB (lSt N W L p q r s t z)=.ok (.nx (lSt N W (xQ L a b v) p q r s t z)):=by
 have d:=ai (n:=true) (m:=zc 2) h rfl;have pt:=xP (i:=2) rfl h j l;unfold xQ at2;cases e:zM L [sk a,sk b]with
 |none=>rw[e]at d;exact(yn (b8 d)).trans pt
 |some x=>
  rw[e]at d;have g:=Vx d (zW (zo (f:=pLt) j (WN (m:=zc 2) rfl h e) rfl));dsimp only;by_cases c:v<x
  .rw[S8 c]at g;rw[if_pos c];exact(yn g).trans pt
  .rw[S7 c]at g;rw[if_neg c];exact(yn g)
def O6(B:L0.length<=12)(C:W.length<=60)(o:Snd N W L0):∃L q r s,L.length<=L0.length+W.length/\Snd N W L/\Dwn L0 L/\(∀w∈W,yY L w.1 w.2.1 w.2.2)/\ZX vX vY (W.map wP) (lSt N W L0 p none none none t z)=.ok (.nx (lSt N W L p q r s t z)):=by
 obtain⟨y,⟨L,q,r,s,l,d,f,h,rfl⟩,e⟩:=Qb (g:=vX) (b:=vY) wP (λk n=>∃L q r s,L.length<=L0.length+k/\Snd N W L/\Dwn L0 L/\(∀w∈W.take k,yY L w.1 w.2.1 w.2.2)/\n=lSt N W L p q r s t z) W (lSt N W L0 p none none none t z) ⟨L0,none,none,none,S0 _,o,Dwn.refl,λx c=>(nomatch c),rfl⟩ (λk A n ⟨L,q,r,s,l,d,f,h,j⟩=>by
  subst j;refine⟨_,rfl,_,⟨xQ L W[k].1 W[k].2.1 W[k].2.2,some (.s W[k].1),some (.s W[k].2.1),some (.i W[k].2.2),a0l oQ `a,oP d (.edge (a0X _)),f.trans d9,λx c=>?_,rfl⟩,.inl (oR (ks:=zb (zc 4) (zb (zc 5) zk)) (i:=6) rfl rfl `a)⟩;rw[a0z A]at c;rcases a0o.mp c with c|c
  .exact(h x c).dwn d9
  .rw[T9.mp c];exact xR)
 exact⟨L,q,r,s,l,d,f,λx c=>h x (by rw[a08];exact c),e⟩
end
section
variable {N M:RS}{W:List Wy}{L L' L0:Lst}{a b m:Str}{u v:Int}{p q r s t z:Sz}
def Gy(h:Snd N W L)(f:m∈N)(l:L.length<100000):∃L' C,L'.length<=L.length+1/\Snd N W L'/\Dwn L L'/\(∀x y,yY L a m x->yY L m b y->yY L' a b (x+y))/\jO (lSt N W L p (some (.s a)) (some (.s b)) s (some (.s m)) z)=.ok (.nx (lSt N W L' p (some (.s a)) (some (.s b)) s (some (.s m)) C)):=by
 have e:=λP Q=>yn (ρ:=lSt N W L p (some (.s a)) (some (.s b)) s (some (.s m)) z) (a:=P) (b:=Q) (gX (ai (n:=false) (ms:=zb (zc 4) (zb (zc 7) zk)) (m:=zc 2) (x:=a) (y:=m) (L:=L) rfl rfl) (ai (n:=false) (ms:=zb (zc 7) (zb (zc 5) zk)) (m:=zc 2) (x:=m) (y:=b) (L:=L) rfl rfl));cases c:zM L [sk a,sk m]with
 |none=>rw[c]at e;exact⟨L,z,a0Y _,h,Dwn.refl,λx y ⟨_,_,q⟩ _=>(nomatch(c.symm.trans q)),e _ _⟩
 |some x=>
  cases d:zM L [sk m,sk b]with
  |none=>rw[c,d]at e;exact⟨L,z,a0Y _,h,Dwn.refl,λx y _ ⟨_,_,q⟩=>(nomatch(d.symm.trans q)),e _ _⟩
  |some y=>rw[c,d]at e;refine⟨xQ L a b (x+y),some (.i (x+y)),oQ,oP h (.via f (h _ _ _ c) (h _ _ _ d)),d9,λD H ⟨g,F,o⟩ ⟨B,E,j⟩=>?_,(e _ _).trans (ze ⟨lSt N W L p (some (.s a)) (some (.s b)) s (some (.s m)) (some (.i (x+y))),yp (zo (WN rfl rfl c) (WN rfl rfl d) rfl),oR (ks:=zb (zc 4) (zb (zc 5) zk)) (i:=8) rfl rfl l⟩)⟩;obtain⟨w,G,A⟩:=xR (L:=L) (a:=a) (b:=b) (v:=x+y);cases(c.symm.trans o:some x=some g);cases(d.symm.trans j:some y=some B);exact⟨w,`d,A⟩
def O7(H:Snd N W L0)(C:m∈N)(O:N.length<=12)(K:L0.length<=10000):∃L h c,L.length<=L0.length+N.length/\Snd N W L/\Dwn L0 L/\(∀b∈N,∀x y,yY L0 a m x->yY L0 m b y->yY L a b (x+y))/\ZX vZ jO (N.map .s) (lSt N W L0 p (some (.s a)) r s (some (.s m)) z)=.ok (.nx (lSt N W L p (some (.s a)) h s (some (.s m)) c)):=by
 obtain⟨D,⟨L,h,c,l,w,i,n,rfl⟩,e⟩:=Qb (g:=vZ) (b:=jO) PV.s (λk B=>∃L h c,L.length<=L0.length+k/\Snd N W L/\Dwn L0 L/\(∀b∈N.take k,∀x y,yY L0 a m x->yY L0 m b y->yY L a b (x+y))/\B=lSt N W L p (some (.s a)) h s (some (.s m)) c) N (lSt N W L0 p (some (.s a)) r s (some (.s m)) z) ⟨L0,r,z,S0 _,H,Dwn.refl,λx d=>(nomatch d),rfl⟩ (λk E B ⟨L,h,c,l,w,i,n,o⟩=>by
  subst o;obtain⟨G,z2,J,s2,A,I,F⟩:=Gy (a:=a) (b:=N[k]) (p:=p) (s:=s) (z:=c) w C `a;refine⟨_,rfl,_,⟨G,some (.s N[k]),z2,`d,s2,i.trans A,λb f x y d j=>?_,rfl⟩,.inl F⟩;rw[a0z E]at f;rcases a0o.mp f with f|f
  .exact(n b f x y d j).dwn A
  .rw[T9.mp f]at j ⊢;exact I x y (d.dwn i) (j.dwn i))
 exact⟨L,h,c,l,w,i,λx d=>n x `c,e⟩
def O8(K:Snd N W L0)(D:m∈N)(I:N.length<=12)(Q:L0.length<=5000):∃L h f d,L.length<=L0.length+N.length*12/\Snd N W L/\Dwn L0 L/\(∀a∈N,∀b∈N,∀x y,yY L0 a m x->yY L0 m b y->yY L a b (x+y))/\ZX v5 v7 (N.map .s) (lSt N W L0 p q r s (some (.s m)) z)=.ok (.nx (lSt N W L p h f s (some (.s m)) d)):=by
 obtain⟨E,⟨L,h,f,d,l,o,i,j,rfl⟩,e⟩:=Qb (g:=v5) (b:=v7) PV.s (λk C=>∃L h f d,L.length<=L0.length+k*12/\Snd N W L/\Dwn L0 L/\(∀a∈N.take k,∀b∈N,∀x y,yY L0 a m x->yY L0 m b y->yY L a b (x+y))/\C=lSt N W L p h f s (some (.s m)) d) N (lSt N W L0 p q r s (some (.s m)) z) ⟨L0,q,r,z,S0 _,K,Dwn.refl,λx c=>(nomatch c),rfl⟩ (λk G C ⟨L,h,f,d,l,o,i,j,n⟩=>by
  subst n;obtain⟨J,F,z2,P,s2,B,O,H⟩:=O7 o D I `a;refine⟨_,rfl,_,⟨J,some (.s N[k]),F,z2,`d,s2,i.trans B,λa ha b w x y c A=>?_,rfl⟩,.inl (qz (yc rfl) H)⟩;rw[a0z G]at ha;rcases a0o.mp ha with ha|ha
  .exact(j a ha b w x y c A).dwn B
  .rw[T9.mp ha]at c ⊢;exact O b w x y (c.dwn i) (A.dwn i))
 exact⟨L,h,f,d,l,o,i,λx c=>j x `c,e⟩
def O9(T:Snd N W L0)(C:WS N W)(P:N.length<=12)(hl:L0.length<=100)(Y:Cmp N W [] L0):∃L d i c f,L.length<=5000/\Snd N W L/\Cmp N W N L/\ZX v8 v9 (N.map .s) (lSt N W L0 p q r s t z)=.ok (.nx (lSt N W L p d i s c f)):=by
 obtain⟨F,⟨L,d,i,c,f,l,A,j,rfl⟩,e⟩:=Qb (g:=v8) (b:=v9) PV.s (λk D=>∃L d i c f,L.length<=100+k*144/\Snd N W L/\Cmp N W (N.take k) L/\D=lSt N W L p d i s c f) N (lSt N W L0 p q r s t z) ⟨L0,q,r,t,z,`d,T,Y,rfl⟩ (λk J D ⟨L,d,i,c,f,l,A,j,y⟩=>by
  subst y;obtain⟨S,K,H,z2,Z,s2,R,U,O⟩:=O8 (m:=N[k]) (p:=p) (q:=d) (r:=i) (s:=s) (z:=f) A (a0X _) P `a;refine⟨_,rfl,_,⟨S,K,H,some (.s N[k]),z2,`d,s2,λa b v h=>?_,rfl⟩,.inl (qz (yc rfl) O)⟩;obtain⟨I,G⟩:=h.ends C;rw[a0z J]at h;rcases h.split (M:=N.take k) (x:=N[k]) (λz hz=>(a0o.mp hz).imp id T9.mp) C with⟨u,lu,w⟩|⟨Q,c,le,E,X⟩
  .obtain⟨n,o,B⟩:=(j _ _ _ w).dwn R;exact⟨n,`d,B⟩
  .obtain⟨n,o,B⟩:=U a I b G Q c (j _ _ _ E) (j _ _ _ X);exact⟨n,`d,B⟩)
 rw[a08]at j;exact⟨L,d,i,c,f,`d,A,j,e⟩
def LOk(N:RS)(L:Lst)(F:Str->Ht):Prop:=(∀a∈N,∀b∈N,zM L [sk a,sk b]=zM (F a) (sk b))
def g6(w:WS N W)(g:Kz o W F)(h:WkM N W N a b v):∀x,zM F (sk a)=some x->∃y,y<=x+v/\zM F (sk b)=some y:=by
 induction h with
 |nil _=>intro x e;exact⟨x,`d,e⟩
 |edge n=>intro x e;obtain⟨y,c,l⟩:=g.2 _ n x e;exact⟨y,l,c⟩
 |via _ _ _ i j=>intro x e;obtain⟨y,l,c⟩:=i x e;obtain⟨f,A,d⟩:=j y c;exact⟨f,`d,d⟩
def ao(h:WS N W)(g:Kz o W F)(i:o∈N):∀(n:Nat){z:Str}{y:Int},y.toNat<=n->zM F (sk z)=some y->WkM N W N o z y:=by
 intro n
 induction n with
 |zero=>
  intro z y l e;by_cases hz:z=o
  .subst hz;cases(g.1.own.symm.trans e);exact .nil i
  .obtain⟨w,f,_,x,d,c⟩:=g.Gx e hz;have:=(h w f).2.2.1;have:=g.1.pos _ _ d;omega
 |succ n j=>
  intro z y l e;by_cases hz:z=o
  .subst hz;cases(g.1.own.symm.trans e);exact .nil i
  .obtain⟨w,f,rfl,x,d,c⟩:=g.Gx e hz;have A:=h w f;rw[<- c];exact .via A.1 (j `a d) (.edge f)
def mz(d:WS N W)(n:N.length<=12)(E:W.length<=60)(c:∀z,Kz z W (F z)):∃L,LOk N L F/\qQ [.l (N.map .s),.l (W.map wP)]=.ok (.dt L):=by
 obtain⟨w,o,T,D,I,C⟩:=O5 (N:=N) (W:=W) (q:=none) (r:=none) (s:=none) (t:=none) (z:=none) n;obtain⟨O,B,A,g,S,s2,K,H,G⟩:=O6 (N:=N) (W:=W) (L0:=w) (p:=o) (t:=none) (z:=none) `a E D;have J:Cmp N W [] O:=λa b v h=>by
  cases h with
  |nil h=>exact(I _ h).dwn K
  |edge P=>exact H _ P
  |via h _ _=>cases h
 obtain⟨L,U,Z,Y,z3,_,x,i,Q⟩:=O9 (p:=o) (q:=B) (r:=A) (s:=g) (t:=none) (z:=none) s2 d n `a J;refine⟨L,λa j b R=>?_,zN (ze ⟨_,rfl,ze ⟨_,qz (yc rfl) C,ze ⟨_,qz (yc rfl) G,ze ⟨_,qz (yc rfl) Q,rfl⟩⟩⟩⟩)⟩;cases e:zM L [sk a,sk b]with
 |none=>
  cases f:zM (F a) (sk b)with
  |none=>rfl
  |some y=>obtain⟨u,_,q⟩:=i _ _ _ (ao d (c a) j _ (S0 _) f);cases(e.symm.trans q)
 |some v=>obtain⟨y,l,f⟩:=g6 d (c a) (x _ _ _ e) 0 (c a).1.own;obtain⟨u,X,q⟩:=i _ _ _ (ao d (c a) j _ (S0 _) f);cases(e.symm.trans q);rw[f,show y=v by omega]
def below(h:Ht)(y:Int):Nat:=(h.filter λp=>decide (p.2<y)).length
theorem oU{x y:Int}(l:x<=y):∀{h:Ht},below h x<=below h y
 |[]=>S0 _
 |p::h=>by
  have i:=oU l (h:=h);unfold below at i ⊢;rw[a1J,a1J];by_cases c:p.2<x
  .rw[if_pos (S8 c),if_pos (S8 (show p.2<y by omega))];exact a07 i
  .rw[if_neg `c];split
   .exact a11 i
   .exact i
theorem oV{x y:Int}(l:x<y):∀{h:Ht}{k:Key},(k,x)∈h->below h x+1<=below h y
 |[],_,e=>by cases e
 |p::h,k,e=>by
  unfold below;rw[a1J,a1J];rcases T6.mp e with e|e
  .subst e;rw[if_neg (by rw[S7 (show ¬x<x by omega)];decide),if_pos (S8 l)];exact a07 (oU (Int.le_of_lt l))
  .have i:=oV l e;unfold below at i;by_cases c:p.2<x
   .rw[if_pos (S8 c),if_pos (S8 (show p.2<y by omega))];exact a07 i
   .rw[if_neg (by rw[S7 c];decide)];split
    .exact a11 i
    .exact i
theorem g7{y:Int}:∀{h:Ht}{k:Key},(k,y)∈h->below h y+1<=h.length
 |[],_,e=>by cases e
 |p::h,k,e=>by
  unfold below;rw[a1J];rcases T6.mp e with e|e
  .subst e;rw[if_neg (by rw[S7 (show ¬y<y by omega)];decide),R4];exact a07 (List.length_filter_le _ _)
  .have i:=g7 e;unfold below at i;split
   .exact a07 i
   .exact a11 i
def g8(d:WS N W)(g:Kz o W F):∀(n:Nat){z:Str}{y:Int},y.toNat<=n->zM F (sk z)=some y->y<=3000000*(below F y:Int):=by
 intro n
 induction n with
 |zero=>intro z y h e;have:=g.1.pos _ _ e;omega
 |succ n A=>
  intro z y h e;by_cases hz:z=o
  .subst hz;cases(g.1.own.symm.trans e);omega
  .obtain⟨w,l,rfl,x,c,f⟩:=g.Gx e hz;have B:=d w l;have:=g.1.pos _ _ c;have i:=A (y:=x) `a c;have j:=oV (x:=x) (y:=y) `a (Jf c);omega
def rZ{F:Ht}{o:Str}(f:WS N W)(g:Kz o W F)(i:o∈N){z:Str}{y:Int}(e:zM F (sk z)=some y):0<=y/\y+3000000<=3000000*(N.length:Int):=by
 have a:=g8 f g _ (S0 _) e;have b:=g7 (Jf e);have c:F.length<=N.length:=by
  have:=ah (a:=F.map (·.1)) (b:=N.map sk) g.1.nd (λk d=>by
   rcases T6.mp (g.1.sub k d)with rfl|d
   .exact a1q i
   .obtain⟨w,h,rfl⟩:=a0F.mp d;exact a1q (f w h).2.1)
  rw[f8,f8]at this;exact this
 have:=g.1.pos _ _ e;omega
end
abbrev Tp:=Str×Str×Str×Int×Int×Int
def tP(t:Tp):PV:=.t [.s t.1,.s t.2.1,.s t.2.2.1,.i t.2.2.2.1,.i t.2.2.2.2.1,.i t.2.2.2.2.2]
structure TOk(N:RS)(F:Str->Ht)(t:Tp):Prop where
 org:t.2.1∈N
 goal:t.2.2.1∈N
 len:∃y,zM (F t.2.1) (sk t.2.2.1)=some y/\y<=t.2.2.2.2.1-t.2.2.2.1
 st:0<=t.2.2.2.1
 fw:t.2.2.2.1<t.2.2.2.2.1
 fin:t.2.2.2.2.1<=1000000000
 RP:0<=t.2.2.2.2.2/\t.2.2.2.2.2<=1000000000
def vd(T:List Tp):List (Key×PV):=T.map λt=>(sk t.1,tP t)
def Vz(h:z∉T.map (·.1)):zM (vd T) (sk z)=none:=by
 cases e:zM (vd T) (sk z)with
 |none=>rfl
 |some x=>obtain⟨t,a,b⟩:=a0F.mp (Jf e);cases b;exact absurd (a1q a) h
def aq(a:(T.map (·.1)).Nodup)(h:t∈T):zM (vd T) (sk t.1)=some (tP t):=by
 induction T with
 |nil=>cases h
 |cons u T d=>
  rw[T2]at a;obtain⟨c,b⟩:=a0U.mp a;show zM ((sk u.1,tP u)::vd T) (sk t.1)=_;rw[yt];rcases T6.mp h with rfl|h
  .rw[if_pos rfl]
  .rw[if_neg λe=>c (by rw[a1j e];exact a1q h)];exact d b h
def r_(hz:Nm z)(hB:zM B (sk z)=none):z9 [.s z,.d B]=.ok (.s z):=by refine zN (ze ⟨_,z0 (zw rfl (xJ hz)),ze ⟨_,(yn (x:=false) (zW (zo rfl rfl ?_))).trans rfl,rfl⟩⟩);show Out.ok (PV.b (xor false (zM B (sk z)).isSome))=_;rw[hB];rfl
def Wl(b:0<=m)(a:m<=1000000000):zX [.i m,.i 0]=.ok (.i m):=by refine zN (ze ⟨_,(yn (Vx (x:=false) (y:=false) (zW (zo (x:=.i m) (y:=.i 0) rfl rfl ?_)) ((QD (x:=m) rfl).trans `c))).trans rfl,rfl⟩);show Out.ok (PV.b (decide (m<0)))=_;rw[S7 `a]
section
variable {N:RS}{W:List Wy}{F:Str->Ht}{t:Tp}{T:List Tp}
def Cy(h:TOk N F t)(hn:Nm t.1)(hB:zM B (sk t.1)=none):qD [roP N W F,tP t,.d B]=.ok .n:=by
 obtain⟨ho,hg,⟨y,ey,ly⟩,s0,fw,f1,q0,q1⟩:=h;refine Xt rfl (ze ⟨_,z0 (zw rfl (r_ hn hB)),ze ⟨_,yp (XY (N:=N) (W:=W) (F:=F) rfl rfl rfl rfl rfl ((cf ho hg).trans (by rw[ey];rfl))),ze ⟨_,z0 (zw rfl (Wl s0 `a)),ze ⟨_,z0 (zw rfl (Wl `a f1)),ze ⟨_,z0 (zw rfl (Wl q0 q1)),ze ⟨[some (roP N W F),some (tP t),some (.d B),some (.i y)],(yn (x:=false) (zW (zo rfl rfl ?_))),ze ⟨[some (roP N W F),some (tP t),some (.d B),some (.i y)],(yn rfl).trans rfl,(yn (x:=false) (zW (zo rfl rfl ?_))).trans rfl⟩⟩⟩⟩⟩⟩⟩)
 .show Out.ok (PV.b (decide (t.2.2.2.2.1<=t.2.2.2.1)))=_;rw[S7 `a]
 .show Out.ok (PV.b (decide (t.2.2.2.2.1-t.2.2.2.1<y)))=_;rw[S7 `a]
def Gz(t:Tp):bQ:=(t.2.2.2.1,t.2.2.2.2.1,t.1)
theorem oW:∀{T:List Tp},dk zI (T.map tP)=some (T.map Gz)
 |[]=>rfl
 |t::T=>by
  have e:zI [tP t]=.ok (.t [.i t.2.2.2.1,.i t.2.2.2.2.1,.s t.1]):=zN (Vw (gY rfl (S5 rfl)));show(match zI [tP t]with
   |.ok (.t [.i a,.i b,.s c])=>(dk zI (T.map tP)).map ((a,b,c)::·)
   |_=>none)=_
  show(dk zI (T.map tP)).map _=_;rw[oW];rfl
def Hs(T:List Tp):List Tp:=(F2 (T.map Gz)).map λi=>T.getD i ("","","",0,0,0)
def Cz(c:(T.map (·.1)).Nodup)(f:T.length<64):B_ zI (T.map tP)=.ok (.l ((Hs T).map tP)):=by
 unfold B_;rw[if_pos `c,oW];have d:(T.map Gz).Nodup:=by
  have:((T.map Gz).map λk=>k.2.2)=T.map (·.1):=by rw[a0q];rfl
  rw[<- this]at c;exact List.Pairwise.of_map (S:=(·≠·)) (λk:bQ=>k.2.2) (λa b h e=>h (by rw[e])) c
 show(if(T.map Gz).Nodup then _ else _)=_;rw[if_pos d];unfold Hs;rw[a0q];congr 2;refine a0T λi g=>?_;have:=a0Z.mp ((dm (T.map Gz)).1.mem_iff.mp g);rw[f8]at this;show(T.map tP).getD i .n=tP (T.getD i _);rw[a03,a03,a0d,S6 this];rfl
end
def ga0{a:Type}{A:List a}{x y:a}:(A++[x,y])[A.length]?=some x:=by simp
def ga1{a:Type}{A:List a}{x y:a}:(A++[x,y])[A.length+1]?=some y:=by simp
def sa0{a:Type}{A:List a}{x y z:a}:(A++[x,y]).set A.length z=A++[z,y]:=by simp
def sa1{a:Type}{A:List a}{x y z:a}:(A++[x,y]).set (A.length+1) z=A++[x,z]:=by simp
theorem Ee{G:AH}{n:Nat}:∀{a:Sr},lJ (qx G (n+1)) (vK a)=some a
 |[]=>rfl
 | (k,x)::a=>by show((qx G (n+1) (.v x)).bind λy=>(lJ (qx G (n+1)) (vK a)).map ((k,y)::·))=_;rw[Ee];rfl
def AW(c:V3 bs ρ=none)(b:Yu G bs ρ=some r)(a:m r=.ok x)(d:imm x=true):hP bs m ρ G=.ok (.v x) G:=by unfold hP;rw[c,b];dsimp only;rw[a];dsimp only;rw[if_pos d]
def XZ(h:m ρ G=.ok x G'):UB m ρ G=.nx ρ G':=by unfold UB;rw[h];rfl
def d_(d:mv ρ G=.ok y G1)(e:mo ρ G1=.ok (.g k) G2)(g:G2[k]?=some (.o c fs))(b:c∈cs)(a:fs.length<1000):dq cs f mo mv ρ G=.nx ρ (G2.set k (.o c (UE f y fs))):=by
 unfold dq;rw[d];show((mo ρ G1).fw _)=_;rw[e];show(match G2[k]? with
  |some (.o c fs)=>if c∈cs/\fs.length<1000 then HFw.nx ρ (G2.set k (.o c (UE f y fs)))else .wall
  |_=>.wall)=_
 rw[g];dsimp only;rw[if_pos ⟨b,a⟩]
def GA(e:mv ρ G=.ok y G)(d:mo ρ G=.ok (.g k) G)(hz:mk ρ G=.ok (.v z) G)(f:G[k]?=some (.d a))(c:pk z=some q)(b:a.length<100000):LX mo mk mv ρ G=.nx ρ (G.set k (.d (dput a q y))):=by
 unfold LX;rw[e];show((mo ρ G).fw _)=_;rw[d];show((mk ρ G).fw _)=_;rw[hz];show(match G[k]?,pk z with
  |some (.d a),some q=>if a.length<sizeLine then HFw.nx ρ (G.set k (.d (dput a q y)))else .wall
  |_,_=>.wall)=_
 rw[f,c];dsimp only;rw[if_pos (T7 b `b)]
def GB(h:m ρ G=.ok (.g k) G)(b:G[k]?=some (.o c fs))(a:c∈cs)(hf:fs.lookup f=some z):LQ cs f m ρ G=.ok z G:=by
 unfold LQ;rw[h];show(match G[k]? with
  |some (.o c fs)=>if c∈cs then match fs.lookup f with
   |some z=>HX.ok z G
   |none=>.wall else .wall
  |_=>.wall)=_
 rw[b];dsimp only;rw[if_pos a,hf]
def Ef(h:ρ[i]?=some (some (.l xs)))(a:m ρ=.ok y)(b:xs.length<100000):Dv i m ρ=.ok (.nx (ρ.set i (some (.l (xs++[y]))))):=by unfold Dv;rw[h];show(m ρ).bind _=_;rw[a,okb,if_pos (T7 b `b)]
def MN{a:Type}{xs:List a}(h:0<=i):Jl xs none (some i)=xs.take i.toNat:=by
 show List.take ((if i<0 then(i+xs.length).toNat else min i.toNat xs.length)-0) (xs.drop 0)=_;rw[if_neg `a,Nat.sub_zero,List.drop_zero];by_cases c:i.toNat<=xs.length
 .rw[Nat.min_eq_left c]
 .rw[Nat.min_eq_right `a,a1z (S0 _),a1z `a]
def ej{a:Type}{xs:List a}{i:Int}(h:0<=i)(b:i<=xs.length):Jl xs (some i) none=xs.drop i.toNat:=by show List.take (xs.length-(if i<0 then(i+xs.length).toNat else min i.toNat xs.length)) (xs.drop (if i<0 then(i+xs.length).toNat else min i.toNat xs.length))=_;rw[if_neg `a,Nat.min_eq_left `a,a1z (by simp)]
def GC{a:Type}{x:a}{fs:List (Str×a)}:((f,x)::fs).lookup f=some x:=by simp
def CA{a:Type}{x:a}{fs:List (Str×a)}(h:(f==g)=false):((g,x)::fs).lookup f=fs.lookup f:=by simp[List.lookup,h]
section
variable {N:RS}{W:List Wy}{F:Str->Ht}{A:AH}{T P:List Tp}{ro:PV}
def tFs(ro:PV)(j:Nat):List (Str×HV):=[("roads",.v ro),("by_name",.g j)]
def tG(A:AH)(ro:PV)(T:List Tp):AH:=A++[.o 10 (tFs ro (A.length+1)),.d (vK (vd T))]
def oX(h:G[j]?=some (.d (vK (vd T)))):qx G (n+2) (.g j)=some (.d (vd T)):=by unfold qx;rw[h];show(lJ (qx G (n+1)) (vK (vd T))).map PV.d=_;rw[Ee];rfl
def MP:qx (tG A ro T) 8 (.g A.length)=some (.o 10 [("roads",ro),("by_name",.d (vd T))]):=by unfold qx tG;rw[ga0];show(lJ (qx _ 7) (tFs ro (A.length+1))).map (PV.o 10)=_;show(Option.map (PV.o 10) ((qx _ 7 (.v ro)).bind λy=>(((qx _ 7 (.g (A.length+1))).bind λy=>((some []).map ((("by_name":Str),y)::·))).map ((("roads":Str),y)::·))))=_;rw[oX (T:=T) ga1];rfl
def CB(h:t.1∉P.map (·.1)):dput (vK (vd P)) (sk t.1) (.v (tP t))=vK (vd (P++[t])):=by unfold vK;rw[oH];unfold dput;rw[wD,Vz h];unfold vd;rw[T5];rfl
def CC:∀{R P:List Tp}{o:Option HV},(∀t∈R,TOk N F t/\Nm t.1)->((P++R).map (·.1)).Nodup->(P++R).length<=40->∃d,sJ jS y8 ((R.map tP).map .v) [some (.g A.length),some (.v (roP N W F)),some (.v T0),o] (tG A (roP N W F) P)=.nx [some (.g A.length),some (.v (roP N W F)),some (.v T0),d] (tG A (roP N W F) (P++R)):=by
 intro R
 induction R with
 |nil=>intro P o _ _ _;rw[a0i];exact⟨o,rfl⟩
 |cons t R x=>
  intro P o i f g;have e:P++[t]++R=P++t::R:=by rw[a0n];rfl
  obtain⟨d,j⟩:=x (o:=some (.v (tP t))) (λu l=>i u (R9 _ l)) (by rw[e];exact f) (by rw[e];exact g);rw[e]at j;refine⟨d,?_⟩;have hz:=λh=>by rw[T5,T2]at f;exact(a1A.mp f).2.2 _ h _ v4 rfl
  have hp:P.length<=40:=by rw[R7]at g;omega
  obtain⟨w,r⟩:=i t v4;have s:Kj [10] "by_name" (zc 0) [some (.o 10 [("roads",roP N W F),("by_name",.d (vd P))]),some (roP N W F),none,some (tP t)]=.ok (.d (vd P)):=by show(if 10∈[10]then ZH (List.lookup ("by_name":Str) [("roads",roP N W F),("by_name",PV.d (vd P))])else .wall)=_;rfl
  have m:hP [true,true,false,true] (zg qD (zb (zc 1) (zb (zc 3) (zb (Kj [10] "by_name" (zc 0)) zk)))) [some (.g A.length),some (.v (roP N W F)),some (.v T0),some (.v (tP t))] (tG A (roP N W F) P)=.ok (.v .n) (tG A (roP N W F) P):=
   AW rfl (jH MP (jH rfl (qX (jH rfl d8)))) (zw (zq rfl (zq rfl (zq s rfl))) (Cy (W:=W) w r (Vz hz))) rfl
  have n:LX (LQ [10] "by_name" (zT 0)) (hP [false,false,false,true] (mOp pIx (zc 3) (mC (.i 0)))) (zT 3) [some (.g A.length),some (.v (roP N W F)),some (.v T0),some (.v (tP t))] (tG A (roP N W F) P)=.nx [some (.g A.length),some (.v (roP N W F)),some (.v T0),some (.v (tP t))] (tG A (roP N W F) (P++[t])):=by refine(GA (z:=.s t.1) (q:=sk t.1) rfl (GB rfl ga0 v4 rfl) (XW rfl rfl) ga1 rfl (by unfold vK vd;rw[f8,f8];omega)).trans ?_;unfold tG;rw[sa1,CB hz]
  have p:y8 [some (.g A.length),some (.v (roP N W F)),some (.v T0),some (.v (tP t))] (tG A (roP N W F) P)=.nx [some (.g A.length),some (.v (roP N W F)),some (.v T0),some (.v (tP t))] (tG A (roP N W F) (P++[t])):=zx (XZ m) n;show(match y8 [some (.g A.length),some (.v (roP N W F)),some (.v T0),some (.v (tP t))] (tG A (roP N W F) P)with
   |.nx a b=>sJ jS y8 ((R.map tP).map .v) a b
   |.ct a b=>sJ jS y8 ((R.map tP).map .v) a b
   |.bk a b=>.nx a b
   |.rt v b=>.rt v b
   |.exc c fs b=>.exc c fs b
   |.wall=>.wall)=_
  rw[p];exact j
def sO(T:List Tp):PV:=.l ((Hs T).map λt=>.s t.1)
def Hu(A:AH)(ro:PV)(T:List Tp):AH:=A++[.o 10 [("roads",.v ro),("by_name",.g (A.length+1)),("order",.v (sO T))],.d (vK (vd T))]
def Jm(ro:PV)(T:List Tp):PV:=.o 10 [("roads",ro),("by_name",.d (vd T)),("order",sO T)]
def GD:(Hs T).length=T.length:=by unfold Hs;rw[f8,(dm (T.map Gz)).1.length_eq,a0v,f8]
def CD(n:∀t∈T,TOk N F t/\Nm t.1)(d:(T.map (·.1)).Nodup)(l:T.length<=40):Yj [.g A.length,.v (roP N W F),.v (.l (T.map tP))] (A++[.o 10 []])=.ok (.v .n) (Hu A (roP N W F) T):=by
 obtain⟨b,f⟩:=CC (P:=[]) n d l;have s:(A++[Cell.o 10 []])[A.length]?=some (.o 10 []):=by simp
 have j:UB (hP [false,false,true] (zg yQ (zb (zc 2) (zb (mC (.i 40)) zk)))) [some (.g A.length),some (.v (roP N W F)),some (.v (.l (T.map tP))),none] (A++[.o 10 []])=.nx [some (.g A.length),some (.v (roP N W F)),some (.v (.l (T.map tP))),none] (A++[.o 10 []]):=XZ (XW rfl (zw rfl (mw kN `a)));have m:dq [10] "roads" (zT 0) (zT 1) [some (.g A.length),some (.v (roP N W F)),some (.v (.l (T.map tP))),none] (A++[.o 10 []])=.nx [some (.g A.length),some (.v (roP N W F)),some (.v (.l (T.map tP))),none] (A++[.o 10 [("roads",.v (roP N W F))]]):=by refine(d_ rfl rfl s v4 `b).trans ?_;rw[show(A++[Cell.o 10 []]).set A.length (.o 10 (UE "roads" (.v (roP N W F)) []))=A++[.o 10 [("roads",.v (roP N W F))]] by simp[UE]]
 have h:(A++[Cell.o 10 [("roads",.v (roP N W F))]]++[.d []])[A.length]?=some (.o 10 [("roads",.v (roP N W F))]):=by simp
 have r:dq [10] "by_name" (zT 0) (hF [] BK) [some (.g A.length),some (.v (roP N W F)),some (.v (.l (T.map tP))),none] (A++[.o 10 [("roads",.v (roP N W F))]])=.nx [some (.g A.length),some (.v (roP N W F)),some (.v (.l (T.map tP))),none] (tG A (roP N W F) []):=by
  refine(d_ rfl rfl h v4 (by simp)).trans ?_;have e:UE "by_name" (.g (A++[Cell.o 10 [("roads",.v (roP N W F))]]).length) [("roads",.v (roP N W F))]=tFs (roP N W F) (A.length+1):=by rw[R7];show(if(("roads":Str)="by_name")then _ else _)=_;rfl
  rw[e,show A++[Cell.o 10 [("roads",.v (roP N W F))]]++[.d []]=A++[.o 10 [("roads",.v (roP N W F))],.d []] by rw[a0n];rfl,sa0];rfl
 have q:lcP wb wc wd ((Hs T).map tP) [none] []=.ok (sO T):=
  w_ tP (λt=>PV.s t.1) (λg=>∃o,g=[o]) _ _ ⟨none,rfl⟩ (λt _ g ⟨o,i⟩=>by subst i;exact⟨_,rfl,⟨_,rfl⟩,zo rfl rfl rfl⟩) (by rw[GD];omega)
 have p:dq [10] "order" (zT 0) (hP [false,false,true] (mLC (ye (nZ zI (zb (zc 2) zk))) [none] wb wc wd)) [some (.g A.length),some (.v (roP N W F)),some (.v (.l (T.map tP))),b] (tG A (roP N W F) T)=.nx [some (.g A.length),some (.v (roP N W F)),some (.v (.l (T.map tP))),b] (Hu A (roP N W F) T):=by
  refine(d_ (XW rfl (Uw (yc (Cz d `a)) q)) rfl ga0 v4 (by show 2<1000;decide)).trans ?_;have e:UE "order" (.v (sO T)) (tFs (roP N W F) (A.length+1))=([("roads",.v (roP N W F)),("by_name",.g (A.length+1)),("order",.v (sO T))]:List (Str×HV)):=by show(if(("roads":Str)="order")then _ else _::(if(("by_name":Str)="order")then _ else _))=_;rfl
  unfold Hu;rw[e,sa0]
 have ev:vA [some (.g A.length),some (.v (roP N W F)),some (.v (.l (T.map tP))),none] (A++[.o 10 []])=.nx [some (.g A.length),some (.v (roP N W F)),some (.v (.l (T.map tP))),b] (Hu A (roP N W F) T):=
  zx j (zx m (zx r (zx f p)))
 show(match vA [some (.g A.length),some (.v (roP N W F)),some (.v (.l (T.map tP))),none] (A++[.o 10 []])with
  |.nx _ a=>HX.ok (HV.v .n) a
  |.rt x a=>.ok x a
  |.exc c fs a=>.exc c fs a
  |_=>.wall)=_
 rw[ev]
def GF(h:G[k]?=some (.o 10 [("roads",.v ro),("by_name",.g j),("order",.v (sO T))]))(a:G[j]?=some (.d (vK (vd T)))):qx G (n+3) (.g k)=some (Jm ro T):=by unfold qx;rw[h];show(Option.map (PV.o 10) ((qx _ (n+2) (.v ro)).bind λy=>(((qx _ (n+2) (.g j)).bind λy=>((((qx _ (n+2) (.v (sO T))).bind λy=>((some []).map ((("order":Str),y)::·)))).map ((("by_name":Str),y)::·))).map ((("roads":Str),y)::·))))=_;rw[oX a];rfl
end
def Wm(h:p ρ=.exc c fs):yk p q ρ=.exc c fs:=by unfold yk;rw[h];rfl
def qh{fr:Bool}{n:Nat}{ms:MS}{xs:Sn}{c:Nat}{fs:Ss}(h:ms (xs.map some++List.replicate (n-xs.length) none)=.exc c fs):ZI fr n ms xs=.exc c fs:=by unfold ZI;rw[h]
def g9(h:m ρ=.ok (Jm ro T)):Kj [10] "by_name" m ρ=.ok (.d (vd T)):=by unfold Kj;rw[h];show(if 10∈[10]then ZH (List.lookup ("by_name":Str) [("roads",ro),("by_name",PV.d (vd T)),("order",sO T)])else .wall)=_;rfl
def Ym(h:m ρ=.ok (Jm ro T)):Kj [10] "roads" m ρ=.ok ro:=by unfold Kj;rw[h];show(if 10∈[10]then ZH (List.lookup ("roads":Str) [("roads",ro),("by_name",PV.d (vd T)),("order",sO T)])else .wall)=_;rfl
def xS(c:(T.map (·.1)).Nodup)(a:t∈T):zB [Jm ro T,.s t.1]=.ok (tP t):=by
 have b:=g9 (m:=zc 0) (ρ:=[some (Jm ro T),some (.s t.1)]) (ro:=ro) (T:=T) rfl;have e:=aq c a;refine zN (ze ⟨_,(yn (x:=false) (zW (zo (x:=.s t.1) rfl b ?_))).trans (show _=Out.ok (Fw.nx [some (Jm ro T),some (.s t.1)])from rfl),Vw (zo b (y:=.s t.1) rfl ?_)⟩)
 .show Out.ok (PV.b (xor true (zM (vd T) (sk t.1)).isSome))=_;rw[e];rfl
 .show ZH (zM (vd T) (sk t.1))=_;rw[e];rfl
def xT(hz:z∉T.map (·.1)):zB [Jm ro T,.s z]=.exc 7 [("name",.s z)]:=by have b:=g9 (m:=zc 0) (ρ:=[some (Jm ro T),some (.s z)]) (ro:=ro) (T:=T) rfl;refine qh (Wm ((yn (x:=true) (zW (zo (x:=.s z) rfl b ?_))).trans rfl));show Out.ok (PV.b (xor true (zM (vd T) (sk z)).isSome))=_;rw[Vz hz];rfl
def oY(d:a ρ=.ok (Jm ro T))(c:ms ρ=.ok b):kX [(10,f)] "trip" a ms ρ=f (Jm ro T::b):=by unfold kX;rw[d];show(if(List.lookup ("trip":Str) [("roads",ro),("by_name",PV.d (vd T)),("order",sO T)]).isSome=true then Out.wall else(ms ρ).bind λb=>f (Jm ro T::b))=_;rw[w4 rfl,w4 rfl,w4 rfl,if_neg (by simp),c,okb]
def yj(d:0<=k)(g:k<=1000)(f:0<m):∃x:Int,0<=x/\x<m/\zf [.sc ns,.i k,.i m]=.ok (.i x):=by
 obtain⟨c,j,o,q⟩:∃c:Int,0<=c/\c<1000000007/\sIf (zU (mOp pGt (zg vq (zb (zc 0) zk)) (mC (.i 0)))) (qJ 3 (mOp Jj (mOp pIx (zc 0) (mOp Jj (zc 1) (zg vq (zb (zc 0) zk)))) (mC (.i 1000000007)))) yB [some (.sc ns),some (.i k),some (.i m),some (.i 5)]=.ok (.nx [some (.sc ns),some (.i k),some (.i m),some (.i c)]):=by
  have l:zg vq (zb (zc 0) zk) [some (.sc ns),some (.i k),some (.i m),some (.i 5)]=.ok (.i (ns.length:Int)):=zw (xs:=[.sc ns]) rfl rfl;have t:=λP Q=>yn (a:=P) (b:=Q) (QD (n:=0) l);by_cases c:(ns.length:Int)>0
  .rw[S8 c]at t;have h:=a2m k (show(ns.length:Int)≠0 by omega);have i:=a1U k c;have e:pIx (.sc ns) (.i (k % (ns.length:Int)))=.ok (.i (ns[(k % (ns.length:Int)).toNat]'(`d))):=by show ZH ((atI ns _).map PV.i)=_;rw[bL h,S6 `a];rfl
   exact⟨_,a2m _ `b,a1U _ `b,(t _ _).trans (yp (xB (zo rfl (zo rfl l (fW c)) e) `b))⟩
  .rw[S7 c]at t;exact⟨5,by decide,by decide,t _ _⟩
 have kk:0<=k*k/\k*k<=1000000:=⟨Int.mul_nonneg d d,a2N (Int.mul_le_mul g g d `b) `b⟩;exact⟨_,a2m _ `a,a1U _ f,zN (ze ⟨_,rfl,ze ⟨_,q,Vw (zo (O4 (xB (zo (zo (zo rfl (zo rfl rfl (Qa `b `b)) rfl) rfl rfl) (zo rfl (zo rfl rfl (Qa `a `a)) rfl) (Qa `a `a)) `b) `b `b) rfl (fW f))⟩⟩)⟩
abbrev mB:Str:="abcdefghijklmnopqrstuvwyz0123456789"
def s2(r:Int):Str:=⟨#[(mB.cps.toList[r.toNat]?).getD 0]⟩
def g_:mB.length=35:=by decide +kernel
def MQ:∀a:Fin 35,∀b:Fin 35,s2 (a.val:Int)=s2 (b.val:Int)->a=b:=by decide +kernel
def O_:∀a:Fin 35,(mB.cps.toList[a.val]?).getD 0∈signs.cps.toList:=by decide +kernel
def Pa(b:0<=r)(d:r<35):pIx (.s mB) (.i r)=.ok (.s (s2 r)):=by
 unfold pIx;have c:mB.length<=sizeLine:=by rw[g_];decide
 simp only[c,if_true];have a:r.toNat<mB.cps.toList.length:=by have:=g_;unfold Str.length at this;simp;omega
 rw[bL b];unfold s2;rw[S6 a];rfl
def NQ:∀a:Fin 13,(Txt.mul "x" (a.val:Int)).length=a.val/\∀c∈(Txt.mul "x" (a.val:Int)).cps.toList,c∈signs.cps.toList:=by decide +kernel
def nmX(a b:Nat)(n:Nat):Str:=Txt.mul "x" (a:Int)++s2 (n:Int)++Txt.mul "x" ((b:Int)+(n:Int) % 2)
def str_len{a b:Str}:(a++b).length=a.length+b.length:=Array.size_append
def Eg(h:a+b<=10)(g:n<35):Nm (nmX a b n):=by
 obtain⟨f,j⟩:=NQ ⟨a,`d⟩;have e:b+n % 2=((b+n % 2:Nat):Int):=`d
 obtain⟨d,i⟩:=NQ ⟨b+n % 2,`d⟩;unfold nmX;rw[e];refine⟨?_,((show Sgs _ from j).app λc l=>?_).app i⟩
 .rw[str_len,str_len];have:(s2 n).length=1:=rfl;dsimp only at f d;omega
 .have:c∈[(mB.cps.toList[((n:Int)).toNat]?).getD 0]:=l;rw[T9.mp this];exact O_ ⟨n,g⟩
def GG(c:m<35)(f:n<35)(h:nmX a b m=nmX a b n):m=n:=by unfold nmX at h;have e:=(str_inj (a:=Txt.mul "x" (a:Int)++s2 (m:Int)) (a':=Txt.mul "x" (a:Int)++s2 (n:Int)) (by rw[str_len,str_len];rfl) h).1;have d:=(str_inj rfl e).2;exact a0K Fin.val (MQ ⟨m,c⟩ ⟨n,f⟩ d)
def Eh(c:n<=35):((List.range n).map (nmX a b)).Nodup:=nodup_range λj k d f e=>GG `a `a e
def oZ(p:0<=k)(w:k<=900):∃a b:Nat,a+b<=10/\∀n:Nat,n<35->qR [.sc ns,.i k,.i (n:Int)]=.ok (.s (nmX a b n)):=by
 obtain⟨a,f,u,l⟩:=yj (ns:=ns) (k:=k) (m:=11) p `a `b;obtain⟨b,o,v,j⟩:=yj (ns:=ns) (k:=k+1) (m:=11-a) `a `a `a;obtain⟨a,rfl⟩:=a1r f;obtain⟨b,rfl⟩:=a1r o;refine⟨a,b,`d,λn s=>?_⟩;have d:∀{i:Int},0<=i->i<=100->jZ (.s "x") (.i i)=.ok (.s (Txt.mul "x" i)):=λh q=>if_pos ⟨by decide,`d,`d⟩;obtain⟨g,_⟩:=NQ ⟨a,`d⟩;have e:(b:Int)+(n:Int) % 2=((b+n % 2:Nat):Int):=`d
 obtain⟨c,_⟩:=NQ ⟨b+n % 2,`d⟩;rw[<- e]at c;dsimp only at g c;have r:(s2 (n:Int)).length=1:=rfl;exact zN (ze ⟨_,yp (zw (xs:=[.sc ns,.i k,.i 11]) rfl l),ze ⟨_,yp (zo (zw (xs:=[.sc ns,.i (k+1),.i (11-(a:Int))]) rfl j) (xB rfl `b) rfl),Vw (zo (zo (zo rfl rfl (d `a `a)) (zo rfl rfl (Pa `a `a)) (P2 (n:=100) `a `b)) (zo rfl rfl (d `a `a)) (P2 (n:=100) (by rw[str_len];omega) `b))⟩⟩)
abbrev wSt(ns:Sw)(N:RS)(c:Int)(d:Bool)(W:List Wy)(x y:Sz):Sto:=[some (.sc ns),some (.l (N.map .s)),some (.i c),some (.b d),some (.i (N.length:Int)),some (.l (W.map wP)),x,y]
def xU(h:m (wSt ns N c d W x y)=.ok (.t [.s o,.s g,.i n]))(a:W.length<1000):Dv 5 m (wSt ns N c d W x y)=.ok (.nx (wSt ns N c d (W++[(o,g,n)]) x y)):=by refine(Ef rfl h `c).trans ?_;show Out.ok (Fw.nx [some (.sc ns),some (.l (N.map .s)),some (.i c),some (.b d),some (.i N.length),some (.l (W.map wP++[wP (o,g,n)])),x,y])=_;rw[show W.map wP++[wP (o,g,n)]=(W++[(o,g,n)]).map wP by rw[T5];rfl]
def CF(B:0<N.length)(U:N.length<=5)(T:1<=c)(X:c<=100000):∃W:List Wy,W.length<=13/\WS N W/\vF [.sc ns,.l (N.map .s),.i c,.b d]=.ok (.l (W.map wP)):=by
 have A:jZ (.i 30) (.i c)=.ok (.i (30*c)):=Qa `b `b;obtain⟨E,⟨q,z,C,S,F,a⟩,H⟩:=XQ (g:=WB) (b:=WC) (λk f=>∃W x y,W.length<=k/\WS N W/\f=wSt ns N c d W x y) N.length (wSt ns N c d [] none none) ⟨[],none,none,S0 _,λw O=>(nomatch O),rfl⟩ (λk G f ⟨W,x,y,j,e,a⟩=>by
  subst a;cases d with
  |false=>exact⟨_,rfl,_,⟨W,some (.i (k:Int)),y,`d,e,rfl⟩,.inl rfl⟩
  |true=>
   obtain⟨o,h,l⟩:=Y8 (xs:=N) (i:=(k:Int)) `a `a;obtain⟨g,v,r⟩:=xI (N:=N) (s:=(k:Int)+1) B;obtain⟨s,Q,I,u⟩:=yj (ns:=ns) (k:=10+(k:Int)) (m:=30*c) `a `a `a;exact⟨_,rfl,_,⟨W++[(o,g,1+s)],some (.i (k:Int)),y,by rw[R7];exact a07 j,e.app h v `a `a,rfl⟩,.inl ((yn (x:=true) rfl).trans (xU (gY (zq (zo rfl rfl l) (zq (zo rfl (zo (zo rfl rfl rfl) rfl (fW `a)) r) (zq (zo rfl (zw (zq rfl (zq rfl (zq (zo rfl rfl A) rfl))) u) rfl) rfl))) (S5 rfl)) `a))⟩)
 subst a;obtain⟨m,L,R,em⟩:=yj (ns:=ns) (k:=4) (m:=9) `b `b `b;have nn:0<(N.length:Int)*(N.length:Int):=Int.mul_pos `a `a;obtain⟨P,⟨W,x,y,j,e,a⟩,K⟩:=XQ (g:=WD) (b:=WE) (λk f=>∃W x y,W.length<=q.length+k/\WS N W/\f=wSt ns N c d W x y) m.toNat (wSt ns N c d q z C) ⟨q,z,C,S0 _,F,rfl⟩ (λk G f ⟨W,x,y,j,e,a⟩=>by
  subst a;obtain⟨p,D,M,J⟩:=yj (ns:=ns) (k:=20+(k:Int)) (m:=(N.length:Int)*(N.length:Int)) `a `a nn;obtain⟨o,h,l⟩:=xI (N:=N) (s:=p) B;obtain⟨g,v,r⟩:=Y8 (xs:=N) (i:=p / (N.length:Int)) (Int.ediv_nonneg D `a) (Int.ediv_lt_of_lt_mul `a M);obtain⟨s,Q,I,u⟩:=yj (ns:=ns) (k:=30+(k:Int)) (m:=30*c) `a `a `a;exact⟨_,rfl,_,⟨W++[(o,g,1+s)],some (.i (k:Int)),some (.i p),by rw[R7];show W.length+1<=_;omega,e.app h v `a `a,rfl⟩,.inl (ze ⟨wSt ns N c d W (some (.i (k:Int))) (some (.i p)),yp (zw (zq rfl (zq rfl (zq (zo rfl rfl (Qa `a `a)) rfl))) J),xU (gY (zq (zo rfl (zo rfl rfl (fW `a)) l) (zq (zo rfl (zo rfl rfl (Dy `a `a)) r) (zq (zo rfl (zw (xs:=[.sc ns,.i (30+(k:Int)),.i (30*c)]) (zq rfl (zq rfl (zq (zo rfl rfl A) rfl))) u) rfl) rfl))) (S5 rfl)) `a⟩)⟩)
 subst a;exact⟨W,`d,e,zN (ze ⟨_,yp (zw (xs:=[.l (N.map .s)]) rfl kN),ze ⟨_,rfl,ze ⟨_,qz (nM (n:=N.length) rfl `a) H,ze ⟨_,qz (lG (zq (zw (xs:=[.sc ns,.i 4,.i 9]) rfl em) rfl) L `a) K,rfl⟩⟩⟩⟩)⟩
def Lnk(F:Str->Ht)(t u:Tp):Prop:=∃y,zM (F t.2.2.1) (sk u.2.1)=some y/\t.2.2.2.2.1+y<=u.2.2.2.1
def tri{N:RS}{W:List Wy}{F:Str->Ht}{a b c:Str}{u v:Int}(e:WS N W)(d:∀z,Kz z W (F z))(h:b∈N)(g:zM (F a) (sk b)=some u)(f:zM (F b) (sk c)=some v):∃y,y<=u+v/\zM (F a) (sk c)=some y:=g6 e (d a) (ao e (d b) h _ (S0 _) f) u g
theorem o7{α:Type}:∀{ρ:List α}{j:Nat}{x:α},ρ[j]?=some x->ρ.set j x=ρ
 |[],_,_,h=>by cases h
 |a::ρ,0,x,h=>by cases h;rfl
 |a::ρ,j+1,x,h=>a0K (a::·) (o7 (ρ:=ρ) h)
def Ei(p:LOk P L F)(r:∀o∈P,zM (F o) (sk o)=some 0)(f:a∈P)(h:b∈P)(q:zc 2 ρ=.ok (.dt L))(g:zc i ρ=.ok (.s a))(l:ρ[j]?=some (some (.s b))):∃o d,o∈P/\zM (F a) (sk o)=some d/\sIf (zU (gj true (zb (zc i) (zb (zc j) zk)) (zc 2))) (qJ j (zc i)) yB ρ=.ok (.nx (ρ.set j (some (.s o)))):=by
 have c:zc j ρ=.ok (.s b):=by unfold zc;rw[l]
 have t:=yn (a:=qJ j (zc i)) (b:=yB) (ai (n:=true) (ms:=zb (zc i) (zb (zc j) zk)) (m:=zc 2) (zq g (zq c rfl)) q);cases e:zM L [sk a,sk b]with
 |none=>rw[e]at t;exact⟨a,0,f,r a f,t.trans (yp g)⟩
 |some y=>rw[e]at t;exact⟨b,y,h,(p a f b h).symm.trans e,t.trans (by rw[o7 l];rfl)⟩
def mD(a:zc 0 ρ=.ok (.sc ns))(g:zc 8 ρ=.ok (.i k))(c:m ρ=.ok (.i n))(l:0<=q)(i:q<=50)(h:0<=k)(j:k<=100)(b:0<n):∃x:Int,0<=x/\x<n/\zg zf (zb (zc 0) (zb (mOp zP (mC (.i q)) (mOp jZ (mC (.i 5)) (zc 8))) (zb m zk))) ρ=.ok (.i x):=by obtain⟨x,f,d,e⟩:=yj (k:=q+5*k) `a `a b;exact⟨x,f,d,zw (zq a (zq (zo rfl (zo rfl g (Qa `b `b)) rfl) (zq c rfl))) e⟩
abbrev tS(ns:Sw)(P:RS)(L:Lst)(c m:Int)(T:List Tp)(o:Str)(tm:Int)(r:Sto):Sto:=[some (.sc ns),some (.l (P.map .s)),some (.dt L),some (.i c),some (.i m),some (.l (T.map tP)),some (.s o),some (.i tm)]++r
structure P4(P:RS)(F:Str->Ht)(nm:Nat->Str)(T:List Tp):Prop where
 nms:T.map (·.1)=(List.range T.length).map nm
 ok:∀t∈T,TOk P F t
 lnk:T.Pairwise (Lnk F)
structure Pb(P:RS)(F:Str->Ht)(nm:Nat->Str)(T:List Tp)(o:Str)(tm:Int):Prop extends P4 P F nm T where
 here:o∈P
 t0:0<=tm
 t1:tm<=159000000+30000000*(T.length:Int)
 beh:∀t∈T,∃y,zM (F t.2.2.1) (sk o)=some y/\t.2.2.2.2.1+y<=tm
def Pc(hW:WS P W)(gF:∀z,Kz z W (F z))(hL:LOk P L F)(h5:0<P.length)(hF:∀o∈P,∀z y,zM (F o) (sk z)=some y->0<=y/\y<=12000000)(c0:1<=c)(c1:c<=100000)(hn:∀n:Nat,n<35->qR [.sc ns,.i 7,.i (n:Int)]=.ok (.s (nm n)))(w:Pb P F nm T o tm)(hl:T.length<12):
  ∃t g G r',Pb P F nm (T++[t]) g G/\r'.length=5/\Yi (tS ns P L c m T o tm [some (.i (T.length:Int)),r9,r10,r11,r12,r13])=.ok (.nx (tS ns P L c m (T++[t]) g G (some (.i (T.length:Int))::r'))):=by
 have N:∀o∈P,zM (F o) (sk o)=some 0:=λo _=>(gF o).1.own;have A:∀b:Sto,zc 1 b=.ok (.l (P.map .s))->zg vq (zb (zc 1) zk) b=.ok (.i P.length):=λb h=>zw (zq h rfl) kN;have mc:∀b:Sto,zc 3 b=.ok (.i c)->mOp jZ (mC (.i 30)) (zc 3) b=.ok (.i (30*c)):=λb h=>zo rfl h (Qa `b `b);obtain⟨x1,x10,x11,O⟩:=mD (q:=40) (ρ:=tS ns P L c m T o tm [some (.i T.length),r9,r10,r11,r12,r13]) rfl rfl (A _ rfl) `b `b `a `a `a;obtain⟨a0,X,ea0⟩:=Y8 x10 x11;obtain⟨a,d,E,Q,q2⟩:=Ei (i:=6) (j:=9) (ρ:=tS ns P L c m T o tm [some (.i T.length),some (.s a0),r10,r11,r12,r13]) hL N w.here X rfl rfl rfl;obtain⟨x2,K,x21,ex2⟩:=mD (q:=41) (ρ:=tS ns P L c m T o tm [some (.i T.length),some (.s a),r10,r11,r12,r13]) rfl rfl (A _ rfl) `b `b `a `a `a;obtain⟨g0,Y,eg0⟩:=Y8 K x21;obtain⟨g,e,I,H,q4⟩:=Ei (i:=9) (j:=10) (ρ:=tS ns P L c m T o tm [some (.i T.length),some (.s a),some (.s g0),r11,r12,r13]) hL N E Y rfl rfl rfl;obtain⟨M,x30,x31,R⟩:=mD (q:=42) (m:=mC (.i 2)) (ρ:=tS ns P L c m T o tm [some (.i T.length),some (.s a),some (.s g),r11,r12,r13]) rfl rfl rfl `b `b `a `a `b;obtain⟨x4,Z,x41,ex4⟩:=mD (q:=43) (ρ:=tS ns P L c m T o tm [some (.i T.length),some (.s a),some (.s g),r11,r12,r13]) rfl rfl (mc _ rfl) `b `b `a `a `a;obtain⟨x,sp0,sp1,esp⟩:∃s:Int,0<=s/\s<3000000/\M*x4=s:=by
  rcases(show M=0\/M=1 by omega)with rfl|rfl
  .exact⟨0,by decide,by decide,Int.zero_mul _⟩
  .exact⟨x4,Z,`d,Int.one_mul _⟩
 obtain⟨x5,x50,x51,ex5⟩:=mD (q:=44) (m:=mC (.i 3)) (ρ:=tS ns P L c m T o tm [some (.i T.length),some (.s a),some (.s g),some (.i x),r12,r13]) rfl rfl rfl `b `b `a `a `b;obtain⟨x6,J,x61,ex6⟩:=mD (q:=45) (ρ:=tS ns P L c m T o tm [some (.i T.length),some (.s a),some (.s g),some (.i x),r12,r13]) rfl rfl (mc _ rfl) `b `b `a `a `a;obtain⟨D,mo0,mo1,emo⟩:∃s:Int,0<=s/\s<3000000/\x5 % 2*x6=s:=by
  rcases(show x5 % 2=0\/x5 % 2=1 by omega)with h|h<;>rw[h]
  .exact⟨0,by decide,by decide,Int.zero_mul _⟩
  .exact⟨x6,J,`d,Int.one_mul _⟩
 have bd:=hF o w.here a d Q;have be:=hF a E g e H;have b1:=w.t1;have b0:=w.t0;obtain⟨l,hst⟩:∃s:Int,tm+d+x=s:=⟨_,rfl⟩;obtain⟨r,U,f0,f1⟩:∃f:Int,max (l+1) (l+e+D)=f/\l+1<=f/\l+e<=f:=⟨_,rfl,`d,`d⟩;have f2:=`d
 obtain⟨C,x70,x71,S⟩:=mD (q:=46) (m:=mC (.i 7)) (ρ:=tS ns P L c m T o r [some (.i T.length),some (.s a),some (.s g),some (.i x),some (.i D),some (.i l)]) rfl rfl rfl `b `b `a `a `b;have oS:∀{p q:Str}{v:Int}{b:Sto}{i j:Nat},p∈P->q∈P->zM (F p) (sk q)=some v->zc 2 b=.ok (.dt L)->zc i b=.ok (.s p)->zc j b=.ok (.s q)->iK (zc 2) (zb (zc i) (zb (zc j) zk)) b=.ok (.i v):=λhp hq e h2 hi hj=>WN h2 (zq hi (zq hj rfl)) ((hL _ hp _ hq).trans e);have bt:∀t∈T,Lnk F t (nm T.length,a,g,l,r,C)/\∃y,zM (F t.2.2.1) (sk g)=some y/\t.2.2.2.2.1+y<=r:=λt B=>by obtain⟨y,ey,ly⟩:=w.beh t B;obtain⟨y1,l1,e1⟩:=tri hW gF w.here ey Q;obtain⟨y2,l2,e2⟩:=tri hW gF E e1 H;exact⟨⟨y1,e1,by show _<=l;omega⟩,y2,e2,`d⟩
 refine⟨(nm T.length,a,g,l,r,C),g,r,[some (.s a),some (.s g),some (.i x),some (.i D),some (.i l)],{ nms:=?_,ok:=?_,lnk:=?_,here:=I,t0:=`d,t1:=?_,beh:=?_ },rfl,?_⟩
 .rw[T5,w.nms,R7,a0g,a24,T5];rfl
 .intro t B;rcases a0o.mp B with h|h
  .exact w.ok t h
  .rw[T9.mp h];exact⟨E,I,⟨e,H,by show e<=r-l;omega⟩,by show 0<=l;omega,by show l<r;omega,by show r<=_;omega,⟨x70,by show C<=_;omega⟩⟩
 .rw[a3r];exact⟨w.lnk,a1s _ _,λt B u hu=>by rw[T9.mp hu];exact(bt t B).1⟩
 .rw[R7,a0g];omega
 .intro t B;rcases a0o.mp B with h|h
  .exact(bt t h).2
  .rw[T9.mp h];exact⟨0,N g I,by show r+0<=r;omega⟩
 .refine ze ⟨_,yp (zo rfl O ea0),ze ⟨_,q2,ze ⟨_,yp (zo rfl ex2 eg0),ze ⟨_,q4,ze ⟨_,yp (zo R ex4 ((Qa `a `a).trans (by rw[esp]))),ze ⟨_,yp (zo (xB ex5 `b) ex6 ((Qa `a `a).trans (by rw[emo]))),ze ⟨tS ns P L c m T o tm [some (.i T.length),some (.s a),some (.s g),some (.i x),some (.i D),some (.i l)],?_,ze ⟨tS ns P L c m T o r [some (.i T.length),some (.s a),some (.s g),some (.i x),some (.i D),some (.i l)],?_,ze ⟨tS ns P L c m (T++[(nm T.length,a,g,l,r,C)]) o r [some (.i T.length),some (.s a),some (.s g),some (.i x),some (.i D),some (.i l)],?_,rfl⟩⟩⟩⟩⟩⟩⟩⟩⟩
  .rw[<- hst];exact yp (zo (zo rfl (oS w.here E Q rfl rfl rfl) rfl) rfl rfl)
  .rw[<- U];exact yp (zw (zq (zo rfl rfl rfl) (zq (zo (zo rfl (oS E I H rfl rfl rfl) rfl) rfl rfl) rfl)) rfl)
  .refine(Ef (y:=tP (nm T.length,a,g,l,r,C)) rfl (gY (zq (zw rfl (hn _ `a)) (zq rfl (zq rfl (zq rfl (zq rfl (zq S rfl)))))) (S5 rfl)) `c).trans ?_;rw[show T.map tP++[tP (nm T.length,a,g,l,r,C)]=(T++[(nm T.length,a,g,l,r,C)]).map tP by rw[T5];rfl];rfl
section
variable {ns:Sw}{P N:RS}{W:List Wy}{F:Str->Ht}{L:Lst}{c:Int}{T R:List Tp}{t u:Tp}{o p home:Str}{nm:Nat->Str}{ro:PV}
def xV(hW:WS P W)(M:∀z,Kz z W (F z))(O:LOk P L F)(h5:0<P.length)(hF:∀o∈P,∀z y,zM (F o) (sk z)=some y->0<=y/\y<=12000000)(c0:1<=c)(c1:c<=100000)(Z:∀n:Nat,n<35->qR [.sc ns,.i 7,.i (n:Int)]=.ok (.s (nm n)))(hm:m<=12):∃T,P4 P F nm T/\T.length=m/\(∀t∈T,t.2.2.2.2.1<=519000000)/\ke [.sc ns,.l (P.map .s),.dt L,.i c,.i (m:Int)]=.ok (.l (T.map tP)):=by
 obtain⟨x,x0,Q,Y⟩:=yj (ns:=ns) (k:=5) (m:=(P.length:Int)) `b `b `a;obtain⟨o,X,eo⟩:=Y8 (xs:=P) x0 Q;obtain⟨y,y0,y1,E⟩:=yj (ns:=ns) (k:=6) (m:=1440*c) `b `b `a;obtain⟨S,⟨T,o',tm,H,B,i,f,a,d,D,j,q⟩,e⟩:=XQ (g:=Vj) (b:=Yi) (λk J=>∃(T:List Tp)(o:Str)(tm:Int)(H B i f a d:Sz),T.length=k/\Pb P F nm T o tm/\J=tS ns P L c m T o tm [H,B,i,f,a,d]) m (tS ns P L c m [] o (150*c+y) [none,none,none,none,none,none]) ⟨[],o,150*c+y,none,none,none,none,none,none,rfl,{ nms:=rfl,ok:=λt h=>(nomatch h),lnk:=List.Pairwise.nil,here:=X,t0:=`d,t1:=by show _<=159000000+30000000*(0:Int);omega,beh:=λt h=>(nomatch h) },rfl⟩ (λk hk J ⟨T,o,tm,H,B,i,f,a,d,D,j,q⟩=>by
  subst q D;obtain⟨t,g,C,K,G,lr,e⟩:=Pc (c:=c) (m:=(m:Int)) (r9:=B) (r10:=i) (r11:=f) (r12:=a) (r13:=d) hW M O h5 hF c0 c1 Z j `a;obtain⟨A,v,w,r,s,rfl⟩:∃A v w r s,K=[A,v,w,r,s]:=by
   match K,lr with
   |[A,v,w,r,s],_=>exact⟨A,v,w,r,s,rfl⟩
  exact⟨_,rfl,_,⟨T++[t],g,C,_,A,v,w,r,s,by rw[R7];rfl,G,rfl⟩,.inl e⟩)
 subst q;have U:∀t∈T,t.2.2.2.2.1<=519000000:=λt I=>by obtain⟨y,E,l⟩:=j.beh t I;have:=(hF _ (j.ok t I).goal _ y E).1;have:=j.t1;omega
 exact⟨T,⟨j.nms,j.ok,j.lnk⟩,D,U,zN (ze ⟨_,rfl,ze ⟨_,yp (zo rfl (zw (xs:=[.sc ns,.i 5,.i (P.length:Int)]) (zq rfl (zq rfl (zq (zw (zq rfl rfl) kN) rfl))) Y) eo),ze ⟨_,yp (zo (zo rfl rfl (Qa `b `b)) (zw (xs:=[.sc ns,.i 6,.i (1440*c)]) (zq rfl (zq rfl (zq (zo rfl rfl (Qa `b `b)) rfl))) E) rfl),ze ⟨_,qz (nM (n:=m) rfl `a) e,rfl⟩⟩⟩⟩)⟩
def NR(F:Str->Ht)(t u:Tp):PV:=Ed ((zM (F t.2.2.1) (sk u.2.1)).map λy=>u.2.2.2.1-t.2.2.2.2.1-y)
def o8(d:a ρ=.ok (roP N W F))(e:o∈N)(hp:p∈N)(b:ms ρ=.ok [.s o,.s p]):kX [(11,zA)] "length" a ms ρ=.ok (Ed (zM (F o) (sk p))):=XY d b (by decide +kernel) (by decide +kernel) (by decide +kernel) (cf e hp)
def mE(d:(T.map (·.1)).Nodup)(e:t∈T)(f:a ρ=.ok (Jm ro T))(b:ms ρ=.ok [.s t.1]):kX [(10,zB)] "trip" a ms ρ=.ok (tP t):=(oY f b).trans (xS d e)
def Ej(d:(T.map (·.1)).Nodup)(g:∀t∈T,TOk N F t)(f:t∈T)(b:u∈T):rV [Jm (roP N W F) T,.s t.1,.s u.1]=.ok (NR F t u):=by
 have i:qJ 5 (kX [(11,zA)] "length" (Kj [10] "roads" (zc 0)) (zb (mOp pIx (zc 3) (mC (.i 2))) (zb (mOp pIx (zc 4) `f) zk))) [some (Jm (roP N W F) T),some (.s t.1),some (.s u.1),some (tP t),some (tP u),none]=.ok (.nx [some (Jm (roP N W F) T),some (.s t.1),some (.s u.1),some (tP t),some (tP u),some (Ed (zM (F t.2.2.1) (sk u.2.1)))]):=
  yp (o8 (Ym rfl) (g t f).goal (g u b).org rfl)
 have a:=λ{o:Out Fw}(h:yk (sIf (zU (mOp (By false) (zc 5) (mC .n))) (vt (mC .n)) yB) (vt (mOp Wv (mOp Wv (mOp pIx (zc 4) (mC (.i 3))) (mOp pIx (zc 3) (mC (.i 4)))) (zc 5))) [some (Jm (roP N W F) T),some (.s t.1),some (.s u.1),some (tP t),some (tP u),some (Ed (zM (F t.2.2.1) (sk u.2.1)))]=o)=>(ze ⟨_,yp (mE d f rfl rfl),ze ⟨_,yp (mE d b rfl rfl),ze ⟨_,i,h⟩⟩⟩:Gp [some (Jm (roP N W F) T),some (.s t.1),some (.s u.1),none,none,none]=o);unfold NR;cases e:zM (F t.2.2.1) (sk u.2.1)with
 |none=>rw[e]at a;exact zN (a (qy ((yn (x:=true) rfl).trans rfl)))
 |some y=>rw[e]at a;exact zN (a (ze ⟨_,(yn (x:=false) rfl).trans rfl,Vw (zo (zo (x:=.i u.2.2.2.1) (y:=.i t.2.2.2.2.1) rfl rfl rfl) (y:=.i y) rfl rfl)⟩))
def hX(d:(T.map (·.1)).Nodup)(f:∀t∈T,TOk N F t)(b:t∈T)(a:u∈T)(h:Lnk F t u):Yk [Jm (roP N W F) T,.s t.1,.s u.1]=.ok (.b true):=by obtain⟨y,e,i⟩:=h;have g:=Ej (W:=W) d f b a;unfold NR at g;rw[e]at g;exact zN (ze ⟨_,yp (zw rfl g),Vw (d7 (x:=true) rfl (zo rfl rfl (by show Out.ok (PV.b (decide (u.2.2.2.1-t.2.2.2.2.1-y ≥ 0)))=_;rw[S8 `a])))⟩)
abbrev nmL(R:List Tp):PV:=.l (R.map λt=>.s t.1)
def h9(f:(T.map (·.1)).Nodup)(h:∀t∈R,t∈T):qT [Jm ro T,nmL R]=.ok .n:=by
 obtain⟨i,⟨x,rfl⟩,e⟩:=Qb (g:=v_) (b:=wa) (λt:Tp=>PV.s t.1) (λ_ d=>∃x,d=[some (Jm ro T),some (nmL R),x]) R [some (Jm ro T),some (nmL R),none] ⟨none,rfl⟩ (λk j d ⟨x,a⟩=>by
  subst a;exact⟨_,rfl,_,⟨some (.s R[k].1),rfl⟩,.inl (z0 (mE (t:=R[k]) f (h _ (a0X _)) rfl rfl))⟩)
 exact Xt rfl (qz (yc rfl) e)
theorem P5:∀{R:List Tp},R.Pairwise (Lnk F)->∀q∈R.zip R.tail,q.1∈R/\q.2∈R/\Lnk F q.1 q.2
 |[],_,q,h=>by cases h
 |[t],_,q,h=>by cases h
 |t::u::R,hp,q,h=>by
  rw[a1V]at hp;rcases T6.mp (show q∈(t,u)::(u::R).zip (u::R).tail from h)with rfl|h
  .exact⟨v4,R9 _ v4,hp.1 u v4⟩
  .obtain⟨a,b,k⟩:=P5 hp.2 q h;exact⟨R9 _ a,R9 _ b,k⟩
def sd(h:(T.map (·.1)).Nodup)(m:∀t∈T,TOk N F t)(d:∀t∈R,t∈T)(hp:R.Pairwise (Lnk F)):qr [Jm (roP N W F) T,nmL R]=.ok .n:=by
 obtain⟨n,⟨x,y,rfl⟩,e⟩:=Qb (g:=k_) (b:=vc) (λq:Tp×Tp=>PV.t [.s q.1.1,.s q.2.1]) (λ_ i=>∃x y,i=[some (Jm (roP N W F) T),some (nmL R),x,y]) (R.zip R.tail) [some (Jm (roP N W F) T),some (nmL R),none,none] ⟨none,none,rfl⟩ (λk r i ⟨x,y,f⟩=>by
  subst f;obtain⟨a,b,l⟩:=P5 hp _ (a0X r);exact⟨_,rfl,_,⟨some (.s (R.zip R.tail)[k].1.1),some (.s (R.zip R.tail)[k].2.1),rfl⟩,.inl ((yn (b6 (zW (zw rfl (hX h m (d _ a) (d _ b) l))))))⟩)
 have j:AV (zb (zc 1) (zb (mSl pSl (zc 1) (wZ `f) iJ) zk)) [some (Jm (roP N W F) T),some (nmL R),none,none]=.ok ((R.zip R.tail).map λq=>PV.t [.s q.1.1,.s q.2.1]):=by
  show Out.ok (xj (R.map λt=>PV.s t.1) (Jl (R.map λt=>PV.s t.1) (some 1) none))=_;have:Jl (R.map λt=>PV.s t.1) (some 1) none=R.tail.map λt=>PV.s t.1:=by
   cases R with
   |nil=>rfl
   |cons t R=>rw[ej `b `c];rfl
  rw[this];unfold xj List.zip;rw[a2W,a2X]
 exact Xt rfl (ze ⟨_,z0 (zw rfl (h9 h d)),qz j e⟩)
def h_:yq [roP N W F]=.ok (.l (N.map .s)):=rfl
def eA(nd:(T.map (·.1)).Nodup)(hT:∀t∈T,TOk N F t)(hR:∀t∈R,t∈T)(hp:R.Pairwise (Lnk F))(hh:home∈N):yX [Jm (roP N W F) T,.s home,nmL R]=.ok .n:=
 Xt rfl (ze ⟨_,z0 (zw (zq rfl (zq (XY (N:=N) (W:=W) (F:=F) (Ym rfl) (xs:=[]) rfl (by decide +kernel) (by decide +kernel) (by decide +kernel) h_) rfl)) (kB hh)),z0 (zw rfl (sd nd hT hR hp))⟩)
def xW(b:o∈N)(hp:p∈N):jr [roP N W F,.s o,.s p]=match zM (F o) (sk p)with|none=>.exc 6 [("origin",.s o),("goal",.s p)]|some _=>.ok .n:=by
 have l:=o8 (W:=W) (F:=F) (a:=zc 0) (ρ:=[some (roP N W F),some (.s o),some (.s p)]) (ms:=zb (zc 1) (zb (zc 2) zk)) rfl b hp rfl;cases e:zM (F o) (sk p)with
 |none=>rw[e]at l;exact qh ((yn (zW (zo l rfl rfl))).trans rfl)
 |some y=>rw[e]at l;exact Xt rfl ((yn (zW (zo l rfl rfl))).trans rfl)
end
def ix0:pIx (.l (x::xs)) (.i 0)=.ok x:=by rw[BL,OE];rfl
def ixL(h:xs.getLast?=some x):pIx (.l xs) (.i (-1))=.ok x:=by rw[BL,nK,h];rfl
def MR(h:ρ[i]?=some (some (.i a)))(c:m ρ=.ok (.i b)):Lp i (pI λa b=>.i (a+b)) m ρ=.ok (.nx (ρ.set i (some (.i (a+b))))):=by unfold Lp;rw[h];dsimp only;rw[c];rfl
def JF(h:ms ρ=.ok xs)(a:f xs=.exc c fs):zg f ms ρ=.exc c fs:=by unfold zg;rw[h,okb,a]
def kI(h:m ρ=.exc c fs):jo m ρ=.exc c fs:=by unfold jo;rw[h];rfl
def fd(F:Str->Ht)(a b:Str):Int:=(zM (F a) (sk b)).getD 0
def rn(F:Str->Ht):Str->List Tp->Int
 |_,[]=>0
 |p,t::R=>fd F p t.2.1+t.2.2.2.2.1-t.2.2.2.1+rn F t.2.2.1 R
def lst:Str->List Tp->Str
 |p,[]=>p
 |_,t::R=>lst t.2.2.1 R
def Ch(F:Str->Ht):Str->List Tp->Prop
 |_,[]=>True
 |p,t::R=>(zM (F p) (sk t.2.1)).isSome=true/\Ch F t.2.2.1 R
section
variable {F:Str->Ht}{t u:Tp}{a b p:Str}
def Zq(h:(zM (F a) (sk b)).isSome=true):zM (F a) (sk b)=some (fd F a b):=by
 unfold fd;cases e:zM (F a) (sk b)with
 |none=>rw[e]at h;cases h
 |some x=>rfl
theorem MU:∀{R:List Tp}{t:Tp},(t::R).Pairwise (Lnk F)->Ch F t.2.2.1 R
 |[],_,_=>trivial
 |u::R,t,h=>by rw[a1V]at h;obtain⟨y,e,_⟩:=h.1 u v4;exact⟨by rw[e];rfl,MU h.2⟩
theorem eB:∀{R:List Tp}{p:Str},lst p (R++[t])=t.2.2.1
 |[],_=>rfl
 |_::R,_=>eB (R:=R)
theorem xX:∀{R:List Tp}{p:Str},rn F p (R++[t])=rn F p R+(fd F (lst p R) t.2.1+t.2.2.2.2.1-t.2.2.2.1)
 |[],p=>by show _+rn F _ []=rn F p []+_;unfold rn lst;omega
 |u::R,p=>by show _+rn F u.2.2.1 (R++[t])=_+rn F u.2.2.1 R+_;rw[xX,Int.add_assoc];rfl
theorem VA:∀{R:List Tp}{t:Tp}{p:Str},∃u∈t::R,lst p (t::R)=u.2.2.1/\(t::R).getLast?=some u
 |[],t,_=>⟨t,v4,rfl,rfl⟩
 |v::R,t,p=>by obtain⟨u,c,e,d⟩:=VA (p:=t.2.2.1);exact⟨u,R9 _ c,e,by exact d⟩
end
def blk(F:Str->Ht)(home:Str):List Tp->Out PV
 |[]=>.ok (.i 0)
 |t::R=>match zM (F home) (sk t.2.1)with
  |none=>.exc 6 [("origin",.s home),("goal",.s t.2.1)]
  |some _=>match zM (F (lst home (t::R))) (sk home)with
   |none=>.exc 6 [("origin",.s (lst home (t::R))),("goal",.s home)]
   |some b=>.ok (.i (rn F home (t::R)+b))
section
variable {N:RS}{W:List Wy}{F:Str->Ht}{T R:List Tp}{t u:Tp}{home:Str}
abbrev tb(N:RS)(W:List Wy)(F:Str->Ht)(T:List Tp):PV:=Jm (roP N W F) T
theorem xY{R0:PV}(g:(T.map (·.1)).Nodup)(f:∀t∈T,TOk N F t):∀{R:List Tp}{p:Str}{m:Int}{x y:Sz},(∀t∈R,t∈T)->p∈N->Ch F p R->∃d b,ZX YC jg (R.map λt=>.s t.1) [some (tb N W F T),some (.s home),some R0,some (.s p),some (.i m),x,y]=.ok (.nx [some (tb N W F T),some (.s home),some R0,some (.s (lst p R)),some (.i (m+rn F p R)),d,b])
 |[],p,m,x,y,_,_,_=>⟨x,y,by show _=Out.ok (Fw.nx [_,_,_,_,some (.i (m+0)),_,_]);rw[Int.add_zero];rfl⟩
 |t::R,p,m,x,y,h,hp,i=>by
  have c:=h t v4;have l:=o8 (a:=Kj [10] "roads" (zc 0)) (ms:=zb (zc 3) (zb (mOp pIx (zc 6) `f) zk)) (ρ:=[some (tb N W F T),some (.s home),some R0,some (.s p),some (.i m),some (.s t.1),some (tP t)]) (Ym rfl) hp (f t c).org rfl;rw[Zq i.1]at l;have n:jg [some (tb N W F T),some (.s home),some R0,some (.s p),some (.i m),some (.s t.1),y]=.ok (.nx [some (tb N W F T),some (.s home),some R0,some (.s t.2.2.1),some (.i (m+(fd F p t.2.1+t.2.2.2.2.1-t.2.2.2.1))),some (.s t.1),some (tP t)]):=
   ze ⟨_,yp (mE g c rfl rfl),ze ⟨_,MR rfl (zo (zo l rfl rfl) rfl rfl),rfl⟩⟩
  obtain⟨d,b,e⟩:=xY g f (λu j=>h u (R9 _ j)) (f t c).goal i.2;refine⟨d,b,?_⟩;show(jg [some (tb N W F T),some (.s home),some R0,some (.s p),some (.i m),some (.s t.1),y]).bind _=_;rw[n];refine e.trans ?_;rw[Int.add_assoc];rfl
def o9(nd:(T.map (·.1)).Nodup)(hT:∀t∈T,TOk N F t)(hR:∀t∈R,t∈T)(hp:R.Pairwise (Lnk F))(hh:home∈N)(hO:zM (F home) (sk home)=some 0):zK [tb N W F T,.s home,nmL R]=blk F home R:=by
 have cr:=eA (W:=W) nd hT hR hp hh;have lenH:=λ{ρ:Sto}{q:Str}(h0:zc 0 ρ=.ok (tb N W F T)) (h3:zc 3 ρ=.ok (.s q)) (h1:zc 1 ρ=.ok (.s home)) hq=>o8 (ms:=zb (zc 3) (zb (zc 1) zk)) (Ym h0) hq hh (zq h3 (zq h1 rfl));have go:Ch F home R->qf [tb N W F T,.s home,nmL R]=.ok .n->lst home R∈N->∀b,zM (F (lst home R)) (sk home)=some b->zK [tb N W F T,.s home,nmL R]=.ok (.i (rn F home R+b)):=λhc cb hl b eb=>by obtain⟨x,y,e⟩:=xY nd hT hR hh hc;rw[Int.zero_add]at e;have l:=lenH (ρ:=[some (tb N W F T),some (.s home),some (nmL R),some (.s (lst home R)),some (.i (rn F home R)),x,y]) rfl rfl rfl hl;rw[eb]at l;exact zN (ze ⟨_,z0 (zw rfl cb),ze ⟨_,rfl,ze ⟨_,rfl,ze ⟨_,qz (yc rfl) e,Vw (zo rfl l rfl)⟩⟩⟩⟩)
 have gt:=λP Q=>yn (a:=P) (b:=Q) (ρ:=[some (tb N W F T),some (.s home),some (nmL R)]) (QD (n:=0) (zw (ms:=zb (zc 2) zk) rfl kN));cases R with
 |nil=>exact go trivial (Xt rfl (ze ⟨_,z0 (zw rfl cr),(gt _ _)⟩)) hh 0 hO
 |cons t R=>
  obtain⟨u,hu,e1,e2⟩:=VA;rw[S8 (show(((t::R).length:Nat):Int)>0 by rw[R4];omega)]at gt;have ht:=hR t v4;have w1:=xW (W:=W) (F:=F) hh (hT t ht).org;have w2:=xW (W:=W) (F:=F) (hT u (hR u hu)).goal hh;have a1:zb (Kj [10] "roads" (zc 0)) (zb (zc 1) (zb (mOp pIx (kX [(10,zB)] "trip" (zc 0) (zb (mOp pIx (zc 2) (mC (.i 0))) zk)) `f) zk)) [some (tb N W F T),some (.s home),some (nmL (t::R))]=.ok [roP N W F,.s home,.s t.2.1]:=zq (Ym rfl) (zq rfl (zq (zo (mE nd ht rfl (zq (zo rfl rfl ix0) rfl)) rfl rfl) rfl));have a2:zb (Kj [10] "roads" (zc 0)) (zb (mOp pIx (kX [(10,zB)] "trip" (zc 0) (zb (mOp pIx (zc 2) (mUn iI `f)) zk)) (mC (.i 2))) (zb (zc 1) zk)) [some (tb N W F T),some (.s home),some (nmL (t::R))]=.ok [roP N W F,.s u.2.2.1,.s home]:=zq (Ym rfl) (zq (zo (mE nd (hR u hu) rfl (zq (zo rfl rfl (ixL `c)) rfl)) rfl rfl) rfl);have ex:∀{c fs},qf [tb N W F T,.s home,nmL (t::R)]=.exc c fs->zK [tb N W F T,.s home,nmL (t::R)]=.exc c fs:=λh=>qh (Wm (kI (JF rfl h)));rw[blk];cases f1:zM (F home) (sk t.2.1)with
  |none=>rw[f1]at w1;exact ex (qh (ze ⟨_,z0 (zw rfl cr),(gt _ _).trans (Wm (kI (JF a1 w1)))⟩))
  |some d=>
   rw[f1]at w1;rw[<- e1]at w2 a2;cases f2:zM (F (lst home (t::R))) (sk home)with
   |none=>rw[f2]at w2;exact ex (qh (ze ⟨_,z0 (zw rfl cr),(gt _ _).trans (ze ⟨_,z0 (zw a1 w1),kI (JF a2 w2)⟩)⟩))
   |some b=>rw[f2]at w2;exact go ⟨by rw[f1];rfl,MU hp⟩ (Xt rfl (ze ⟨_,z0 (zw rfl cr),(gt _ _).trans (ze ⟨_,z0 (zw a1 w1),z0 (zw a2 w2)⟩)⟩)) (by rw[e1];exact(hT u (hR u hu)).goal) b f2
end
def ln(F:Str->Ht)(home:Str)(R:List Tp):Int:=rn F home R+fd F (lst home R) home
section
variable {N:RS}{F:Str->Ht}{R:List Tp}{home:Str}{L:Lst}
def P6(h:i<R.length):pIx (.l (R.map tP)) (.i (i:Int))=.ok (tP R[i]):=by rw[xE `a `c,a1m];rfl
def CG(h:k<R.length):lst p (R.take (k+1))=R[k].2.2.1:=by rw[a0z h,eB]
def tot(F:Str->Ht)(home:Str)(R:List Tp)(a b:Int):Nat->Int
 |0=>a+b
 |k+1=>rn F home (R.take (k+1))+b
def CH(h:k<R.length)(c:∀h:0<R.length,a=fd F home R[0].2.1):tot F home R a b (k+1)=tot F home R a b k+R[k].2.2.2.2.1-R[k].2.2.2.1+if h:0<k then fd F R[k-1].2.2.1 R[k].2.1 else 0:=by
 show rn F home (R.take (k+1))+b=_;rw[a0z h,xX];cases k with
 |zero=>show 0+(fd F home R[0].2.1+_-_)+b=a+b+_-_+0;rw[<- c h];omega
 |succ k=>rw[CG `a];show _=rn F home (R.take (k+1))+b+_-_+fd F R[k].2.2.1 _;omega
def CJ(m:LOk N L F)(l:∀t∈R,TOk N F t)(hp:R.Pairwise (Lnk F))(r:∀h:0<R.length,a=fd F home R[0].2.1):∃x,ZX Zm Zn (aJ 0 R.length) [some (.dt L),some (.s home),some (.l (R.map tP)),some (.i (a+b)),none]=.ok (.nx [some (.dt L),some (.s home),some (.l (R.map tP)),some (.i (tot F home R a b R.length)),x]):=by
 obtain⟨v,⟨x,rfl⟩,e⟩:=XQ (g:=Zm) (b:=Zn) (λk d=>∃x,d=[some (.dt L),some (.s home),some (.l (R.map tP)),some (.i (tot F home R a b k)),x]) R.length [some (.dt L),some (.s home),some (.l (R.map tP)),some (.i (a+b)),none] ⟨none,rfl⟩ (λk f d ⟨x,j⟩=>by
  subst j;refine⟨_,rfl,_,⟨some (.i k),rfl⟩,.inl ?_⟩;rw[CH f r];have i:=λ{d:Sto}(q:zc 2 d=.ok (.l (R.map tP))) (u:zc 4 d=.ok (.i k))=>zo (a:=zc 2) (b:=zc 4) q u (P6 f);refine ze ⟨[some (.dt L),some (.s home),some (.l (R.map tP)),some (.i (tot F home R a b k+R[k].2.2.2.2.1-R[k].2.2.2.1)),some (.i k)],yp (zo (zo rfl (zo (i rfl rfl) (z:=.i R[k].2.2.2.2.1) rfl rfl) rfl) (zo (i rfl rfl) (z:=.i R[k].2.2.2.1) rfl rfl) rfl),(yn (QD (x:=k) (n:=0) rfl)).trans ?_⟩;by_cases c:0<k
  .rw[S8 (show(k:Int)>0 by omega),dif_pos c];obtain⟨y,o,_⟩:=a1P.mp hp (k-1) k `a f `a;have p:=(m _ (l _ (a0X (show k-1<R.length by omega))).goal _ (l _ (a0X f)).org).trans (Zq (by rw[o];rfl));have s:pIx (.l (R.map tP)) (.i (k-1))=.ok (tP R[k-1]):=by rw[show(k:Int)-1=((k-1:Nat):Int) by omega];exact P6 `a
   exact yp (zo rfl (WN rfl (zq (zo (zo rfl (zo (y:=.i 1) rfl rfl rfl) s) rfl rfl) (zq (zo (i rfl rfl) rfl rfl) rfl)) p) rfl)
  .rw[S7 (show ¬(k:Int)>0 by omega),dif_neg c,Int.add_zero];rfl)
 exact⟨x,e⟩
def cg(B:(t::R).length<=100)(c:LOk N L F)(d:∀x∈t::R,TOk N F x)(hp:(t::R).Pairwise (Lnk F))(g:home∈N)(A:(zM (F home) (sk t.2.1)).isSome=true)(v:∀u,(t::R).getLast?=some u->(zM (F u.2.2.1) (sk home)).isSome=true):ym [.dt L,.s home,.l ((t::R).map tP)]=.ok (.i (ln F home (t::R))):=by
 obtain⟨u,j,q,h⟩:=VA (R:=R) (t:=t) (p:=home);have r:=(d t v4).org;have e:=(d u j).goal;have s:=zo (f:=pIx) (a:=mOp pIx (zc 2) (mC (.i 0))) (b:=mC (.i 1)) (ρ:=[some (.dt L),some (.s home),some (.l ((t::R).map tP)),none,none]) (zo rfl rfl ix0) rfl rfl;have l:=zo (f:=pIx) (a:=mOp pIx (zc 2) (mUn iI `f)) (b:=mC (.i 2)) (ρ:=[some (.dt L),some (.s home),some (.l ((t::R).map tP)),none,none]) (zo (z:=tP u) rfl rfl (ixL (by rw[a2F,h];rfl))) rfl rfl;have o:=WN (m:=zc 0) (L:=L) rfl (zq (a:=zc 1) rfl (zq (ms:=zk) s rfl)) ((c home g _ r).trans (Zq A));have n:=WN (m:=zc 0) (L:=L) rfl (zq l (zq (a:=zc 1) (ms:=zk) rfl rfl)) ((c _ e home g).trans (Zq (v u h)));obtain⟨x,i⟩:=CJ (a:=fd F home t.2.1) c d hp (λ_=>rfl);have w:tot F home (t::R) (fd F home t.2.1) (fd F u.2.2.1 home) (t::R).length=ln F home (t::R):=by show rn F home ((t::R).take (t::R).length)+_=rn F home (t::R)+fd F (lst home (t::R)) home;rw[a08,q]
 rw[w]at i;exact zN (ze ⟨_,yp (zo o n rfl),ze ⟨_,qz (lG (zq (zw (zq rfl rfl) kN) rfl) `a `a) (by exact i),rfl⟩⟩)
def ia(d:R.length<=100)(c:LOk N L F)(g:∀t∈R,TOk N F t)(hp:R.Pairwise (Lnk F))(f:home∈N)(a:R≠[])(b:∀u∈R,(zM (F home) (sk u.2.1)).isSome=true/\(zM (F u.2.2.1) (sk home)).isSome=true):ym [.dt L,.s home,.l (R.map tP)]=.ok (.i (ln F home R)):=by
 cases R with
 |nil=>exact absurd rfl a
 |cons t R=>exact cg d c g hp f (b t v4).1 λu e=>(b u (List.mem_of_getLast? e)).2
end
inductive Rfz where
 |way (a b:Str)
 |long (n:Str)
def Rfz.cls:Rfz->Nat
 |.way _ _=>6
 |.long _=>13
def Rfz.fs:Rfz->List (Str×PV)
 |.way a b=>[("origin",.s a),("goal",.s b)]
 |.long n=>[("name",.s n)]
def rf(F:Str->Ht)(home:Str)(l:Int)(t:Tp):Option Rfz:=match zM (F home) (sk t.2.1)with
 |none=>some (.way home t.2.1)
 |some _=>match zM (F t.2.2.1) (sk home)with
  |none=>some (.way t.2.2.1 home)
  |some _=>if ln F home [t]<=l then none else some (.long t.1)
def rfs(F:Str->Ht)(home:Str)(l:Int):List Tp->Option Rfz
 |[]=>none
 |t::R=>match rf F home l t with
  |none=>rfs F home l R
  |some r=>some r
structure fb(F:Str->Ht)(home:Str)(l:Int)(t:Tp):Prop where
 to:(zM (F home) (sk t.2.1)).isSome=true
 fro:(zM (F t.2.2.1) (sk home)).isSome=true
 le:ln F home [t]<=l
section
variable {F:Str->Ht}{home:Str}{l:Int}{t:Tp}
def GH(h:rf F home l t=none):fb F home l t:=by
 unfold rf at h;cases d:zM (F home) (sk t.2.1)with
 |none=>rw[d]at h;cases h
 |some a=>
  rw[d]at h;cases e:zM (F t.2.2.1) (sk home)with
  |none=>rw[e]at h;cases h
  |some b=>
   rw[e]at h;dsimp only at h;split at h
   .rename_i c;exact⟨by rw[d];rfl,by rw[e];rfl,c⟩
   .cases h
theorem eF:∀{R:List Tp},rfs F home l R=none->∀t∈R,fb F home l t
 |[],_,t,h=>by cases h
 |u::R,e,t,h=>by
  unfold rfs at e;cases a:rf F home l u with
  |some r=>rw[a]at e;cases e
  |none=>
   rw[a]at e;rcases T6.mp h with rfl|h
   .exact GH a
   .exact eF e t h
end
def grL{b:Type}(ln:List b->Int)(l:Int):List b->List b->List (List b)
 |a,[]=>[a]
 |a,t::R=>if ln (a++[t])<=l then grL ln l (a++[t]) R else a::grL ln l [t] R
def ib{a:Type}(ln:List a->Int)(l:Int):List a->List (List a)
 |[]=>[]
 |t::R=>grL ln l [t] R
def Mx{a:Type}(ln:List a->Int)(l:Int):List (List a)->Prop
 |[]=>True
 |d::D=>d≠[]/\ln d<=l/\(∀u X,D.flatten=u::X->¬ln (d++[u])<=l)/\Mx ln l D
section
variable {α:Type}{ln:List α->Int}{l:Int}
theorem eI:∀{R c:List α},(grL ln l c R).flatten=c++R
 |[],c=>by show[c].flatten=_;simp
 |t::R,c=>by
  unfold grL;split
  .rw[eI,a0n];rfl
  .rw[a0u,eI];rfl
theorem GI:∀{R c:List α},c≠[]->ln c<=l->(∀t∈R,ln [t]<=l)->Mx ln l (grL ln l c R)
 |[],c,d,f,_=>⟨d,f,λu X e=>(by cases e),trivial⟩
 |t::R,c,d,f,b=>by
  unfold grL;split
  .rename_i h;exact GI (by simp) h λu a=>b u (R9 _ a)
  .rename_i h;refine⟨d,f,λu X e=>?_,GI (by simp) (b t v4) λu a=>b u (R9 _ a)⟩;rw[eI]at e;injection e with e
   subst e;exact h
def o_{T:List α}:(ib ln l T).flatten=T:=by
 cases T with
 |nil=>rfl
 |cons t R=>exact eI
def xZ{T:List α}(h:∀t∈T,ln [t]<=l):Mx ln l (ib ln l T):=by
 cases T with
 |nil=>trivial
 |cons t R=>exact GI (by simp) (h t v4) λu a=>h u (R9 _ a)
theorem MV{d:List α}{D:List (List α)}(hD:∀u Y,D.flatten=u::Y->¬ln (d++[u])<=l):∀{X c:List α},c≠[]->c++X=d->(∀a Z,a≠[]->a++Z=d->ln a<=l)->grL ln l c (X++D.flatten)=d::ib ln l D.flatten
 |[],c,b,e,hp=>by
  rw[a0i]at e;subst e;cases f:D.flatten with
  |nil=>rfl
  |cons u Y=>show grL ln l c (u::Y)=_;unfold grL;rw[if_neg (hD u Y f)];rfl
 |x::X,c,b,e,hp=>by show grL ln l c (x::(X++D.flatten))=_;unfold grL;rw[if_pos (hp (c++[x]) X (by simp) (by rw[List.append_assoc];exact e))];exact MV hD (by simp) (by rw[List.append_assoc];exact e) hp
theorem MW:∀{D:List (List α)},Mx ln l D->(∀d∈D,∀a Z,a≠[]->a++Z=d->ln a<=ln d)->D=ib ln l D.flatten
 |[],_,_=>rfl
 |d::D,⟨g,j,b,c⟩,hp=>by
  have i:=MW c λe f=>hp e (R9 _ f);cases d with
  |nil=>exact absurd rfl g
  |cons t X=>show _=grL ln l [t] (X++D.flatten);rw[MV b (by simp) rfl λa Z h e=>a2N (hp _ v4 a Z h e) j,<- i]
theorem Ek:∀{D:List (List α)},(∀d∈D,d≠[])->(Mx ln l D↔(∀d∈D,ln d<=l)/\∀q∈D.zip D.tail,l<ln (q.1++q.2.take 1))
 |[],_=>⟨λ_=>⟨λ_ h=>(by cases h),λ_ h=>(by cases h)⟩,λ_=>trivial⟩
 |[d],h=>⟨λ⟨_,a,_⟩=>⟨λe g=>(by cases T9.mp g;exact a),λ_ h=>(by cases h)⟩,λ⟨a,_⟩=>⟨h d v4,a d v4,λu X e=>(by cases e),trivial⟩⟩
 |d::[]::D,h=>absurd rfl (h [] (R9 _ v4))
 |d::(u::e)::D,h=>by
  have i:=Ek (D:=(u::e)::D) λx f=>h x (R9 _ f);constructor
  .rintro ⟨_,a,b,c⟩
   obtain⟨p,q⟩:=i.mp c;refine⟨λx f=>?_,λx f=>?_⟩
   .rcases T6.mp f with rfl|f
    .exact a
    .exact p x f
   .rcases T6.mp f with rfl|f
    .exact a3s.mp (b u (e++D.flatten) rfl)
    .exact q x f
  .rintro ⟨p,q⟩
   refine⟨h d v4,p d v4,λv X ev=>?_,i.mpr ⟨λx f=>p x (R9 _ f),λx f=>q x (R9 _ f)⟩⟩;cases ev;exact a3s.mpr (q (d,u::e) v4)
end
def LL(b:Nat)(D:List (List PV)):AH:=.l ((List.range D.length).map λi=>.g (b+1+i))::D.map λp=>.l (p.map .v)
abbrev AL(G:AH)(D:List (List PV)):AH:=G++LL G.length D
def gL{a:Type}{A B:List a}{j:Nat}{x:a}(h:A[j]?=some x):(A++B)[j]?=some x:=by grind
theorem eJ{f:HV->Option PV}:∀{xs:List HV}{ys:Sn},xs.length=ys.length->(∀(i:Nat) x y,xs[i]?=some x->ys[i]?=some y->f x=some y)->e9 f xs=some ys
 |[],[],_,_=>rfl
 |[],_::_,h,_=>by cases h
 |_::_,[],h,_=>by cases h
 |x::xs,y::ys,h,k=>by unfold e9;rw[k 0 x y rfl rfl,eJ (xs:=xs) (ys:=ys) (Nat.succ.inj h) λi a b h1 h2=>k (i+1) a b h1 h2];rfl
theorem MX{G:AH}{n:Nat}:∀{xs:Sn},e9 (qx G (n+1)) (xs.map .v)=some xs
 |[]=>rfl
 |x::xs=>by show(qx G (n+1) (.v x)).bind _=_;rw[MX (xs:=xs)];rfl
def QE(h:G[k]?=some (.l (xs.map .v))):qx G (n+2) (.g k)=some (.l xs):=by unfold qx;rw[h];show(e9 (qx G (n+1)) _).map PV.l=_;rw[MX];rfl
def NS:(AL G D)[`e]?=some (.l ((List.range D.length).map λi=>.g (`e+1+i))):=by rw[a0b (S0 _),a0W];rfl
def MY(a:i<D.length):(AL G D)[`e+1+i]?=some (.l (D[i].map .v)):=by rw[a0b `a,show `e+1+i-`e=i+1 by omega];unfold LL;rw[a0h,a0d,S6 a];rfl
def x8:qx (AL G D) 8 (.g `e)=some (.l (D.map .l)):=by
 unfold qx;rw[NS];show(e9 (qx (AL G D) 7) _).map PV.l=_;rw[eJ (ys:=D.map .l) (by simp) λi x y h1 h2=>by
  rw[a0d]at h1 h2;obtain⟨j,hj,rfl⟩:=v0.mp h1;obtain⟨d,hd,rfl⟩:=v0.mp h2;obtain⟨hi,e⟩:=R8.mp hd;obtain⟨_,e2⟩:=R8.mp hj;rw[a0P]at e2;subst e2 e;exact QE (MY hi)]
 rfl
def MZ:(AL G (D++[c])).set (`e+1+D.length) (.l (c.map .v++[.v x]))=AL G (D++[c++[x]]):=by show(G++LL G.length (D++[c])).set _ _=G++LL G.length (D++[c++[x]]);rw[a2d _ _ `a,show `e+1+D.length-`e=D.length+1 by omega];unfold LL;rw[List.set_cons_succ,T5,T5,R7,R7];rw[a2d _ _ (by simp),f8,a0W,a1y,a1y,T5];rfl
def M3:(AL G D++[Cell.l (p.map .v)]).set G.length (Cell.l (((List.range D.length).map λi=>HV.g (`e+1+i))++[HV.g (AL G D).length]))=AL G (D++[p]):=by show(G++LL G.length D++_).set _ _=G++LL G.length (D++[p]);rw[a0n,a2d _ _ (S0 _),a0W,R7];unfold LL;rw[a2Q,List.set_cons_zero,R7,a0g,a24,T5,T5,R4,f8,show `e+(D.length+1)=`e+1+D.length by omega];rfl
def mF(g:mo ρ G=.ok (.g k) G)(e:G[k]?=some (.l a))(f:ma ρ G=.ok y b)(d:b[k]?=some (.l a))(c:a.length<=1000):sI mo ma ρ G=.nx ρ (b.set k (.l (a++[y]))):=by
 unfold sI;rw[g];show(match G[k]? with
  |some (.l _)=>(ma ρ G).fw λy b=>match b[k]? with
   |some (.l a)=>if a.length<sizeLine then HFw.nx ρ (b.set k (.l (a++[y])))else .wall
   |_=>.wall
  |_=>.wall)=_
 rw[e];rw[f];show(match b[k]? with
   |some (.l a)=>if a.length<sizeLine then HFw.nx ρ (b.set k (.l (a++[y])))else .wall
   |_=>.wall)=_
 rw[d];dsimp only;rw[if_pos (Nat.lt_of_le_of_lt c `b)]
def hPc(h:∀r,m r=.ok x):hP [] m b G=.ok (.v x) G:=by
 have v:∀b:Jc,∃r,V3 [] b=some r:=λb=>by
  induction b with
  |nil=>exact⟨_,rfl⟩
  |cons a b d=>obtain⟨r,e⟩:=d;exact⟨none::r,by show(V3 [] b).map _=_;rw[e];rfl⟩
 obtain⟨r,c⟩:=v b;exact XW c (h r)
def Pd(h:mo ρ (AL G (D++[c]))=.ok (.g `e) (AL G (D++[c]))):hIx mo (hP [] (mUn iI `f)) ρ (AL G (D++[c]))=.ok (.g (`e+1+D.length)) (AL G (D++[c])):=by
 unfold hIx;rw[h];show(hP [] (mUn iI `f) ρ (AL G (D++[c]))).bind _=_;rw[hPc (m:=mUn iI `f) (x:=.i (-1)) λ_=>rfl];show(match ixH (AL G (D++[c])) (.g `e) (.v (.i (-1)))with|some z=>HX.ok z (AL G (D++[c]))|none=>.wall)=_;have:ixH (AL G (D++[c])) (.g `e) (.v (.i (-1)))=some (.g (`e+1+D.length)):=by unfold ixH;dsimp only;rw[NS];dsimp only;rw[nK,R7,a0g,a24];simp
 rw[this]
def El(h:mo ρ (AL G (D++[c]))=.ok (.g `e) (AL G (D++[c])))(a:ma ρ (AL G (D++[c]))=.ok (.v x) (AL G (D++[c])))(b:c.length<=1000):sI (hIx mo (hP [] (mUn iI `f))) ma ρ (AL G (D++[c]))=.nx ρ (AL G (D++[c++[x]])):=by
 have k:(AL G (D++[c]))[`e+1+D.length]?=some (.l (c.map .v)):=by rw[MY (by simp)];simp
 refine(mF (Pd h) k a k `c).trans ?_;rw[MZ]
def pb(h:mo ρ (AL G D)=.ok (.g `e) (AL G D))(a:ma ρ (AL G D)=.ok (.g (AL G D).length) (AL G D++[.l (p.map .v)]))(b:D.length<=1000):sI mo ma ρ (AL G D)=.nx ρ (AL G (D++[p])):=by refine(mF h NS a (gL NS) (by rw[f8,a0v];exact b)).trans ?_;rw[M3]
def GJ(d:V3 bs ρ=some r)(a:m r=.ok x)(b:uV x=some c):hF bs m ρ G=.ok (.g `e) (G++[c]):=by unfold hF;rw[d];dsimp only;rw[a];dsimp only;rw[b]
def mG(c:G[k]?=some (.l xs))(e:xs[i]?=some x)(d:g x ρ=some ρ1)(a:b ρ1 G=.nx ρ2 G2)(h:wu k g b r (i+1) ρ2 G2=o):wu k g b (r+1) i ρ G=o:=by unfold wu;rw[c];dsimp only;rw[e];dsimp only;rw[d];dsimp only;rw[a];exact h
def M6(e:G[k]?=some (.l xs))(f:xs[i]?=some x)(d:g x ρ=some ρ1)(a:b ρ1 G=.exc c fs G2):wu k g b (r+1) i ρ G=.exc c fs G2:=by unfold wu;rw[e];dsimp only;rw[f];dsimp only;rw[d];dsimp only;rw[a]
def ic(a:G[k]?=some (.l xs))(c:xs[i]?=none):wu k g b r i ρ G=.nx ρ G:=by unfold wu;rw[a];dsimp only;rw[c]
def X0(h:m ρ G=.ok (.g k) G1)(d:G1[k]?=some (.l a))(c:wu k g b a.length 0 ρ G1=o):rH m g b ρ G=o:=by unfold rH;rw[h];show(match G1[k]? with|some (.l a)=>wu k g b a.length 0 ρ G1|_=>.wall)=_;rw[d];exact c
def CK(h:p ρ G=.exc c fs G1):qd p q ρ G=.exc c fs G1:=by unfold qd;rw[h]
def x9(h:m ρ G=.exc c fs G1):UB m ρ G=.exc c fs G1:=by unfold UB;rw[h];rfl
def RJ(d:V3 bs ρ=none)(b:Yu G bs ρ=some r)(a:m r=.exc c fs)(e:BW fs=true):hP bs m ρ G=.exc c fs G:=by unfold hP;rw[d,b];dsimp only;rw[a];dsimp only;rw[if_pos e]
def Wn(h:hm (xs.map some++List.replicate (n-xs.length) none) G=.rt x G1):uY n hm xs G=.ok x G1:=by unfold uY;rw[h]
def CL(h:hm (xs.map some++List.replicate (n-xs.length) none) G=.exc c fs G1):uY n hm xs G=.exc c fs G1:=by unfold uY;rw[h]
def Em(d:a ρ=.exc c fs):mOp f a b ρ=.exc c fs:=by unfold mOp;rw[d];rfl
def x_(h:m ρ=.exc c fs):zU m ρ=.exc c fs:=by unfold zU;rw[h];rfl
def En(h:t ρ=.exc c fs):sIf t a b ρ=.exc c fs:=by unfold sIf;rw[h];rfl
abbrev nms(R:List Tp):List PV:=R.map λt=>.s t.1
section
variable {P:RS}{W:List Wy}{F:Str->Ht}{T T' R:List Tp}{t u:Tp}{home:Str}{l:Int}{kt kn:Nat}{G:AH}
structure Tab(P:RS)(W:List Wy)(F:Str->Ht)(T' T:List Tp)(home:Str):Prop where
 nd:(T'.map (·.1)).Nodup
 ok:∀t∈T',TOk P F t
 sub:∀t∈T,t∈T'
 lnk:T.Pairwise (Lnk F)
 here:home∈P
 own:zM (F home) (sk home)=some 0
 len:T.length<=12
structure GK(P:RS)(W:List Wy)(F:Str->Ht)(T' T:List Tp)(kt kn:Nat)(G:AH):Prop where
 tab:∀B,qx (G++B) 8 (.g kt)=some (tb P W F T')
 nms:G[kn]?=some (.l ((nms T).map .v))
def GK.P7(E:GK P W F T' T kt kn G):qx G 8 (.g kt)=some (tb P W F T'):=by have:=E.tab [];rwa [a0i]at this
def pd(K:Tab P W F T' T home)(p:t∈T):qg [tb P W F T',.s home,.s t.1,.i l]=match rf F home l t with|none=>.ok .n|some r=>.exc r.cls r.fs:=by
 have b:=o9 (W:=W) K.nd K.ok (λu n=>by rw[T9.mp n];exact K.sub t p) (a1s _ _) K.here K.own;have d:∀{o:Out PV},blk F home [t]=o->zg zK (zb (zc 0) (zb (zc 1) (zb (vC (zb (zc 2) zk)) zk))) [some (tb P W F T'),some (.s home),some (.s t.1),some (.i l)]=o:=λ{o} h=>by unfold zg;exact b.trans h
 unfold rf;rw[blk]at d;cases j:zM (F home) (sk t.2.1)with
 |none=>rw[j]at d;exact qh (En (x_ (Em (d rfl))))
 |some a=>
  rw[j]at d;have m:lst home [t]=t.2.2.1:=rfl;rw[m]at d;cases i:zM (F t.2.2.1) (sk home)with
  |none=>rw[i]at d;exact qh (En (x_ (Em (d rfl))))
  |some b=>
   rw[i]at d;have q:rn F home [t]+b=ln F home [t]:=by unfold ln;rw[m];unfold fd;rw[i];rfl
   have g:=d (o:=.ok (.i (rn F home [t]+b))) rfl;rw[q]at g;have e:=λP Q=>yn (a:=P) (b:=Q) (zW (zo (f:=pGt) (b:=zc 3) g rfl rfl));by_cases c:ln F home [t]<=l
   .rw[if_pos c];rw[S7 (show ¬ln F home [t]>l by omega)]at e;exact Xt rfl ((e _ _))
   .rw[if_neg c];rw[S8 (show ln F home [t]>l by omega)]at e;exact qh ((e _ _))
abbrev cS(kt kn:Nat)(home:Str)(l:Int)(x y:Option HV):Jc:=[some (.g kt),some (.v (.s home)),some (.g kn),some (.v (.i l)),x,y]
def ie(e:A++t::R=T):((nms T).map HV.v)[A.length]?=some (.v (.s t.1)):=by rw[<- e];simp
def Aa(e:A++[]=T):((nms T).map HV.v)[A.length]?=none:=by rw[<- e];simp
def M7{r:Rfz}:BW r.fs=true:=by cases r<;>rfl
theorem Eo(K:Tab P W F T' T home)(E:GK P W F T' T kt kn G):∀{R A:List Tp}{x:Option HV},A++R=T->∃b,wu kn oq ot R.length A.length (cS kt kn home l x none) G=match rfs F home l R with|none=>.nx (cS kt kn home l b none) G|some r=>.exc r.cls r.fs G
 |[],A,x,e=>⟨x,ic E.nms (Aa e)⟩
 |t::R,A,x,e=>by
  have d:t∈T:=by rw[<- e];simp
  have s:=pd (l:=l) K d;have rs:=jH E.P7 (jH (x:=.v (.s home)) rfl (qX (a:=some (.g kn)) (jH (x:=.v (.i l)) rfl (jH (x:=.v (.s t.1)) rfl (Y4 (a:=none) d8)))));obtain⟨b,c⟩:=Eo K E (R:=R) (A:=A++[t]) (by rw[<- e];simp);rw[R7,a0g]at c;unfold rfs;cases er:rf F home l t with
  |none=>rw[er]at s;exact⟨b,mG E.nms (ie e) rfl (XZ (AW rfl rs (zw rfl s) rfl)) c⟩
  |some r=>rw[er]at s;exact⟨b,M6 E.nms (ie e) rfl (x9 (RJ rfl rs (JF rfl s) M7))⟩
def ig(K:Tab P W F T' T home)(hf:∀t∈T,fb F home l t)(a:R.Sublist T)(c:R≠[]):zK [tb P W F T',.s home,nmL R]=.ok (.i (ln F home R)):=by
 have b:=o9 (W:=W) K.nd K.ok (λt f=>K.sub t (a.subset f)) (K.lnk.sublist a) K.here K.own;cases R with
 |nil=>exact absurd rfl c
 |cons t R=>obtain⟨u,h,e,_⟩:=VA;have g:=(hf t (a.subset v4)).to;have d:=(hf u (a.subset h)).fro;rw[<- e]at d;rw[blk,Zq g,Zq d]at b;exact b
def Pe(K:Tab P W F T' T home)(E:GK P W F T' T kt kn G)(hf:∀t∈T,fb F home l t)(a:(c++[t]).Sublist T):hPT [true,true,false,true,true,true] (cQ (zU (mOp pGt (zg vq (zb (zc 5) zk)) (mC (.i 0)))) (zU (mOp pLe (zg zK (zb (zc 0) (zb (zc 1) (zb (mOp zP (mOp pIx (zc 5) (mUn iI `f)) (vC (zb (zc 4) zk))) zk)))) (zc 3)))) (cS kt kn home l (some (.v (.s t.1))) (some (.g `e))) (AL G ((D++[c]).map nms))=.ok (decide (ln F home (c++[t])<=l)) (AL G ((D++[c]).map nms)):=by
 have b:=ig K hf a (by simp);have d:=a.length_le;have:=K.len;rw[R7,a0g]at d;have e:zP (.l (nms c)) (.l [.s t.1])=.ok (nmL (c++[t])):=by show(if(nms c).length+1<=sizeLine then Out.ok (PV.l (nms c++[PV.s t.1]))else .wall)=_;rw[if_pos (a0l (show(nms c).length+1<=100 by rw[f8];omega) `b)];show _=Out.ok (PV.l ((c++[t]).map λt=>.s t.1));rw[T5];rfl
 refine Yl rfl (jH (E.tab _) (jH rfl (qX (jH rfl (jH rfl (jH x8 d8)))))) ((gX (x:=true) ((QD (zw rfl kN)).trans ?_) (zW (zo (zw (zq rfl (zq rfl (zq (zo (zo rfl rfl (ixL ?_)) (we rfl (S5 rfl)) e) rfl))) b) rfl rfl))).trans ?_)
 .rw[S8 (by simp)]
 .rw[T5,T5];simp
 .rw[a2w]
theorem X2{b:Type}:∀{D:List (List b)},(∀d∈D,d≠[])->D.length<=D.flatten.length
 |[],_=>S0 _
 |d::D,h=>by have:=X2 λd a=>h d (R9 _ a);have:=a2r.mpr (h d v4);rw[a0u,R7,R4];omega
theorem GL(K:Tab P W F T' T home)(E:GK P W F T' T kt kn G)(hf:∀t∈T,fb F home l t):∀{R:List Tp}{D:List (List Tp)}{c:List Tp}{x:Option HV},D.flatten++c++R=T->c≠[]->(∀d∈D,d≠[])->∃b,wu kn dP dQ R.length (D.flatten++c).length (cS kt kn home l x (some (.g `e))) (AL G ((D++[c]).map nms))=.nx (cS kt kn home l b (some (.g `e))) (AL G ((D++grL (ln F home) l c R).map nms))
 |[],D,c,x,e,_,_=>⟨x,ic (gL E.nms) (Aa e)⟩
 |t::R,D,c,x,e,g,hD=>by
  have sub:(c++[t]).Sublist T:=by rw[<- e,a0n,show c++t::R=c++[t]++R by simp];exact((a1n _ _).trans (a1Q _ _))
  have f:=sub.length_le;have i:=K.len;rw[R7,a0g]at f;have ct:=Pe (l:=l) (D:=D) K E hf sub;unfold grL;by_cases h:ln F home (c++[t])<=l
  .rw[if_pos h];rw[S8 h]at ct;obtain⟨b,a⟩:=GL K E hf (R:=R) (D:=D) (c:=c++[t]) (x:=some (.v (.s t.1))) (by rw[<- e];simp) (by simp) hD;rw[<- a0n,R7,a0g]at a;refine⟨b,mG (ρ2:=cS kt kn home l (some (.v (.s t.1))) (some (.g `e))) (gL E.nms) (ie e) rfl ((ag ct).trans ?_) a⟩;rw[T5,T5,a1y,a1y,show nms (c++[t])=nms c++[.s t.1]from T5];exact El rfl rfl (by rw[f8];omega)
  .rw[if_neg h];rw[S7 h]at ct;obtain⟨b,a⟩:=GL K E hf (R:=R) (D:=D++[c]) (c:=[t]) (x:=some (.v (.s t.1))) (by rw[<- e];simp) (by simp) (λd hd=>by
    rcases a0o.mp hd with hd|hd
    .exact hD d hd
    .rw[T9.mp hd];exact g)
   rw[show((D++[c]).flatten++[t]).length=(D.flatten++c).length+1 by simp;omega]at a;refine⟨b,mG (ρ2:=cS kt kn home l (some (.v (.s t.1))) (some (.g `e))) (gL E.nms) (ie e) rfl ((Vy ct).trans ?_) (a.trans (by rw[a0n];rfl))⟩;have j:D.length<=12:=by have:=X2 hD;have e:=a0K List.length e;rw[R7,R7]at e;omega
   rw[T5 (l₁:=D++[c])];exact pb (p:=[.s t.1]) rfl (GJ rfl (we rfl (S5 rfl)) rfl) (by rw[f8,R7,a0g];omega)
def M8(K:Tab P W F T' T home)(E:GK P W F T' T kt kn G):bY [.g kt,.v (.s home),.g kn,.v (.i l)] G=match rfs F home l T with|none=>.ok (.g `e) (AL G ((ib (ln F home) l T).map nms))|some r=>.exc r.cls r.fs G:=by
 obtain⟨x,f⟩:=Eo (l:=l) K E (R:=T) (A:=[]) (x:=none) rfl;have h:UB (hP [true,true,true] (zg yX (zb (zc 0) (zb (zc 1) (zb (zc 2) zk))))) (cS kt kn home l none none) G=.nx (cS kt kn home l none none) G:=XZ (AW rfl (jH E.P7 (jH rfl (jH (QE (n:=6) E.nms) (Y4 (Y4 (Y4 d8)))))) (zw rfl (eA K.nd K.ok K.sub K.lnk K.here)) rfl);have a:((nms T).map HV.v).length=T.length:=by simp
 cases er:rfs F home l T with
 |some r=>rw[er]at f;exact CL (zx h (CK (X0 rfl E.nms (by rw[a];exact f))))
 |none=>
  rw[er]at f;have hf:=eF er;have j:kA 5 (hF [] (vC zk)) (cS kt kn home l x none) G=.nx (cS kt kn home l x (some (.g `e))) (AL G []):=yd (GJ rfl (we rfl (S5 rfl)) rfl);obtain⟨g,m⟩:∃g,wu kn dP dQ T.length 0 (cS kt kn home l x (some (.g G.length))) (AL G [])=.nx (cS kt kn home l g (some (.g G.length))) (AL G ((ib (ln F home) l T).map nms)):=by
   cases e:T with
   |nil=>subst e;exact⟨x,ic (gL E.nms) rfl⟩
   |cons t R=>subst e;obtain⟨o,i⟩:=GL (l:=l) K E hf (R:=R) (D:=[]) (c:=[t]) (x:=some (.v (.s t.1))) rfl (by simp) (λd q=>(nomatch q));refine⟨o,mG (ρ2:=cS kt kn home l (some (.v (.s t.1))) (some (.g `e))) (gL E.nms) (ie (A:=[]) rfl) rfl ((Vy (Yl (b:=false) rfl (jH (E.tab _) (jH rfl (qX (jH rfl (jH rfl (jH x8 d8)))))) (xC rfl))).trans ?_) i⟩;exact pb (D:=[]) (p:=[.s t.1]) rfl (GJ rfl (we rfl (S5 rfl)) rfl) `b
  exact Wn (zx h (zx (X0 rfl E.nms (by rw[a];exact f)) (zx j (zx (X0 rfl (gL E.nms) (by rw[a];exact m)) rfl))))
end
def jU(c:g x ρ=some ρ1)(a:b ρ1=.ok (.nx ρ2)):ZX g b (x::xs) ρ=ZX g b xs ρ2:=by rw[KZ,c];show(b ρ1).bind _=_;rw[a];rfl
def eK(c:g x ρ=some ρ1)(a:b ρ1=.ok (.rt v)):ZX g b (x::xs) ρ=.ok (.rt v):=by rw[KZ,c];show(b ρ1).bind _=_;rw[a];rfl
def eM(d:g x ρ=some ρ1)(a:b ρ1=.exc c fs):ZX g b (x::xs) ρ=.exc c fs:=by rw[KZ,d];show(b ρ1).bind _=_;rw[a];rfl
def eO(h:mi ρ=.ok xs)(a:ZX g b xs ρ=.exc c fs):KU mi g b ρ=.exc c fs:=by unfold KU;rw[h,okb,a]
section
variable {P:RS}{W:List Wy}{F:Str->Ht}{T R:List Tp}{t u v:Tp}{z:Str}{N:RS}{ro:PV}{ns:RS}
def CM(h:z∉N):yi [.s z,.l (N.map .s)]=.exc 5 [("name",.s z)]:=
 qh ((yn (x:=true) (zW (zo rfl rfl (Cu.trans `c)))))
theorem ij:∀{ns:RS}{R0:PV}{x:Sz},(T.map (·.1)).Nodup->(∃z∈ns,z∉T.map (·.1))->∃z,ZX v_ wa (ns.map .s) [some (Jm ro T),some R0,x]=.exc 7 [("name",.s z)]
 |[],_,_,_,⟨_,h,_⟩=>by cases h
 |n::ns,R0,x,nd,h=>by
  by_cases c:n∈T.map (·.1)
  .obtain⟨t,ht,rfl⟩:=a0F.mp c;obtain⟨z,e⟩:=ij (ns:=ns) (R0:=R0) (x:=some (.s t.1)) nd (by
    obtain⟨y,hy,hn⟩:=h;rcases T6.mp hy with rfl|hy
    .exact absurd c hn
    .exact⟨y,hy,hn⟩)
   exact⟨z,(jU rfl (z0 (mE (t:=t) nd ht rfl rfl))).trans e⟩
  .exact⟨n,eM rfl (kI ((oY rfl rfl).trans (xT c)))⟩
def Lc(F:Str->Ht):List Tp->Prop
 |[]=>True
 |[_]=>True
 |t::u::R=>Lnk F t u/\Lc F (u::R)
def Lnk.tr(f:WS P W)(e:∀z,Kz z W (F z))(d:TOk P F u)(n:Lnk F t u)(m:Lnk F u v):Lnk F t v:=by obtain⟨a,j,s⟩:=n;obtain⟨b,i,p⟩:=m;obtain⟨c,ec,q⟩:=d.len;obtain⟨x,r,h⟩:=tri f e d.org j ec;obtain⟨y,o,g⟩:=tri f e d.goal h i;exact⟨y,g,`d⟩
theorem GN(c:WS P W)(b:∀z,Kz z W (F z)):∀{R:List Tp},(∀t∈R,TOk P F t)->Lc F R->R.Pairwise (Lnk F)
 |[],_,_=>.nil
 |[t],_,_=>a1s _ _
 |t::u::R,e,⟨d,g⟩=>by
  have i:=GN c b (R:=u::R) (λx f=>e x (R9 _ f)) g;refine a1V.mpr ⟨λv a=>?_,i⟩;rcases T6.mp a with rfl|a
  .exact d
  .exact Lnk.tr c b (e u (R9 _ v4)) d ((a1V.mp i).1 v a)
def Ab(c:(T.map (·.1)).Nodup)(f:∀t∈T,TOk N F t)(b:t∈T)(a:u∈T)(h:¬Lnk F t u):Yk [Jm (roP N W F) T,.s t.1,.s u.1]=.ok (.b false):=by
 have g:=Ej (W:=W) c f b a;unfold NR at g;cases e:zM (F t.2.2.1) (sk u.2.1)with
 |none=>rw[e]at g;exact zN (ze ⟨_,yp (zw rfl g),rfl⟩)
 |some y=>rw[e]at g;have d:¬(u.2.2.2.1-t.2.2.2.2.1-y ≥ 0):=λz=>h ⟨y,e,`d⟩;exact zN (ze ⟨_,yp (zw rfl g),Vw (d7 (x:=true) rfl (zo rfl rfl (by show Out.ok (PV.b (decide (u.2.2.2.1-t.2.2.2.2.1-y ≥ 0)))=_;rw[S7 d])))⟩)
theorem cj(nd:(T.map (·.1)).Nodup)(hT:∀t∈T,TOk N F t):∀{R:List Tp}{R0:PV}{x y:Sz},(∀t∈R,t∈T)->¬Lc F R->∃fs,ZX k_ vc ((R.zip R.tail).map λq=>PV.t [.s q.1.1,.s q.2.1]) [some (Jm (roP N W F) T),some R0,x,y]=.exc 12 fs
 |[],_,_,_,_,h=>absurd trivial h
 |[_],_,_,_,_,h=>absurd trivial h
 |t::u::R,R0,x,y,hR,h=>by
  have ht:=hR t v4;have hu:=hR u (R9 _ v4);by_cases c:Lnk F t u
  .obtain⟨fs,e⟩:=cj nd hT (λx hx=>hR x (R9 _ hx)) λz=>h ⟨c,z⟩;exact⟨fs,(jU rfl ((yn (b6 (zW (zw rfl (hX nd hT ht hu c))))))).trans e⟩
  .exact⟨_,eM rfl ((yn (b6 (zW (zw rfl (Ab nd hT ht hu c))))))⟩
def M9{x:PV}{w z:Sz}:AV (zb (zc 1) (zb (mSl pSl (zc 1) (wZ `f) iJ) zk)) [some x,some (nmL R),w,z]=.ok ((R.zip R.tail).map λq=>PV.t [.s q.1.1,.s q.2.1]):=by
 show Out.ok (xj (R.map λt=>PV.s t.1) (Jl (R.map λt=>PV.s t.1) (some 1) none))=_;have:Jl (R.map λt=>PV.s t.1) (some 1) none=R.tail.map λt=>PV.s t.1:=by
  cases R with
  |nil=>rfl
  |cons t R=>rw[ej `b `c];rfl
 rw[this];unfold xj List.zip;rw[a2W,a2X]
end
section
variable {P:RS}{W:List Wy}{F:Str->Ht}{T R:List Tp}{t:Tp}{home z:Str}{l:Int}{ns:RS}
structure Gud(P:RS)(F:Str->Ht)(T:List Tp)(home:Str)(l:Int)(ns:RS)(R:List Tp):Prop where
 here:home∈P
 nms:ns=R.map (·.1)
 sub:∀t∈R,t∈T
 lc:Lc F R
 si:∀t∈R,fb F home l t
structure Tbl(P:RS)(W:List Wy)(F:Str->Ht)(T:List Tp):Prop where
 ws:WS P W
 gd:∀z,Kz z W (F z)
 nd:(T.map (·.1)).Nodup
 ok:∀t∈T,TOk P F t
 own:∀o∈P,zM (F o) (sk o)=some 0
 len:T.length<=12
theorem known:∀{ns:RS},(∀z∈ns,z∈T.map (·.1))->∃R:List Tp,ns=R.map (·.1)/\∀t∈R,t∈T
 |[],_=>⟨[],rfl,λ_ h=>by cases h⟩
 |n::ns,h=>by obtain⟨R,e,i⟩:=known (ns:=ns) λz hz=>h z (R9 _ hz);obtain⟨t,b,c⟩:=a0F.mp (h n v4);exact⟨t::R,by rw[T2,<- e,c],λx a=>(T6.mp a).elim (λz=>z▸b) (i x)⟩
def GO(B:Tbl P W F T)(h:¬ ∃R:List Tp,home∈P/\ns=R.map (·.1)/\(∀t∈R,t∈T)/\Lc F R):∃c fs,c∈[5,7,12]/\yX [tb P W F T,.s home,.l (ns.map .s)]=.exc c fs:=by
 have rn:kX [(11,yq)] "names" (Kj [10] "roads" (zc 0)) zk [some (tb P W F T),some (.s home),some (.l (ns.map .s))]=.ok (.l (P.map .s)):=XY (Ym rfl) rfl rfl rfl rfl h_;by_cases hh:home∈P
 .have pl:=z0 (zw (ms:=zb (zc 1) (zb (kX [(11,yq)] "names" (Kj [10] "roads" (zc 0)) zk) zk)) (zq rfl (zq rn rfl)) (kB hh));by_cases hk:∀z∈ns,z∈T.map (·.1)
  .obtain⟨R,rfl,hR⟩:=known hk;have hl:=λz=>h ⟨R,hh,rfl,hR,z⟩;obtain⟨fs,e⟩:=cj B.nd B.ok hR hl;refine⟨12,fs,by decide,?_⟩;have em:(R.map (·.1)).map PV.s=R.map λt=>PV.s t.1:=a0q;rw[em]at pl ⊢;exact qh (ze ⟨_,pl,kI (JF rfl (qh (ze ⟨_,z0 (zw rfl (h9 B.nd hR)),eO M9 e⟩)))⟩)
  .have⟨z,hz⟩:=a3t.mp hk;obtain⟨h1,h2⟩:=Classical.not_imp.mp hz;obtain⟨y,e⟩:=ij B.nd ⟨z,h1,h2⟩;exact⟨7,_,by decide,qh (ze ⟨_,pl,kI (JF rfl (qh (Wm (kI (JF rfl (qh (eO (yc rfl) e)))))))⟩)⟩
 .exact⟨5,_,by decide,qh (Wm (kI (JF (zq rfl (zq rn rfl)) (CM hh))))⟩
def Gud.tab(B:Tbl P W F T)(g:Lc F R)(a:home∈P)(b:∀t∈R,t∈T)(c:R.length<=12):Tab P W F T R home:=⟨B.nd,B.ok,b,GN B.ws B.gd (λt d=>B.ok t (b t d)) g,a,B.own home a,c⟩
theorem mH(K:Tab P W F T R home){R0:PV}:∀{R1:List Tp}{x:Sz},(∀t∈R1,t∈R)->∃x',ZX JC JD (R1.map λt=>.s t.1) [some (tb P W F T),some (.s home),some R0,some (.i l),x]=match rfs F home l R1 with|none=>.ok (.nx [some (tb P W F T),some (.s home),some R0,some (.i l),x'])|some r=>.exc r.cls r.fs
 |[],x,_=>⟨x,rfl⟩
 |t::R1,x,h=>by
  have e:=pd (l:=l) K (h t v4);unfold rfs;cases er:rf F home l t with
  |none=>rw[er]at e;obtain⟨x',i⟩:=mH K λy hy=>h y (R9 _ hy);exact⟨x',(jU rfl (z0 (zw rfl e))).trans i⟩
  |some r=>rw[er]at e;exact⟨x,eM rfl (kI (JF rfl e))⟩
def M_(h:m ρ=.ok (.nx ρ')):lV cs m x ρ=.ok (.nx ρ'):=by unfold lV;rw[h]
def Na(h:m ρ=.exc c fs)(a:c∈cs):lV cs m x ρ=.ok (.rt (.b x)):=by unfold lV;rw[h];exact if_pos a
def GP(B:Tbl P W F T)(g:Gud P F T home l ns R)(hl:R.length<=12):yF [tb P W F T,.s home,.l (ns.map .s),.i l]=.ok (.b true):=by
 have K:=Gud.tab B g.lc g.here g.sub hl;obtain⟨x',e⟩:=mH K λ_ h=>h;have er:=by
  have:∀{R1:List Tp},(∀t∈R1,t∈R)->rfs F home l R1=none:=λ{R1}=>by
   induction R1 with
   |nil=>exact λ_=>rfl
   |cons t R1 ih=>
    intro h;have f:=g.si t (h t v4);have e1:rf F home l t=none:=by unfold rf;rw[Zq f.to,Zq f.fro];exact if_pos f.le
    unfold rfs;rw[e1];exact ih λy hy=>h y (R9 _ hy)
  exact this λ_ h=>h
 rw[er]at e;rw[g.nms,a0q];exact zN (ze ⟨_,M_ (ze ⟨_,z0 (zw rfl (eA B.nd B.ok K.sub K.lnk g.here)),qz (yc rfl) e⟩),rfl⟩)
def Nb(B:Tbl P W F T)(hl:ns.length<=12)(h:¬ ∃R,Gud P F T home l ns R):yF [tb P W F T,.s home,.l (ns.map .s),.i l]=.ok (.b false):=by
 by_cases h1:∃R:List Tp,home∈P/\ns=R.map (·.1)/\(∀t∈R,t∈T)/\Lc F R
 .obtain⟨R,hh,rfl,hR,lc⟩:=h1;have K:=Gud.tab B lc hh hR `c;obtain⟨x',e⟩:=mH K λ_ h=>h;rw[a0q];cases er:rfs F home l R with
  |none=>exact absurd ⟨R,hh,rfl,hR,lc,eF er⟩ h
  |some r=>
   rw[er]at e;refine zN (qy (Na (ze ⟨_,z0 (zw rfl (eA B.nd B.ok K.sub K.lnk hh)),eO (yc rfl) e⟩) ?_));cases r with
   |way a b=>exact(by decide:6∈[1,2,3,4,5,6,7,8,9,12,13])
   |long a=>exact(by decide:13∈[1,2,3,4,5,6,7,8,9,12,13])
 .obtain⟨c,fs,hc,e⟩:=GO B h1;refine zN (qy (Na (Wm (kI (JF rfl e))) ?_));rcases T6.mp hc with rfl|hc
  .decide
  .rcases T6.mp hc with rfl|hc
   .decide
   .cases T9.mp hc;decide
end
def La(F:Str->Ht):Option Tp->List Tp->Prop
 |_,[]=>True
 |o,t::R=>(∀u,o=some u->Lnk F u t)/\La F (some t) R
section
variable {P:RS}{W:List Wy}{F:Str->Ht}{T R:List Tp}{t u:Tp}{home z:Str}{l:Int}{ns:RS}{L:Lst}
theorem CN:∀{R:List Tp}{t:Tp},La F (some t) R↔Lc F (t::R)
 |[],_=>⟨λ_=>trivial,λ_=>trivial⟩
 |u::R,t=>⟨λ⟨a,b⟩=>⟨a t rfl,CN.mp b⟩,λ⟨a,b⟩=>⟨λ_ e=>(by cases e;exact a),CN.mpr b⟩⟩
def Ep:∀{R:List Tp},La F none R↔Lc F R
 |[]=>⟨λ_=>trivial,λ_=>trivial⟩
 |t::R=>⟨λ⟨_,b⟩=>CN.mp b,λh=>⟨λ_ e=>(by cases e),CN.mpr h⟩⟩
abbrev rS(P:RS)(T:List Tp)(L:Lst)(home:Str)(ns:RS)(l:Int)(k x y:Sz):Sto:=[some (.dt L),some (.l (P.map .s)),some (.d (vd T)),some (.s home),some (.l (ns.map .s)),some (.i l),k,x,y]
def ixn{k:Nat}{n:Str}(h:ns[k]?=some n):pIx (.l (ns.map .s)) (.i (k:Int))=.ok (.s n):=by obtain⟨a,e⟩:=R8.mp h;rw[xE `a `c,a1m];show Out.ok (PV.s ns[k])=_;rw[e]
def sf(b:(T.map (·.1)).Nodup)(a:t∈T):pIn n (.s t.1) (.d (vd T))=.ok (.b (xor n true))/\pIx (.d (vd T)) (.s t.1)=.ok (tP t):=by
 refine⟨?_,?_⟩
 .show Out.ok (PV.b (xor n (zM (vd T) (sk t.1)).isSome))=_;rw[aq b a];rfl
 .show ZH (zM (vd T) (sk t.1))=_;rw[aq b a];rfl
def sg{o:Option Tp}{k:Nat}{x y:Sz}(B:Tbl P W F T)(hL:LOk P L F)(hh:home∈P)(hn:ns[k]?=some t.1)(ht:t∈T)(hp:∀u,o=some u->u∈T/\0<k/\ns[k-1]?=some u.1)(h0:o=none->k=0):
  ((fb F home l t/\∀u,o=some u->Lnk F u t)->∃y',qe (rS P T L home ns l (some (.i (k:Int))) x y)=.ok (.nx (rS P T L home ns l (some (.i (k:Int))) (some (tP t)) y')))/\
  (¬(fb F home l t/\∀u,o=some u->Lnk F u t)->qe (rS P T L home ns l (some (.i (k:Int))) x y)=.ok (.rt (.b false))):=by
 have hT:=B.ok t ht;have e1:=λ{ρ:Sto}(h4:zc 4 ρ=.ok (.l (ns.map .s))) (h6:zc 6 ρ=.ok (.i (k:Int)))=>zo (f:=pIx) (a:=zc 4) (b:=zc 6) h4 h6 (ixn hn);have q0:=(yn (a:=vt (mC (.b false))) (b:=yB) (zW (zo (e1 (ρ:=rS P T L home ns l (some (.i (k:Int))) x y) rfl rfl) (b:=zc 2) rfl (sf (n:=true) B.nd ht).1))).trans rfl;have q7:=yp (i:=7) (zo (a:=zc 2) (ρ:=rS P T L home ns l (some (.i (k:Int))) x y) rfl (e1 rfl rfl) (sf (n:=true) B.nd ht).2);have i1:=ai (ρ:=rS P T L home ns l (some (.i (k:Int))) (some (tP t)) y) (n:=true) (ms:=zb (zc 3) (zb (mOp pIx (zc 7) `f) zk)) (m:=zc 0) (x:=home) (y:=t.2.1) (L:=L) rfl rfl;have i2:=ai (ρ:=rS P T L home ns l (some (.i (k:Int))) (some (tP t)) y) (n:=true) (ms:=zb (mOp pIx (zc 7) (mC (.i 2))) (zb (zc 3) zk)) (m:=zc 0) (x:=t.2.2.1) (y:=home) (L:=L) rfl rfl;rw[hL _ hh _ hT.org]at i1;rw[hL _ hT.goal _ hh]at i2;have q1:=λX Y=>yn (a:=X) (b:=Y) (Vx i1 i2);cases d1:(zM (F home) (sk t.2.1)).isSome with
 |false=>rw[d1]at q1;exact⟨λh=>absurd h.1.to (by rw[d1];exact a0c),λ_=>ze ⟨_,q0,ze ⟨_,q7,qy ((q1 _ _))⟩⟩⟩
 |true=>
  rw[d1]at q1;cases d2:(zM (F t.2.2.1) (sk home)).isSome with
  |false=>rw[d2]at q1;exact⟨λh=>absurd h.1.fro (by rw[d2];exact a0c),λ_=>ze ⟨_,q0,ze ⟨_,q7,qy ((q1 _ _))⟩⟩⟩
  |true=>
   rw[d2]at q1;have ll:=ia (R:=[t]) (show 1<=100 by decide) hL (λu hu=>by rw[T9.mp hu];exact hT) (a1s _ _) hh (by simp) (λu hu=>by rw[List.mem_singleton.mp hu];exact⟨d1,d2⟩);have q3:=λX Y=>yn (a:=X) (b:=Y) (ρ:=rS P T L home ns l (some (.i (k:Int))) (some (tP t)) y) (zW (zo (f:=pGt) (y:=.i l) (b:=zc 5) (zw (zq (a:=zc 0) rfl (zq (a:=zc 3) rfl (zq (we (ms:=zb (zc 7) zk) rfl (S5 rfl)) (ms:=zk) rfl))) ll) rfl rfl));by_cases c:ln F home [t]<=l
   .rw[S7 (show ¬ln F home [t]>l by omega)]at q3;have fin:fb F home l t:=⟨d1,d2,c⟩;cases o with
    |none=>have k0:=h0 rfl;subst k0;exact⟨λ_=>⟨y,ze ⟨_,q0,ze ⟨_,q7,ze ⟨_,(q1 _ _),ze ⟨_,(q3 _ _),(yn (x:=false) (QD (x:=0) (n:=0) rfl))⟩⟩⟩⟩⟩,λh=>absurd ⟨fin,λ_ e=>by cases e⟩ h⟩
    |some u=>
     obtain⟨hu,hk,hun⟩:=hp u rfl;have hU:=B.ok u hu;have e2:=zo (f:=pIx) (a:=zc 4) (b:=mOp Wv (zc 6) `f) (ρ:=rS P T L home ns l (some (.i (k:Int))) (some (tP t)) y) rfl (zo (z:=.i ((k-1:Nat):Int)) rfl rfl (by show Out.ok (PV.i ((k:Int)-1))=_;rw[show(k:Int)-1=((k-1:Nat):Int) by omega])) (ixn hun);have q8:=yp (i:=8) (zo (a:=zc 2) rfl e2 (sf (n:=true) B.nd hu).2);have i3:=ai (ρ:=rS P T L home ns l (some (.i (k:Int))) (some (tP t)) (some (tP u))) (n:=true) (ms:=zb (mOp pIx (zc 8) (mC (.i 2))) (zb (mOp pIx (zc 7) `f) zk)) (m:=zc 0) (x:=u.2.2.1) (y:=t.2.1) (L:=L) rfl rfl;rw[hL _ hU.goal _ hT.org]at i3;have qk:=λX Y=>yn (a:=X) (b:=Y) (ρ:=rS P T L home ns l (some (.i (k:Int))) (some (tP t)) y) (QD (a:=zc 6) (x:=(k:Int)) (n:=0) rfl);rw[S8 (show(k:Int)>0 by omega)]at qk;have fw:=λ{r:Out Fw}(h:sIf (mOr (zU (gj true (zb (mOp pIx (zc 8) (mC (.i 2))) (zb (mOp pIx (zc 7) `f) zk)) (zc 0))) (zU (mOp pGt (mOp zP (mOp pIx (zc 8) (mC (.i 4))) (iK (zc 0) (zb (mOp pIx (zc 8) (mC (.i 2))) (zb (mOp pIx (zc 7) `f) zk)))) (mOp pIx (zc 7) (mC (.i 3)))))) (vt (mC (.b false))) yB (rS P T L home ns l (some (.i (k:Int))) (some (tP t)) (some (tP u)))=r)=>
      (show qe (rS P T L home ns l (some (.i (k:Int))) x y)=r from ze ⟨_,q0,ze ⟨_,q7,ze ⟨_,(q1 _ _),ze ⟨_,(q3 _ _),(qk _ _).trans (ze ⟨_,q8,h⟩)⟩⟩⟩⟩)
     cases d3:zM (F u.2.2.1) (sk t.2.1)with
     |none=>rw[d3]at i3;exact⟨λh=>(by obtain⟨w,ew,_⟩:=h.2 u rfl;rw[d3]at ew;cases ew),λ_=>fw ((yn (b8 i3)))⟩
     |some w=>
      rw[d3]at i3;have e4:=WN (m:=zc 0) (L:=L) (ρ:=rS P T L home ns l (some (.i (k:Int))) (some (tP t)) (some (tP u))) (ms:=zb (mOp pIx (zc 8) (mC (.i 2))) (zb (mOp pIx (zc 7) `f) zk)) rfl rfl ((hL _ hU.goal _ hT.org).trans d3);have g4:=zW (zo (f:=pGt) (b:=mOp pIx (zc 7) (mC (.i 3))) (y:=.i t.2.2.2.1) (zo (f:=zP) (a:=mOp pIx (zc 8) (mC (.i 4))) (x:=.i u.2.2.2.2.1) rfl e4 rfl) rfl rfl);by_cases c2:u.2.2.2.2.1+w<=t.2.2.2.1
      .rw[S7 (show ¬u.2.2.2.2.1+w>t.2.2.2.1 by omega)]at g4;exact⟨λ_=>⟨some (tP u),fw ((yn (Vx i3 g4)))⟩,λh=>absurd ⟨fin,λ_ e=>(by cases e;exact⟨w,d3,c2⟩)⟩ h⟩
      .rw[S8 (show u.2.2.2.2.1+w>t.2.2.2.1 by omega)]at g4;exact⟨λh=>(by obtain⟨w',ew,le⟩:=h.2 u rfl;rw[d3]at ew;cases ew;exact absurd le c2),λ_=>fw ((yn (Vx i3 g4)))⟩
   .rw[S8 (show ln F home [t]>l by omega)]at q3;exact⟨λh=>absurd h.1.le c,λ_=>ze ⟨_,q0,ze ⟨_,q7,ze ⟨_,(q1 _ _),qy ((q3 _ _))⟩⟩⟩⟩
end
section
variable {P:RS}{W:List Wy}{F:Str->Ht}{T R:List Tp}{t u v:Tp}{home z:Str}{l:Int}{ns:RS}{L:Lst}
theorem VB(B:Tbl P W F T)(hL:LOk P L F)(hh:home∈P){Z:RS}:∀{R1 A:List Tp}{v x y:Sz},(∀t∈A++R1,t∈T)->ns=(A++R1).map (·.1)++Z->
  (((∀t∈R1,fb F home l t)/\La F A.getLast? R1)->∃v' x' y',ZX vz qe (aJ (A.length:Int) (R1.length+Z.length)) (rS P T L home ns l v x y)=ZX vz qe (aJ ((A++R1).length:Int) Z.length) (rS P T L home ns l v' x' y'))/\
  (¬((∀t∈R1,fb F home l t)/\La F A.getLast? R1)->ZX vz qe (aJ (A.length:Int) (R1.length+Z.length)) (rS P T L home ns l v x y)=.ok (.rt (.b false)))
 |[],A,v,x,y,_,_=>⟨λ_=>⟨v,x,y,by rw[a0i,a1f,a2l]⟩,λh=>absurd ⟨λ_ h=>(by cases h),trivial⟩ h⟩
 |t::R1,A,v,x,y,hT,e=>by
  have hk:ns[A.length]?=some t.1:=by rw[e,T5,a0n,a0b (by rw[f8];exact S0 _),f8,a0W];rfl
  obtain⟨s1,s2⟩:=sg (x:=x) (y:=y) (o:=A.getLast?) (k:=A.length) B hL hh hk (hT t (a0m _ v4)) (l:=l) (λu hu=>by
   obtain⟨A0,rfl⟩:=List.getLast?_eq_some_iff.mp hu;refine⟨hT u (by simp),by simp,?_⟩;rw[e,R7,a0g,Nat.add_sub_cancel];simp) (λh=>by cases A with|nil=>rfl|cons a A=>cases(List.getLast?_eq_none_iff.mp h))
  have ea:A++t::R1=(A++[t])++R1:=by rw[a0n];rfl
  rw[show(t::R1).length+Z.length=(R1.length+Z.length)+1 by rw[R4];omega,fX];have el:((A.length:Int)+1)=(((A++[t]).length:Nat):Int):=by rw[R7];rfl
  rw[el];by_cases c:fb F home l t/\∀u,A.getLast?=some u->Lnk F u t
  .obtain⟨y',e1⟩:=s1 c;obtain⟨i1,i2⟩:=VB B hL hh (Z:=Z) (R1:=R1) (A:=A++[t]) (v:=some (.i (A.length:Int))) (x:=some (tP t)) (y:=y') (by rw[<- ea];exact hT) (by rw[<- ea];exact e);rw[<- ea]at i1;rw[List.getLast?_concat]at i1 i2;refine⟨λh=>?_,λh=>(jU rfl e1).trans (i2 λg=>h ⟨λw hw=>(T6.mp hw).elim (λq=>q▸c.1) (g.1 w),c.2,g.2⟩)⟩;obtain⟨v',x',y'',e2⟩:=i1 ⟨λw hw=>h.1 w (R9 _ hw),h.2.2⟩;exact⟨v',x',y'',(jU rfl e1).trans e2⟩
  .exact⟨λh=>absurd ⟨h.1 t v4,h.2.1⟩ c,λ_=>eK rfl (s2 c)⟩
theorem ar:∀(ns:RS),(∃R:List Tp,ns=R.map (·.1)/\∀t∈R,t∈T)\/∃(R:List Tp)(z:Str)(Z:RS),ns=R.map (·.1)++z::Z/\(∀t∈R,t∈T)/\z∉T.map (·.1)
 |[]=>.inl ⟨[],rfl,λ_ h=>by cases h⟩
 |n::ns=>by
  by_cases c:n∈T.map (·.1)
  .obtain⟨t,b,rfl⟩:=a0F.mp c;rcases ar ns with⟨R,e,h⟩|⟨R,z,Z,e,h,hz⟩
   .exact .inl ⟨t::R,by rw[e];rfl,λx a=>(T6.mp a).elim (λq=>q▸b) (h x)⟩
   .exact .inr ⟨t::R,z,Z,by rw[e];rfl,λx a=>(T6.mp a).elim (λq=>q▸b) (h x),hz⟩
  .exact .inr ⟨[],n,ns,rfl,λ_ h=>(by cases h),c⟩
def ck(a:home∈P){m:MS}{r:Out Fw}{v x y:Sz}(h:m (rS P T L home ns l v x y)=r):yk (sIf (zU (mOp (pIn true) (zc 3) (zc 1))) (vt (mC (.b false))) yB) m (rS P T L home ns l v x y)=r:=
 ze ⟨_,(yn (x:=false) (zW (zo rfl rfl (Cu.trans (by rw[S8 a];rfl))))).trans rfl,h⟩
def ik{v x y:Sz}(a:ns.length<=1000):Xe (zb (zg vq (zb (zc 4) zk)) zk) (rS P T L home ns l v x y)=.ok (aJ ((([]:List Tp).length:Nat):Int) ns.length):=
 nM (n:=ns.length) (zq (zw (zq rfl rfl) kN) rfl) `a
def Ac(B:Tbl P W F T)(hL:LOk P L F)(hl:ns.length<=1000)(g:Gud P F T home l ns R):yW [.dt L,.l (P.map .s),.d (vd T),.s home,.l (ns.map .s),.i l]=.ok (.b true):=by obtain⟨i1,_⟩:=VB (l:=l) B hL g.here (Z:=[]) (ns:=ns) (R1:=R) (A:=[]) (v:=none) (x:=none) (y:=none) g.sub (by rw[a0i];exact g.nms);obtain⟨v',x',y',e⟩:=i1 ⟨g.si,Ep.mpr g.lc⟩;exact zN (ck g.here (ze ⟨rS P T L home ns l v' x' y',qz (ik hl) (by rw[show ns.length=R.length+([]:List Str).length by rw[g.nms,f8];rfl,e];rfl),rfl⟩))
def CO(B:Tbl P W F T)(hL:LOk P L F)(hl:ns.length<=1000)(h:¬ ∃R,Gud P F T home l ns R):yW [.dt L,.l (P.map .s),.d (vd T),.s home,.l (ns.map .s),.i l]=.ok (.b false):=by
 by_cases hh:home∈P
 .refine zN (ck hh (qy (qz (ik hl) ?_)));rcases ar ns with⟨R,e,hR⟩|⟨R,z,Z,e,hR,hz⟩
  .obtain⟨_,i2⟩:=VB B hL hh (ns:=ns) (A:=[]) hR (by rw[a0i];exact e);rw[show ns.length=R.length+([]:List Str).length by rw[e,f8];rfl];exact i2 λc=>h ⟨R,hh,e,hR,Ep.mp c.2,c.1⟩
  .obtain⟨i1,i2⟩:=VB B hL hh (A:=[]) hR e;rw[show ns.length=R.length+(z::Z).length by rw[e,R7,f8]];by_cases c:(∀t∈R,fb F home l t)/\La F ([]:List Tp).getLast? R
   .obtain⟨v',x',y',e2⟩:=i1 c;rw[e2,R4,fX];have hk:ns[([]++R).length]?=some z:=by rw[e,a0b (by rw[f8];exact S0 _),f8];show(z::Z)[R.length-R.length]?=_;rw[a0W];rfl
    refine eK rfl (qy ((yn (x:=true) (zW (zo (zo rfl rfl (ixn hk)) rfl ?_))).trans rfl));show Out.ok (PV.b (xor true (zM (vd T) (sk z)).isSome))=_;rw[Vz hz];rfl
   .exact i2 c
 .exact zN (qy ((yn (x:=true) (zW (zo rfl rfl (Cu.trans (by rw[S7 hh];rfl))))).trans rfl))
end
section
variable {P:RS}{W:List Wy}{F:Str->Ht}{T R:List Tp}{t u:Tp}{home:Str}{l:Int}{ns:RS}
def GQ(B:Tbl P W F T)(h:c≠[])(j:∀x∈c++[t],x∈T)(hp:(c++[t]).Pairwise (Lnk F))(hf:(zM (F t.2.2.1) (sk home)).isSome=true):ln F home c<=ln F home (c++[t]):=by
 obtain⟨b,u,rfl⟩:∃b u,c=b++[u]:=⟨_,_,(List.dropLast_concat_getLast h).symm⟩;have a:=B.ok t (j t (by simp));obtain⟨y,d,_⟩:Lnk F u t:=(a3r.mp hp).2.2 u (by simp) t (by simp);obtain⟨A,g,w⟩:=a.len;obtain⟨p,e⟩:=a0O.mp hf;obtain⟨s,r,o⟩:=tri B.ws B.gd a.org d g;obtain⟨f,C,n⟩:=tri B.ws B.gd a.goal o e;unfold ln;rw[xX (t:=t),eB (t:=t),eB (t:=u)];have m:fd F u.2.2.1 home=f:=by unfold fd;rw[n];rfl
 have i:fd F u.2.2.1 t.2.1=y:=by unfold fd;rw[d];rfl
 have q:fd F t.2.2.1 home=p:=by unfold fd;rw[e];rfl
 rw[m,i,q];omega
theorem Er(B:Tbl P W F T)(d:∀t∈R,t∈T)(hp:R.Pairwise (Lnk F))(hf:∀t∈R,fb F home l t):∀{Z c:List Tp},c≠[]->(c++Z).Sublist R->ln F home c<=ln F home (c++Z)
 |[],c,_,_=>by rw[a0i];exact a0R _
 |t::Z,c,g,a=>by
  have e:c++t::Z=(c++[t])++Z:=by rw[a0n];rfl
  rw[e]at a ⊢;have b:(c++[t]).Sublist R:=(a1n _ _).trans a;exact a2N (GQ B g (λx f=>d x (b.subset f)) (hp.sublist b) (hf t (b.subset (by simp))).fro) (Er B d hp hf (by simp) a)
theorem GR{a:Type}{ln:List a->Int}{l:Int}:∀{D:List (List a)},Mx ln l D->∀d∈D,d≠[]
 |[],_,_,h=>by cases h
 |d::D,⟨c,_,_,b⟩,e,h=>by
  rcases T6.mp h with rfl|h
  .exact c
  .exact GR b e h
theorem Es{α β:Type}{f:α->β}:∀{ps:List (List β)}{R:List α},ps.flatten=R.map f->∃D:List (List α),D.flatten=R/\ps=D.map (·.map f)
 |[],R,h=>⟨[],(by cases R with|nil=>rfl|cons a R=>cases h),rfl⟩
 |p::ps,R,h=>by obtain⟨R1,R2,rfl,e1,e2⟩:=List.map_eq_append_iff.mp h.symm;obtain⟨D,e3,e4⟩:=Es (f:=f) (ps:=ps) (R:=R2) e2.symm;exact⟨R1::D,by rw[a0u,e3],by rw[T2,e1,<- e4]⟩
theorem pe{g n:Type}{f:g->n}:∀{D C:List (List g)},D.flatten=C.flatten->D.map (·.map f)=C.map (·.map f)->D=C
 |[],[],_,_=>rfl
 |[],_::_,_,h=>by cases h
 |_::_,[],_,h=>by cases h
 |d::D,c::C,h,e=>by
  rw[T2,T2]at e;injection e with a b
  have j:d.length=c.length:=by have:=a0K List.length a;simpa using this
  rw[a0u,a0u]at h;obtain⟨i,m⟩:=List.append_inj h j;rw[i,pe m b]
abbrev nmS(D:List (List Tp)):List (List Str):=D.map (·.map (·.1))
def GS(B:Tbl P W F T)(g:Gud P F T home l ns R){D:List (List Tp)}(hD:D.flatten=R)(c:∀d∈D,d≠[]):(nmS D=nmS (ib (ln F home) l R))↔(∀d∈D,ln F home d<=l)/\∀q∈D.zip D.tail,l<ln F home (q.1++q.2.take 1):=by
 have hp:=GN B.ws B.gd (λt b=>B.ok t (g.sub t b)) g.lc;rw[<- Ek c];constructor
 .intro e;rw[pe (hD.trans o_.symm) e];exact xZ λt b=>(g.si t b).le
 .intro m;have:=MW m λd i a Z h e=>by subst e;exact Er B g.sub hp g.si h (hD▸a1c i)
  rw[hD]at this;rw[<- this]
end
abbrev y9(r:RS):PV:=.l (r.map .s)
abbrev psV(ps:Sv):PV:=.l (ps.map y9)
theorem eQ{i:Type}[DecidableEq i]{f:SV}{g:i->PV}(h:∀a b,f (g a) (g b)=some (decide (a=b))):∀d c:List i,Dl f (d.map g) (c.map g)=some (decide (d=c))
 |[],[]=>rfl
 |[],_::_=>rfl
 |_::_,[]=>rfl
 |x::d,y::c=>by show Hm (f (g x) (g y)) (Dl f (d.map g) (c.map g))=_;rw[h,eQ h d c];show some (decide (x=y)&&decide (d=c))=_;congr 1;rw[<- a25];exact decide_eq_decide.mpr ⟨λ⟨a,b⟩=>by rw[a,b],λe=>by injection e with a b;exact⟨a,b⟩⟩
def mI(a b:RS):eZ (n+1) (y9 a) (y9 b)=some (decide (a=b)):=eQ (f:=eZ n) (λ_ _=>Lx) a b
def Et:jG n (y9 a) (y9 b)=.ok (.b (xor n (decide (a=b)))):=by unfold jG;rw[show Fo 8 (y9 a) (y9 b)=some (decide (a=b))from mI a b]
def Eu(a b:Sv):eZ (n+2) (psV a) (psV b)=some (decide (a=b)):=eQ (f:=eZ (n+1)) mI a b
def Pf:jG n (psV a) (psV b)=.ok (.b (xor n (decide (a=b)))):=by unfold jG;rw[show Fo 8 (psV a) (psV b)=some (decide (a=b))from Eu a b]
theorem pf{R0:PV}:∀{ps:Sv}{acc:RS}{x:Sz},acc.length+ps.flatten.length<=100000->∃x',ZX oi oj (ps.map y9) [some R0,some (y9 acc),x]=.ok (.nx [some R0,some (y9 (acc++ps.flatten)),x'])
 |[],acc,x,_=>⟨x,by rw[List.flatten_nil,a0i];rfl⟩
 |p::ps,acc,x,h=>by rw[a0u,R7]at h;obtain⟨x',e⟩:=pf (R0:=R0) (ps:=ps) (acc:=acc++p) (x:=some (y9 p)) `c;refine⟨x',(jU rfl ?_).trans (by rw[e,a0u,a0n])⟩;show Lo 1 (zc 2) [some R0,some (y9 acc),some (y9 p)]=_;show(if(acc.map PV.s).length+(p.map PV.s).length<=sizeLine then _ else _)=_;rw[if_pos (a0l (show _<=100000 by rw[f8,f8];omega) `b),<- T5];rfl
def GU(h:ps.flatten.length<=100000):U4 [psV ps]=.ok (y9 ps.flatten):=by obtain⟨x',e⟩:=pf (R0:=psV ps) (ps:=ps) (acc:=[]) (x:=none) (by rw[a1f,a2l];exact h);exact zN (ze ⟨_,rfl,ze ⟨_,qz (yc rfl) e,rfl⟩⟩)
theorem Ew:∀{c:Sv},inE (c.map y9)=some (decide ([]∈c))
 |[]=>rfl
 |p::c=>by
  show(inE (c.map y9)).map (λb=>(p.map PV.s).isEmpty||b)=_;rw[Ew];show some ((p.map PV.s).isEmpty||decide ([]∈c))=_;congr 1;cases p with
  |nil=>simp
  |cons a p=>simp
def CP{a:Type}{f:a->Bool}{xs:List a}:Hq [.l (xs.map λx=>PV.b (f x))]=.ok (.b (xs.any f)):=by show ZH ((uv (xs.map λx=>PV.b (f x))).map λb=>PV.b (b.any id))=_;rw[fZ];show Out.ok (PV.b ((xs.map f).any id))=_;rw[a3I];rfl
section
variable {P:RS}{W:List Wy}{F:Str->Ht}{T R:List Tp}{t:Tp}{home:Str}{l:Int}{ns:RS}{ps:Sv}
abbrev pS(P:RS)(W:List Wy)(F:Str->Ht)(T:List Tp)(home:Str)(ns:RS)(l:Int)(ps:Sv)(x:Sz):Sto:=[some (tb P W F T),some (.s home),some (y9 ns),some (.i l),some (psV ps),x]
def il(d:yF [tb P W F T,.s home,y9 ns,.i l]=.ok (.b b))(h:b=true->m (pS P W F T home ns l ps none)=r)(c:b=false->r=.ok (.rt (.b false))):yk (sIf (sF (zU (zg yF (zb (zc 0) (zb (zc 1) (zb (zc 2) (zb (zc 3) zk))))))) (vt (mC (.b false))) yB) m (pS P W F T home ns l ps none)=r:=by
 have t:=λX Y=>yn (a:=X) (b:=Y) (b6 (zW (zw (ms:=zb (zc 0) (zb (zc 1) (zb (zc 2) (zb (zc 3) zk)))) (ρ:=pS P W F T home ns l ps none) rfl d)));cases b with
 |true=>exact ze ⟨_,(t _ _).trans rfl,h rfl⟩
 |false=>rw[c rfl];exact qy ((t _ _).trans rfl)
def Pg(a:yF [tb P W F T,.s home,y9 ns,.i l]=.ok (.b false)):zZ [tb P W F T,.s home,y9 ns,.i l,psV ps]=.ok (.b false):=
 zN (il a (λe=>by cases e) λ_=>rfl)
def Nc:AV (zb (zc 4) (zb (mSl pSl (zc 4) (wZ `f) iJ) zk)) (pS P W F T home ns l (nmS D) x)=.ok ((D.zip D.tail).map λq=>PV.t [nmL q.1,nmL q.2]):=by
 have a:(nmS D).map y9=D.map nmL:=by unfold nmS;rw[a0q];exact a0T λd _=>by show PV.l ((d.map (·.1)).map .s)=_;rw[a0q];rfl
 show Out.ok (xj ((nmS D).map y9) (Jl ((nmS D).map y9) (some 1) none))=_;rw[a];have:Jl (D.map nmL) (some 1) none=D.tail.map nmL:=by
  cases D with
  |nil=>rfl
  |cons d D=>rw[ej `b (by rw[f8,R4];omega)];rfl
 rw[this];unfold xj List.zip;rw[a2W,a2X]
def Ad{c:Type}{e:c->List Tp}{D:List c}(K:Tab P W F T R home)(hf:∀t∈R,fb F home l t)(b:∀d∈D,(e d).Sublist R/\e d≠[])(h:D.length<=1000):lcP (gNm 0) lB (mOp pGt (zg zK (zb (zc 1) (zb (zc 2) (zb (zc 0) zk)))) (zc 3)) (D.map λd=>nmL (e d)) [x,some (tb P W F T),some (.s home),some (.i l)] []=.ok (.l (D.map λd=>.b (decide (ln F home (e d)>l)))):=
 w_ (λd=>nmL (e d)) (λd=>.b (decide (ln F home (e d)>l))) (λg=>∃x,g=[x,some (tb P W F T),some (.s home),some (.i l)]) D _ ⟨x,rfl⟩ (λd f g ⟨y,a⟩=>by
  subst a;exact⟨_,rfl,⟨some (nmL (e d)),rfl⟩,zo (zw rfl (ig K hf (b d f).1 (b d f).2)) rfl rfl⟩) `a
end
section
variable {P:RS}{W:List Wy}{F:Str->Ht}{T R:List Tp}{t:Tp}{home z:Str}{l:Int}{ns:RS}{ps:Sv}
theorem Ae:∀{D:List (List Tp)},(∀d∈D,d≠[])->∀q∈D.zip D.tail,(q.1++q.2.take 1).Sublist D.flatten/\q.1++q.2.take 1≠[]
 |[],_,_,h=>by cases h
 |[_],_,_,h=>by cases h
 |d::e::D,c,q,h=>by
  rcases T6.mp h with rfl|h
  .refine⟨?_,λz=>c d v4 (List.append_eq_nil_iff.mp z).1⟩;rw[a0u,a0u];exact(List.Sublist.refl _).append ((a2D _ _).trans (a1n _ _))
  .obtain⟨a,b⟩:=Ae (D:=e::D) (λx f=>c x (R9 _ f)) q h;exact⟨a.trans (by rw[a0u (l:=d)];exact a1Q _ _),b⟩
def Nd(h:a.length+b.length<=90000):zP (.l a) (.l b)=.ok (.l (a++b)):=if_pos (a0l h `b)
def Af(c:∀d∈D,d.length<=1000)(hD:D.length<=1000):mLC (AV (zb (zc 4) (zb (mSl pSl (zc 4) (wZ `f) iJ) zk))) [none,none] YD YE YF (pS P W F T home ns l (nmS D) x)=.ok (.l ((D.zip D.tail).map λq=>nmL (q.1++q.2.take 1))):=
 Uw Nc (w_ (λq:List Tp×List Tp=>PV.t [nmL q.1,nmL q.2]) (λq=>nmL (q.1++q.2.take 1)) (λb=>∃x y,b=[x,y]) _ _ ⟨none,none,rfl⟩ (λq e b ⟨x,y,a⟩=>by
  subst a;have f:=c _ (a2h e).1;refine⟨_,rfl,⟨some (nmL q.1),some (nmL q.2),rfl⟩,zo rfl (y:=nmL (q.2.take 1)) ?_ ?_⟩
  .show Out.ok (PV.l (Jl (q.2.map λt=>PV.s t.1) none (some 1)))=_;rw[MN `b,<- a1g];rfl
  .rw[show nmL (q.1++q.2.take 1)=PV.l ((q.1.map λt=>PV.s t.1)++((q.2.take 1).map λt=>PV.s t.1)) by rw[<- T5]];exact Nd (by rw[f8,f8,a0x];omega)) (by rw[List.length_zip];omega))
def Nf(B:Tbl P W F T)(g:Gud P F T home l ns R)(H:R.length<=12)(hp:ps.length<=1000)(j:ps.flatten.length<=100000):zZ [tb P W F T,.s home,y9 ns,.i l,psV ps]=.ok (.b (decide (ps=nmS (ib (ln F home) l R)))):=by
 have K:=Gud.tab B g.lc g.here g.sub H;have A:=GP B g H;have m:=xZ (ln:=ln F home) (l:=l) (T:=R) λt N=>(g.si t N).le;have p:=zW (zo (f:=Mg) (a:=vC zk) (b:=zc 4) (ρ:=pS P W F T home ns l ps none) (x:=.l []) rfl rfl (show _=Out.ok (PV.b (decide ([]∈ps))) by show ZH ((inE (ps.map y9)).map PV.b)=_;rw[Ew];rfl));by_cases y:[]∈ps
 .rw[S8 y]at p;rw[S7 (λe=>by
   rw[e]at y;obtain⟨d,c,O⟩:=a0F.mp y;exact GR m d c (List.map_eq_nil_iff.mp O))]
  exact zN (il A (λ_=>qy ((yn (b8 p)).trans rfl)) λe=>by cases e)
 rw[S7 y]at p;have w:=zW (zo (f:=jG true) (a:=zg U4 (zb (zc 4) zk)) (b:=zc 2) (ρ:=pS P W F T home ns l ps none) (zw rfl (GU j)) rfl (Et (n:=true) (b:=ns)));by_cases G:ps.flatten=ns
 .rw[S8 G]at w;obtain⟨D,E,rfl⟩:=Es (f:=λt:Tp=>t.1) (G.trans g.nms);have o:∀d∈D,d≠[]:=λd c z=>y (a0F.mpr ⟨d,c,by rw[z];rfl⟩);have s:D.length<=1000:=by rwa [f8]at hp
  have S:(nmS D).map y9=D.map nmL:=by unfold nmS;rw[a0q];exact a0T λd _=>by show PV.l ((d.map (·.1)).map .s)=_;rw[a0q];rfl
  have U:=g.si;have M:=Ad (e:=id) (D:=D) (x:=none) K g.si (λd c=>⟨E▸a1c c,o d c⟩) s;have C:=zW (zw (f:=Hq) (zq (Uw (mi:=ye (zc 4)) (fr:=[none,some 0,some 1,some 3]) (ρ:=pS P W F T home ns l (nmS D) none) (yc (xs:=D.map nmL) (by show Out.ok (PV.l ((nmS D).map y9))=_;rw[S])) M) (ms:=zk) rfl) CP);have I:=GS B g E o;by_cases i:∀d∈D,ln F home d<=l
  .rw[show D.any (λd=>decide (ln F home (id d)>l))=false from List.any_eq_false.mpr λd c=>by rw[S7 (show ¬ln F home (id d)>l from λz=>absurd (i d c) (a3s.mpr z))];exact a0c]at C;have r:∀d∈D,d.length<=1000:=λd c=>by have:=(E▸a1c c:d.Sublist R).length_le;omega
   have J:=Ad (e:=λq:List Tp×List Tp=>q.1++q.2.take 1) (D:=D.zip D.tail) (x:=none) K g.si (λq j=>by
    obtain⟨a,b⟩:=Ae o q j;exact⟨E▸a,b⟩) (by rw[List.length_zip];omega)
   have Q:=zw (f:=Ho) (zq (Uw (mi:=ye (zc 5)) (fr:=[none,some 0,some 1,some 3]) (ρ:=pS P W F T home ns l (nmS D) (some (.l ((D.zip D.tail).map λq=>nmL (q.1++q.2.take 1))))) (yc rfl) J) (ms:=zk) rfl) BM;have ev:decide (nmS D=nmS (ib (ln F home) l R))=(D.zip D.tail).all λq=>decide (ln F home (q.1++q.2.take 1)>l):=by rw[Bool.eq_iff_iff,decide_eq_true_iff,a1l,I];exact⟨λh q j=>S8 (h.2 q j),λh=>⟨i,λq j=>a0S (h q j)⟩⟩
   rw[ev];exact zN (il A (λ_=>ze ⟨_,(yn (x:=false) (Vx p w)).trans rfl,ze ⟨_,(yn (x:=false) C).trans rfl,ze ⟨_,yp (Af r s),Vw Q⟩⟩⟩) λe=>by cases e)
  .rw[show D.any (λd=>decide (ln F home (id d)>l))=true by
    obtain⟨d,z⟩:=a3t.mp i;obtain⟨c,z⟩:=Classical.not_imp.mp z;exact List.any_eq_true.mpr ⟨d,c,S8 (a3s.mp z)⟩]at C
   rw[S7 λe=>i (I.mp e).1];exact zN (il A (λ_=>ze ⟨_,(yn (x:=false) (Vx p w)).trans rfl,qy ((yn (x:=true) C).trans rfl)⟩) λe=>by cases e)
 .rw[S7 G]at w;rw[S7 (λe=>by
   refine G ?_;rw[e,g.nms];unfold nmS;rw[<- List.map_flatten,o_])]
  exact zN (il A (λ_=>qy ((yn (Vx p w)).trans rfl)) λe=>by cases e)
end
def ph(h:zc i ρ=.ok (y9 r)):zg qW (zb (zc i) zk) ρ=.ok (y9 r):=zw (zq h rfl) rfl
def mJ(h:zZ [tb P W F T,.s home,y9 ns,.i l,psV ps]=.ok (.b w))(e:ps.length<=1000):yG [tb P W F T,.s home,y9 ns,.i l,psV ps,.b w]=.ok (.b true):=by
 have d:=yp (i:=6) (we (ms:=zb (zg qW (zb (zc 2) zk)) (zb (mLC (ye (zc 4)) [none] Vp Vq Vr) zk)) (ρ:=[some (tb P W F T),some (.s home),some (y9 ns),some (.i l),some (psV ps),some (.b w),none,none]) (zq (ph rfl) (zq (Uw (yc rfl) (w_ y9 y9 (λa=>∃x,a=[x]) ps _ ⟨none,rfl⟩ (λp hp a ⟨x,b⟩=>by
  subst b;exact⟨_,rfl,⟨some (y9 p),rfl⟩,ph rfl⟩) `a)) rfl)) (S5 rfl))
 have q:jG false (.l [y9 ns,psV ps]) (.l [y9 ns,psV ps])=.ok (.b true):=by
  unfold jG;rw[show Fo 8 (.l [y9 ns,psV ps]) (.l [y9 ns,psV ps])=some true from by
   show Hm (eZ 7 (y9 ns) (y9 ns)) (Hm (eZ 7 (psV ps) (psV ps)) (some true))=_;rw[mI,Eu,S8 rfl,S8 rfl];rfl]
  rfl
 have c:jG false (.b w) (.b w)=.ok (.b true):=by cases w<;>rfl
 exact zN (ze ⟨_,d,ze ⟨_,yp (zw rfl h),Vw (d7 (x:=true) rfl (d7 (zo rfl rfl c) (zo rfl (we rfl (S5 rfl)) q)))⟩⟩)
section
variable {P:RS}{W:List Wy}{F:Str->Ht}{T R:List Tp}{t u:Tp}{home:Str}{l:Int}{L:Lst}{kn:Nat}{G:AH}
abbrev qS(L:Lst)(T:List Tp)(home:Str)(kn:Nat)(l:Int)(k5:Option HV)(c:List Tp)(x y:Option HV):Jc:=[some (.v (.dt L)),some (.v (.d (vd T))),some (.v (.s home)),some (.g kn),some (.v (.i l)),k5,some (.v (.l (c.map tP))),x,y]
def Ag:jG true (.l (c.map tP)) (.l [])=.ok (.b (decide (c≠[]))):=by cases c<;>rfl
def P8(B:Tbl P W F T)(a:t∈T)(b:c.length<=1000):kA 8 (hP [false,true,false,false,false,false,true,true] (mOp zP (zc 6) (vC (zb (mOp pIx (zc 1) (zc 7)) zk)))) (qS L T home kn l k5 c (some (.v (.s t.1))) y) G=.nx (qS L T home kn l k5 c (some (.v (.s t.1))) (some (.v (.l ((c++[t]).map tP))))) G:=
 yd (XW rfl (zo rfl (we (zq (zo rfl rfl (sf (n:=true) B.nd a).2) rfl) (S5 rfl)) (by rw[T5];exact Nd (by rw[f8,a0g];omega))))
def GV(B:Tbl P W F T)(b:LOk P L F)(e:home∈P)(f:∀x∈c++[t],x∈T)(hp:(c++[t]).Pairwise (Lnk F))(hf:∀x∈c++[t],fb F home l x)(g:c.length<=90)(h:∀p,k5≠some (.v p)):hPT [true,false,true,false,true,false,true,false,true] (cQ (zU (mOp (jG true) (zc 6) (vC zk))) (zU (mOp pLe (zg ym (zb (zc 0) (zb (zc 2) (zb (zc 8) zk)))) (zc 4)))) (qS L T home kn l k5 c (some (.v (.s t.1))) (some (.v (.l ((c++[t]).map tP))))) G=.ok (decide (c≠[])&&decide (ln F home (c++[t])<=l)) G:=by refine b7 (r:=[some (.dt L),none,some (.s home),none,some (.i l),none,some (.l (c.map tP)),none,some (.l ((c++[t]).map tP))]) rfl (gX (zW (zo rfl rfl Ag)) (zW (zo (x:=.i (ln F home (c++[t]))) (y:=.i l) (zw rfl (ia (by rw[R7,a0g];omega) b (λx d=>B.ok x (f x d)) hp e (by simp) λu a=>⟨(hf u a).to,(hf u a).fro⟩)) rfl rfl)))
theorem GW(B:Tbl P W F T)(hL:LOk P L F)(K:Tab P W F T R home)(hf:∀t∈R,fb F home l t)(hk:G[kn]?=some (.l ((nms R).map HV.v))):∀{R1:List Tp}{D:List (List Tp)}{c:List Tp}{x y:Option HV},D.flatten++c++R1=R->c≠[]->(∀d∈D,d≠[])->∃c' x' y',wu kn Zo Zp R1.length (D.flatten++c).length (qS L T home kn l (some (.g `e)) c x y) (AL G ((D++[c]).map nms))=.nx (qS L T home kn l (some (.g `e)) c' x' y') (AL G ((D++grL (ln F home) l c R1).map nms))
 |[],D,c,x,y,e,_,_=>⟨c,x,y,ic (gL hk) (Aa e)⟩
 |t::R1,D,c,x,y,e,hc,hD=>by
  have sub:(c++[t]).Sublist R:=by rw[<- e,a0n,show c++t::R1=c++[t]++R1 by simp];exact((a1n _ _).trans (a1Q _ _))
  have lc:=sub.length_le;have lT:=K.len;rw[R7]at lc;have e8:=P8 (L:=L) (home:=home) (kn:=kn) (l:=l) (k5:=some (.g `e)) (y:=y) (G:=AL G ((D++[c]).map nms)) B (K.sub t (sub.subset (by simp))) (c:=c) `a;have ct:=GV (kn:=kn) (G:=AL G ((D++[c]).map nms)) (k5:=some (.g `e)) B hL K.here (λx hx=>K.sub x (sub.subset hx)) (K.lnk.sublist sub) (λx hx=>hf x (sub.subset hx)) `a (λp=>by simp);rw[S8 hc]at ct;unfold grL;by_cases h:ln F home (c++[t])<=l
  .rw[if_pos h];rw[S8 h]at ct;obtain⟨c',x',y',e'⟩:=GW B hL K hf hk (R1:=R1) (c:=c++[t]) `c (by simp) hD;rw[<- a0n,R7]at e';refine⟨c',x',y',mG (gL hk) (ie e) rfl (zx e8 ((ag ct).trans (zx ?_ (yd (ρ:=qS L T home kn l (some (.g `e)) c (some (.v (.s t.1))) (some (.v (.l ((c++[t]).map tP))))) rfl)))) e'⟩;rw[show(D++[c]).map nms=D.map nms++[nms c] by rw[T5];rfl,show(D++[c++[t]]).map nms=D.map nms++[nms c++[.s t.1]] by rw[T5,a1y,show nms (c++[t])=nms c++[.s t.1]from T5]];exact El rfl rfl `c
  .rw[if_neg h];rw[S7 h]at ct;obtain⟨c',x',y',e'⟩:=GW B hL K hf hk (R1:=R1) (D:=D++[c]) (c:=[t]) `c (by simp) (λd hd=>by
    rcases a0o.mp hd with hd|hd
    .exact hD d hd
    .rw[T9.mp hd];exact hc)
   rw[show((D++[c]).flatten++[t]).length=(D.flatten++c).length+1 by simp;omega]at e';have ld:D.length<=12:=by have:=X2 hD;have e:=a0K List.length e;rw[R7,R7]at e;omega
   have e6:=yd (i:=6) (XW (G:=AL G ((D++[c]++[[t]]).map nms)) (bs:=[false,true,false,false,false,false,false,true]) (ρ:=qS L T home kn l (some (.g `e)) c (some (.v (.s t.1))) (some (.v (.l ((c++[t]).map tP))))) rfl (we (ms:=zb (mOp pIx (zc 1) (zc 7)) zk) (zq (zo rfl rfl (sf (n:=true) B.nd (K.sub t (sub.subset (by simp)))).2) rfl) (S5 rfl)));refine⟨c',x',y',mG (gL hk) (ie e) rfl (zx e8 ((Vy ct).trans (zx ?_ e6))) (e'.trans (by rw[a0n];rfl))⟩;rw[T5 (l₁:=D++[c])];exact pb rfl (GJ rfl (we rfl (S5 rfl)) rfl) (by rw[f8,R7,a0g];omega)
end
def pq(B:Tbl P W F T)(hL:LOk P L F)(K:Tab P W F T R home)(hf:∀t∈R,fb F home l t)(hk:G[kn]?=some (.l ((nms R).map HV.v))):qC [.v (.dt L),.v (.d (vd T)),.v (.s home),.g kn,.v (.i l)] G=.ok (.g `e) (AL G ((ib (ln F home) l R).map nms)):=by
 have ln1:((nms R).map HV.v).length=R.length:=by simp
 have e2:kA 5 (hF [] (vC zk)) [some (.v (.dt L)),some (.v (.d (vd T))),some (.v (.s home)),some (.g kn),some (.v (.i l)),none,none,none,none] G=.nx [some (.v (.dt L)),some (.v (.d (vd T))),some (.v (.s home)),some (.g kn),some (.v (.i l)),some (.g `e),none,none,none] (AL G []):=yd (GJ rfl (we rfl (S5 rfl)) rfl);have e3:kA 6 (hP [] (vC zk)) [some (.v (.dt L)),some (.v (.d (vd T))),some (.v (.s home)),some (.g kn),some (.v (.i l)),some (.g `e),none,none,none] (AL G [])=.nx (qS L T home kn l (some (.g `e)) [] none none) (AL G []):=yd (XW rfl (we rfl (S5 rfl)));obtain⟨c',x',y',e4⟩:∃c' x' y',wu kn Zo Zp R.length 0 (qS L T home kn l (some (.g G.length)) [] none none) (AL G [])=.nx (qS L T home kn l (some (.g G.length)) c' x' y') (AL G ((ib (ln F home) l R).map nms)):=by
  cases e:R with
  |nil=>subst e;exact⟨[],none,none,ic (gL hk) rfl⟩
  |cons t R=>
   subst e;have ht:=K.sub t v4;have e8:=P8 (L:=L) (home:=home) (kn:=kn) (l:=l) (k5:=some (.g `e)) (y:=none) (G:=AL G []) B ht (c:=[]) `b;have ct:hPT [true,false,true,false,true,false,true,false,true] (cQ (zU (mOp (jG true) (zc 6) (vC zk))) (zU (mOp pLe (zg ym (zb (zc 0) (zb (zc 2) (zb (zc 8) zk)))) (zc 4)))) (qS L T home kn l (some (.g `e)) [] (some (.v (.s t.1))) (some (.v (.l ([t].map tP))))) (AL G [])=.ok false (AL G []):=
    b7 rfl (xC (zW (zo rfl rfl (Ag (c:=[])))))
   have e6:=yd (i:=6) (XW (G:=AL G [nms [t]]) (bs:=[false,true,false,false,false,false,false,true]) (ρ:=qS L T home kn l (some (.g `e)) [] (some (.v (.s t.1))) (some (.v (.l ([t].map tP))))) rfl (we (ms:=zb (mOp pIx (zc 1) (zc 7)) zk) (zq (zo rfl rfl (sf (n:=true) B.nd ht).2) rfl) (S5 rfl)));obtain⟨c',x',y',e'⟩:=GW B hL K hf hk (D:=[]) (c:=[t]) rfl (by simp) (λd hd=>(nomatch hd));exact⟨c',x',y',mG (gL hk) (ie (A:=[]) rfl) rfl (zx e8 ((Vy ct).trans (zx (pb rfl (GJ rfl (we rfl (S5 rfl)) rfl) `b) e6))) e'⟩
 exact Wn (zx e2 (zx e3 (zx (X0 rfl (gL hk) (by rw[ln1];exact e4)) rfl)))
def six(h:0<=i):HT.sIx n e (some i)=min i.toNat n:=by show(if i<0 then(i+(n:Int)).toNat else min i.toNat n)=_;rw[if_neg `a]
def Ex{x:PV}(c:LOk P L F)(e:a∈P)(d:b∈P):lX (.t [.s a,.s b]) (.dt L)=.ok (.b (!(zM (F a) (sk b)).isSome)):=by show Out.ok (PV.b (!(zM L [sk a,sk b]).isSome))=_;rw[c a e b d]
def CQ(B:Tbl P W F T)(G:LOk P L F)(I:home∈P)(hp:T.Pairwise (Lnk F)):∃l:Int,jq [.sc ns,.dt L,.s home,.l (T.map tP)]=.ok (.i l):=by
 obtain⟨w,w0,w1,ew⟩:=yj (ns:=ns) (k:=60) (m:=6) `b `b `b;obtain⟨a,a0,a1,ea⟩:=yj (ns:=ns) (k:=61) (m:=10 ^ (8:Int).toNat) `b `b `b;obtain⟨b,b0,b1,eb⟩:=yj (ns:=ns) (k:=62) (m:=2) `b `b `b;obtain⟨z,_,ez⟩:=D9 (xs:=[a,0-a]) b0 b1;have t0:=oG (ρ:=[some (.sc ns),some (.dt L),some (.s home),some (.l (T.map tP)),some (.i w),none,none,none,none]) (a:=zc 4) (x:=w) (n:=0) rfl;have N:=yp (i:=4) (zw (f:=zf) (ms:=zb (zc 0) (zb (mC (.i 60)) (zb (mC (.i 6)) zk))) (ρ:=[some (.sc ns),some (.dt L),some (.s home),some (.l (T.map tP)),none,none,none,none,none]) (xs:=[.sc ns,.i 60,.i 6]) rfl ew);have Z:=zw (f:=zf) (ms:=zb (zc 0) (zb (mC (.i 61)) (zb (mOp p_ (mC (.i 10)) (mC (.i 8))) zk))) (ρ:=[some (.sc ns),some (.dt L),some (.s home),some (.l (T.map tP)),some (.i w),none,none,none,none]) (xs:=[.sc ns,.i 61,.i (10 ^ (8:Int).toNat)]) rfl ea;have er:=Vw (zo (we (zq Z (zq (zo (f:=Wv) (a:=mC (.i 0)) (x:=.i 0) rfl Z rfl) (ms:=zk) rfl)) (S5 rfl)) (zw (f:=zf) (ms:=zb (zc 0) (zb (mC (.i 62)) (zb (mC (.i 2)) zk))) (xs:=[.sc ns,.i 62,.i 2]) rfl eb) ez);by_cases q:T=[]
 .subst q;exact⟨z,zN (ze ⟨_,N,qy ((yn (b8 (zW (zo rfl (we rfl (S5 rfl)) (z:=.b true) rfl)))).trans er)⟩)⟩
 have ef:jG false (.l (T.map tP)) (.l [])=.ok (.b false):=by
  cases T with
  |nil=>exact absurd rfl q
  |cons t R=>rfl
 have D:=λX Y=>yn (a:=X) (b:=Y) (Vx (zW (zo (a:=zc 3) (b:=vC zk) rfl (we rfl (S5 rfl)) ef)) t0);by_cases c0:w=0
 .rw[S8 c0]at D;exact⟨z,zN (ze ⟨_,N,qy ((D _ _).trans er)⟩)⟩
 rw[S7 c0]at D;have lT:=B.len;have lp:=a2r.mpr q;have s:∀{d:Sto},zc 3 d=.ok (.l (T.map tP))->zg vq (zb (zc 3) zk) d=.ok (.i (T.length:Int)):=λh=>zw (zq h rfl) kN;obtain⟨f,f0,f1,J⟩:=yj (ns:=ns) (k:=61) (m:=(T.length:Int)) `b `b `a;obtain⟨h,h0,h1,eh⟩:=yj (ns:=ns) (k:=62) (m:=(T.length:Int)-f) `b `b `a;obtain⟨C,H⟩:∃C,Jl T (some f) (some (f+1+h))=C:=⟨_,rfl⟩;have S:C.Sublist T:=by rw[<- H];unfold Jl;exact(a2D _ _).trans (List.drop_sublist _ _)
 have cn:C≠[]:=λhn=>by have:=a0K List.length (H.trans hn);unfold Jl at this;rw[six `a,six `a,a0x,a0D,a1f]at this;omega
 obtain⟨c,g,rfl⟩:=List.exists_cons_of_ne_nil cn;obtain⟨v,hv,_,ev⟩:=VA (R:=g) (t:=c) (p:=home);have j:=λx hx=>B.ok x (S.subset hx);have hc:=j c v4;have U:=j v hv;have e5:=yp (i:=5) (zw (f:=zf) (ms:=zb (zc 0) (zb (mC (.i 61)) (zb (zg vq (zb (zc 3) zk)) zk))) (ρ:=[some (.sc ns),some (.dt L),some (.s home),some (.l (T.map tP)),some (.i w),none,none,none,none]) (xs:=[.sc ns,.i 61,.i (T.length:Int)]) (zq rfl (zq rfl (zq (s rfl) rfl))) J);have e6:=yp (i:=6) (zo (f:=zP) (a:=mOp zP (zc 5) `f) (ρ:=[some (.sc ns),some (.dt L),some (.s home),some (.l (T.map tP)),some (.i w),some (.i f),none,none,none]) (x:=.i (f+1)) (z:=.i (f+1+h)) rfl (zw (f:=zf) (ms:=zb (zc 0) (zb (mC (.i 62)) (zb (mOp Wv (zg vq (zb (zc 3) zk)) (zc 5)) zk))) (xs:=[.sc ns,.i 62,.i ((T.length:Int)-f)]) (zq rfl (zq rfl (zq (zo (s rfl) rfl rfl) rfl))) eh) rfl);have e7:qJ 7 (mSl pSl (zc 3) (wZ (zc 5)) (wZ (zc 6))) [some (.sc ns),some (.dt L),some (.s home),some (.l (T.map tP)),some (.i w),some (.i f),some (.i (f+1+h)),none,none]=.ok (.nx [some (.sc ns),some (.dt L),some (.s home),some (.l (T.map tP)),some (.i w),some (.i f),some (.i (f+1+h)),some (.l ((c::g).map tP)),none]):=
  yp (show Out.ok (PV.l (Jl (T.map tP) (some f) (some (f+1+h))))=_ by rw[<- H];unfold Jl;rw[a1g,a1u];simp only[List.length_map])
 have O:ye (vC (zb (i9 (zb (zc 2) (zb (mOp pIx (mOp pIx (zc 7) (mC (.i 0))) `f) zk))) (zb (i9 (zb (mOp pIx (mOp pIx (zc 7) (mUn iI `f)) (mC (.i 2))) (zb (zc 2) zk))) zk))) [some (.sc ns),some (.dt L),some (.s home),some (.l (T.map tP)),some (.i w),some (.i f),some (.i (f+1+h)),some (.l ((c::g).map tP)),none]=.ok [.t [.s home,.s c.2.1],.t [.s v.2.2.1,.s home]]:=
  yc (we (zq (gY (zq rfl (zq (zo (z:=.s c.2.1) (zo rfl rfl ix0) rfl rfl) rfl)) (S5 rfl)) (zq (gY (zq (zo (z:=.s v.2.2.1) (zo (x:=.l ((c::g).map tP)) (y:=.i (-1)) (z:=tP v) rfl rfl (ixL (by rw[a2F,ev];rfl))) rfl rfl) (zq rfl rfl)) (S5 rfl)) rfl)) (S5 rfl))
 have A:=λ{o:Sz} X Y=>yn (a:=X) (b:=Y) (ρ:=[some (.sc ns),some (.dt L),some (.s home),some (.l (T.map tP)),some (.i w),some (.i f),some (.i (f+1+h)),some (.l ((c::g).map tP)),some (.t [.s home,.s c.2.1])]) (zW (zo (f:=lX) (a:=zc 8) (b:=zc 1) rfl rfl (Ex (x:=.n) G I hc.org)));have E:=λ{o:Sz} X Y=>yn (a:=X) (b:=Y) (ρ:=[some (.sc ns),some (.dt L),some (.s home),some (.l (T.map tP)),some (.i w),some (.i f),some (.i (f+1+h)),some (.l ((c::g).map tP)),some (.t [.s v.2.2.1,.s home])]) (zW (zo (f:=lX) (a:=zc 8) (b:=zc 1) rfl rfl (Ex (x:=.n) G U.goal I)));have K:=λ{r:PV}(hr:yk (KU (ye (vC (zb (i9 (zb (zc 2) (zb (mOp pIx (mOp pIx (zc 7) (mC (.i 0))) `f) zk))) (zb (i9 (zb (mOp pIx (mOp pIx (zc 7) (mUn iI `f)) (mC (.i 2))) (zb (zc 2) zk))) zk)))) Vg Vh) (vt (mOp Wv (zg ym (zb (zc 1) (zb (zc 2) (zb (zc 7) zk)))) (mOp Jj (zc 4) (mC (.i 2))))) [some (.sc ns),some (.dt L),some (.s home),some (.l (T.map tP)),some (.i w),some (.i f),some (.i (f+1+h)),some (.l ((c::g).map tP)),none]=.ok (.rt r))=>
  (show jq [.sc ns,.dt L,.s home,.l (T.map tP)]=.ok r from zN (ze ⟨_,N,ze ⟨_,(D _ _).trans rfl,ze ⟨_,e5,ze ⟨_,e6,ze ⟨_,e7,hr⟩⟩⟩⟩⟩))
 cases Q:(zM (F home) (sk c.2.1)).isSome with
 |false=>rw[Q]at A;exact⟨10 ^ (9:Int).toNat,K (qy (qz O (eK rfl ((A (o:=none) _ _).trans rfl))))⟩
 |true=>
  rw[Q]at A;cases M:(zM (F v.2.2.1) (sk home)).isSome with
  |false=>rw[M]at E;exact⟨10 ^ (9:Int).toNat,K (qy (qz O ((jU rfl ((A (o:=none) _ _).trans rfl)).trans (eK rfl ((E (o:=none) _ _).trans rfl)))))⟩
  |true=>
   rw[M]at E;have ll:=cg (by have:=S.length_le;omega) G j (hp.sublist S) I Q λu e=>by rw[ev]at e;cases e;exact M
   exact⟨ln F home (c::g)-w % 2,K (ze ⟨_,qz O ((jU rfl ((A (o:=none) _ _).trans rfl)).trans ((jU rfl ((E (o:=none) _ _).trans rfl)).trans rfl)),Vw (zo (zw rfl ll) (xB rfl `b) rfl)⟩)⟩
section
variable {G0 G:AH}{kr k:Nat}{its:List HV}{rows:Sv}{r r':RS}{h:HV}
abbrev vG(r:RS):Cell:=.l ((r.map PV.s).map HV.v)
def It(G0 G:AH)(kr:Nat)(h:HV)(r:RS):Prop:=h=.v (y9 r)\/∃k,h=.g k/\k≠kr/\G0.length<=k/\G[k]?=some (vG r)
structure Lv(G0 G:AH)(kr:Nat)(its:List HV)(rows:Sv):Prop where
 c:G[kr]?=some (.l its)
 len:its.length=rows.length
 it:∀(i:Nat) h r,its[i]?=some h->rows[i]?=some r->It G0 G kr h r
 inj:∀(i j:Nat) k,its[i]?=some (.g k)->its[j]?=some (.g k)->i=j
 fr:∀i,i<G0.length->G[i]?=G0[i]?
 k0:G0.length<=kr
def Lv.res(V:Lv G0 G kr its rows):qx G 8 (.g kr)=some (psV rows):=by
 unfold qx;rw[V.c];show(e9 (qx G 7) its).map PV.l=_;rw[eJ (ys:=rows.map y9) (by rw[V.len,f8]) λi x y hx hy=>by
  rw[a0d]at hy;obtain⟨r,hr,rfl⟩:=v0.mp hy;rcases V.it i x r hx hr with rfl|⟨k,rfl,_,_,e⟩
  .rfl
  .exact QE e]
 rfl
def Lv.wr(V:Lv G0 G kr its rows)(l:its[i]?=some (.g k))(g:k≠kr/\G0.length<=k/\k<`e):Lv G0 (G.set k (vG r')) kr its (rows.set i r'):=by
 refine⟨by rw[T8 g.1];exact V.c,by rw[a0s];exact V.len,λj h r d f=>?_,V.inj,λj d=>by rw[T8 `a];exact V.fr j d,V.k0⟩;by_cases c:i=j
 .subst c;rw[a0j (by have:=(R8.mp l).1;rw[<- V.len];exact this)]at f;cases f;rw[l]at d;cases d;exact .inr ⟨k,rfl,g.1,g.2.1,a0j g.2.2⟩
 .rw[T8 c]at f;rcases V.it j h r d f with rfl|⟨m,rfl,a,b,e⟩
  .exact .inl rfl
  .exact .inr ⟨m,rfl,a,b,by rw[T8 λz=>c (V.inj i j k l (by rw[z];exact d))];exact e⟩
def Lv.lst(V:Lv G0 G kr its rows)(g:its'.length=rows'.length)(h:∀(i:Nat) h r,its'[i]?=some h->rows'[i]?=some r->h=.v (y9 r)\/∃j:Nat,its[j]?=some h/\rows[j]?=some r)(c:∀(i j:Nat) k,its'[i]?=some (.g k)->its'[j]?=some (.g k)->i=j):Lv G0 (G.set kr (.l its')) kr its' rows':=by
 refine⟨a0j (R8.mp V.c).1,g,λi x r d m=>?_,c,λj c=>by rw[T8 (by have:=V.k0;omega)];exact V.fr j c,V.k0⟩;rcases h i x r d m with rfl|⟨j,f,l⟩
 .exact .inl rfl
 .rcases V.it j x r f l with rfl|⟨k,rfl,a,b,e⟩
  .exact .inl rfl
  .exact .inr ⟨k,rfl,a,b,by rw[T8 (Ne.symm a)];exact e⟩
end
def Jh{r:RS}:lH (r.map PV.s)=true:=by
 induction r with
 |nil=>rfl
 |cons a r b=>exact b
def RK(q:qx G0 8 x=some (psV rows))(A:rows.length<=1000):∃g G,kA 2 (sL [false,false,true] (mLC (ye (zc 2)) [none] jP jQ (mLI jR))) [some (.v (.sc ns)),some (.v (.i 100)),some x,none,none,none,none] G0=.nx [some (.v (.sc ns)),some (.v (.i 100)),some (.g (G0.length+rows.length)),none,none,none,none] G/\Lv G0 G (G0.length+rows.length) g rows/\∀(i:Nat) h,g[i]?=some h->∃k,h=.g k/\k≠G0.length+rows.length/\G0.length<=k/\k<G.length:=by
 have z:lcP jP jQ (mLI jR) (rows.map y9) [none] []=.ok (psV rows):=w_ y9 y9 (λp=>∃o,p=[o]) rows _ ⟨none,rfl⟩ (λr _ p ⟨o,e⟩=>by
  subst e;refine⟨_,rfl,⟨_,rfl⟩,?_⟩;show(if lH (r.map PV.s)=true then Out.ok (PV.l (r.map PV.s))else .wall)=_;rw[if_pos Jh]) `a
 have l:((G0++rows.map vG).length:Nat)=G0.length+rows.length:=by rw[R7,f8]
 refine⟨(List.range rows.length).map λj=>.g (G0.length+j),(G0++rows.map vG)++[.l ((List.range rows.length).map λj=>.g (G0.length+j))],yd ?_,⟨?_,by rw[f8,a0v],λi h r c s=>?_,λi j k c f=>?_,λi c=>?_,`d⟩,λi h c=>?_⟩
 .unfold sL;rw[show Yu G0 [false,false,true] [some (.v (.sc ns)),some (.v (.i 100)),some x,none,none,none,none]=some [none,none,some (psV rows),none,none,none,none]from qX (qX (jH q (Y4 (Y4 (Y4 (Y4 d8))))))];dsimp only;rw[show mLC (ye (zc 2)) [none] jP jQ (mLI jR) [none,none,some (psV rows),none,none,none,none]=.ok (psV rows)from Uw (yc rfl) z];show HX.ok (HV.g (G0.length+(rows.map y9).length)) ((G0++(rows.map y9).map wx)++[.l ((List.range (rows.map y9).length).map λj=>.g (G0.length+j))])=_;rw[f8,a0q];rfl
 .rw[<- l,a0B]
 .rw[a0d]at c;obtain⟨j,f,rfl⟩:=v0.mp c;obtain⟨d,e⟩:=R8.mp f;rw[a0P]at e;subst e;rw[a0v]at d;refine .inr ⟨_,rfl,`d,`d,?_⟩;rw[a0a `a,a0b `a,a0M,a0d,s];rfl
 .rw[a0d]at c f;obtain⟨a,v,n⟩:=v0.mp c;obtain⟨b,u,m⟩:=v0.mp f;obtain⟨_,w⟩:=R8.mp v;obtain⟨_,y⟩:=R8.mp u;rw[a0P]at w y;injection n with n;injection m with m
  omega
 .rw[a0a `a,a0a c]
 .rw[a0d]at c;obtain⟨j,f,rfl⟩:=v0.mp c;obtain⟨d,e⟩:=R8.mp f;rw[a0P]at e;subst e;rw[a0v]at d;exact⟨_,rfl,`d,`d,by rw[R7,l,a0g];omega⟩
section
variable {G0 G:AH}{kr:Nat}{its:List HV}{rows:Sv}{ns:Sw}{w a:Int}{o5 o6:Option HV}
abbrev sS(ns:Sw)(kr:Nat)(w a:Int)(o5 o6:Option HV):Jc:=[some (.v (.sc ns)),some (.v (.i 100)),some (.g kr),some (.v (.i w)),some (.v (.i a)),o5,o6]
def Ey:hPT [false,false,false,true] (zU (mOp (jG false) (zc 3) (mC (.i n)))) (sS ns kr w a o5 o6) G=.ok (decide (w=n)) G:=b7 (r:=[none,none,none,some (.i w),none,none,none]) rfl (oG rfl)
def z_(h:w≠n)(b:q (sS ns kr w a o5 o6) G=o):qd (hIf (hPT [false,false,false,true] (zU (mOp (jG false) (zc 3) (mC (.i n))))) A qv) q (sS ns kr w a o5 o6) G=o:=
 zx ((Vy (by rw[Ey,S7 h])).trans rfl) b
def KA(h:w=n)(b:A (sS ns kr w a o5 o6) G=.nx ρ G')(c:q ρ G'=o):qd (hIf (hPT [false,false,false,true] (zU (mOp (jG false) (zc 3) (mC (.i n))))) A qv) q (sS ns kr w a o5 o6) G=o:=
 zx ((ag (by rw[Ey,S8 h])).trans b) c
def Lv.rs(V:Lv G0 G kr its rows):Yu G [false,false,true,false,true] (sS ns kr w a o5 o6)=some [none,none,some (psV rows),none,some (.i a),none,none]:=qX (qX (jH V.res (qX (jH rfl (Y4 (Y4 d8))))))
def GX{n:Nat}:Dq [.i 1,.i (n:Int)]=.ok (.i ((max 1 n:Nat):Int)):=by rw[FK];congr 2;by_cases c:n<=1<;>simp only[Int.max_def,Nat.max_def]<;>split<;>split<;>omega
def RL(V:Lv G0 G kr its rows):∃w a:Int,0<=w/\w<10/\0<=a/\a<((max 1 rows.length:Nat):Int)/\
  kA 3 (hP [true,true] (zg zf (zb (zc 0) (zb (zc 1) (zb (mC (.i 10)) zk))))) [some (.v (.sc ns)),some (.v (.i 100)),some (.g kr),none,none,none,none] G=.nx [some (.v (.sc ns)),some (.v (.i 100)),some (.g kr),some (.v (.i w)),none,none,none] G/\
  kA 4 (hP [true,true,true] (zg zf (zb (zc 0) (zb (mOp zP (zc 1) `f) (zb (zg Dq (zb `f (zb (zg vq (zb (zc 2) zk)) zk))) zk))))) [some (.v (.sc ns)),some (.v (.i 100)),some (.g kr),some (.v (.i w)),none,none,none] G=.nx (sS ns kr w a none none) G:=by
 obtain⟨w,f,d,e⟩:=yj (ns:=ns) (k:=100) (m:=10) `b `b `b;obtain⟨a,g,c,b⟩:=yj (ns:=ns) (k:=101) (m:=((max 1 rows.length:Nat):Int)) `b `b `a;refine⟨w,a,f,d,g,c,yd (XW (r:=[some (.sc ns),some (.i 100),none,none,none,none,none]) rfl (zw (xs:=[.sc ns,.i 100,.i 10]) rfl e)),yd (AW rfl (jH rfl (jH rfl (jH V.res (Y4 (Y4 (Y4 (Y4 d8))))))) (zw (xs:=[.sc ns,.i 101,.i ((max 1 rows.length:Nat):Int)]) (zq rfl (zq (zo rfl rfl rfl) (zq (zw (zq rfl (zq (zw (zq rfl rfl) kN) rfl)) GX) rfl))) b) rfl)⟩
end
def Ah(V:Lv G0 G kr its rows)(i:0<=a):(∃r,rows[a.toNat]?=some r/\r≠[]/\hPT [false,false,true,false,true] (mOr (zU (mOp pGe (zc 4) (zg vq (zb (zc 2) zk)))) (zU (mOp (jG false) (mOp pIx (zc 2) (zc 4)) (vC zk)))) (sS ns kr w a o5 o6) G=.ok false G)\/
  hPT [false,false,true,false,true] (mOr (zU (mOp pGe (zc 4) (zg vq (zb (zc 2) zk)))) (zU (mOp (jG false) (mOp pIx (zc 2) (zc 4)) (vC zk)))) (sS ns kr w a o5 o6) G=.ok true G:=by
 have d:=zW (zo (f:=pGe) (a:=zc 4) (ρ:=[none,none,some (psV rows),none,some (.i a),none,none]) (x:=.i a) rfl (zw (zq (a:=zc 2) rfl (ms:=zk) rfl) kN) (show _=Out.ok (PV.b (decide (a ≥ (rows.length:Int))))from rfl));by_cases c:a ≥ (rows.length:Int)
 .rw[S8 c]at d;exact .inr (Yl rfl V.rs (b8 d))
 .rw[S7 c]at d;obtain⟨r,h⟩:∃r,rows[a.toNat]?=some r:=⟨_,S6 (show a.toNat<rows.length by omega)⟩;have ix:pIx (psV rows) (.i a)=.ok (y9 r):=by obtain⟨j,e⟩:=R8.mp h;rw[xE i (by rw[f8];omega),a1m,e]
  have g:=zW (zo (f:=jG false) (zo (a:=zc 2) (b:=zc 4) (ρ:=[none,none,some (psV rows),none,some (.i a),none,none]) rfl rfl ix) (b:=vC zk) (y:=.l []) rfl (Et (n:=false) (b:=[])));by_cases e:r=[]
  .rw[S8 e]at g;exact .inr (Yl rfl V.rs (Vx d g))
  .rw[S7 e]at g;exact .inl ⟨r,h,e,Yl rfl V.rs (Vx d g)⟩
def Lv.ins(V:Lv G0 G kr its rows):Lv G0 (G.set kr (.l (its.take i++.v (y9 r)::its.drop i))) kr (its.take i++.v (y9 r)::its.drop i) (rows.take i++r::rows.drop i):=by
 have f:(its.take i).length=(rows.take i).length:=by rw[a0x,a0x,V.len]
 refine V.lst (by rw[R7,R7,R4,R4,f,a0D,a0D,V.len]) (λj h x a b=>?_) λw z k s p=>?_
 .rcases a13 j (its.take i).length with c|c|c
  .rw[a0a c]at a;rw[a0a (by rw[<- f];exact c)]at b;rw[a1W]at a b;split at a
   .rename_i d;rw[if_pos d]at b;exact .inr ⟨j,a,b⟩
   .cases a
  .subst c;rw[a0b (S0 _),a0W]at a;rw[f,a0b (S0 _),a0W]at b;cases a;cases b;exact .inl rfl
  .obtain⟨d,rfl⟩:∃d,j=(its.take i).length+(d+1):=⟨j-(its.take i).length-1,`d⟩;rw[a0b `a,a0M,a0h,a1d]at a;rw[f,a0b `a,a0M,a0h,a1d]at b;exact .inr ⟨_,a,b⟩
 .have e:∀{j:Nat},(its.take i++HV.v (y9 r)::its.drop i)[j]?=some (.g k)->∃g,its[g]?=some (.g k)/\((j<(its.take i).length/\g=j/\g<i)\/∃d,j=(its.take i).length+(d+1)/\g=i+d):=λ{j} h=>by
   rcases a13 j (its.take i).length with c|c|c
   .rw[a0a c,a1W]at h;split at h
    .rename_i d;exact⟨j,h,.inl ⟨c,rfl,d⟩⟩
    .cases h
   .subst c;rw[a0b (S0 _),a0W]at h;cases h
   .obtain⟨d,rfl⟩:∃d,j=(its.take i).length+(d+1):=⟨j-(its.take i).length-1,`d⟩;rw[a0b `a,a0M,a0h,a1d]at h;exact⟨i+d,h,.inr ⟨d,rfl,rfl⟩⟩
  obtain⟨o,l,u⟩:=e s;obtain⟨m,n,q⟩:=e p;have:=V.inj o m k l n;rcases u with⟨_,_,_⟩|⟨y,_,_⟩<;>rcases q with⟨_,_,_⟩|⟨v,_,_⟩<;>omega
def Ez(b:m1 ρ G=.ok x G)(a:m2 ρ G=.ok y G)(h:ixH G x y=some z):hIx m1 m2 ρ G=.ok z G:=by unfold hIx;rw[b];show((m2 ρ G).bind _)=_;rw[a];show(match ixH G x y with|some z=>_|none=>_)=_;rw[h]
def Ai(f:mo ρ G=.ok (.g k) G)(e:m1 ρ G=.ok (.v (.i i)) G)(b:G[k]?=some (.l a))(c:0<=i)(d:i<a.length)(g:a.length<=1000):Xf mo m1 ρ G=.nx ρ (G.set k (.l (a.eraseIdx i.toNat))):=by unfold Xf;rw[f];show(match G[k]? with|some (.l _)=>_|_=>_)=_;rw[b];rw[e];show(match(HV.v (.i i)),G[k]? with | .v (.i i),some (.l a)=>_|_,_=>_)=_;rw[b];exact if_pos ⟨c,d,`d⟩
def mK(j:mo ρ G=.ok (.g k) G)(g:m1 ρ G=.ok (.v (.i i)) G)(d:m2 ρ G=.ok y G)(b:G[k]?=some (.l a))(e:0<=i)(f:i.toNat<=a.length)(c:a.length<=1000):n6 mo (zJ m1 (zJ m2 Je)) ρ G=.nx ρ (G.set k (.l (a.take i.toNat++y::a.drop i.toNat))):=by
 unfold n6;rw[j];show(match G[k]? with|some (.l _)=>_|_=>_)=_;rw[b];have h:zJ m1 (zJ m2 Je) ρ G=.ok [.v (.i i),y] G:=by unfold zJ;rw[g];show(HX.bind ((m2 ρ G).bind _) _)=_;rw[d];rfl
 rw[h];show(match G[k]? with|some (.l a)=>_|_=>_)=_;rw[b];exact if_pos ⟨e,f,a1b c `b⟩
def Aj(h:m ρ G=.ok (.g k) G1)(b:G1[k]?=some (.l a)):gm m ρ G=.nx ρ (G1.set k (.l a.reverse)):=by unfold gm;rw[h];show(match G1[k]? with|some (.l a)=>HFw.nx ρ (G1.set k (.l a.reverse))|_=>.wall)=_;rw[b]
section
variable {G0 G:AH}{kr k:Nat}{its:List HV}{rows:Sv}{r:RS}{ns:Sw}{w a s:Int}
theorem Ak{c d:Type}{f:c->d}:∀{b:List c}{n:Nat},(b.map f).eraseIdx n=(b.eraseIdx n).map f
 |[],_=>rfl
 |_::_,0=>rfl
 |x::b,n+1=>by show f x::(b.map f).eraseIdx n=f x::(b.eraseIdx n).map f;rw[Ak]
structure Rw(G0 G:AH)(kr:Nat)(its:List HV)(rows:Sv)(a s:Int)(k:Nat)(r:RS):Prop where
 v:Lv G0 G kr its rows
 it:its[a.toNat]?=some (.g k)
 row:rows[a.toNat]?=some r
 k1:k≠kr/\G0.length<=k/\k<G.length
 c:G[k]?=some (vG r)
 s0:0<=s
 s1:s<r.length
 l:r.length<=900
abbrev zS(ns:Sw)(kr:Nat)(w a:Int)(k:Nat)(s:Int):Jc:=sS ns kr w a (some (.g k)) (some (.v (.i s)))
def z1(R:Rw G0 G kr its rows a s k r):∃c b,Xf (zT 5) (zT 6) (zS ns kr w a k s) G=.nx (zS ns kr w a k s) b/\Lv G0 b kr its (rows.set a.toNat c)/\c.length<=r.length+1:=by refine⟨r.eraseIdx s.toNat,G.set k (vG (r.eraseIdx s.toNat)),?_,R.v.wr R.it R.k1,by rw[a1K];split<;>omega⟩;have:=Ai (mo:=zT 5) (m1:=zT 6) (ρ:=zS ns kr w a k s) rfl rfl R.c R.s0 (by rw[f8,f8];exact R.s1) (by rw[f8,f8];have:=R.l;omega);rw[Ak,Ak]at this;exact this
def z3(R:Rw G0 G kr its rows a s k r):∃c b,gm (zT 5) (zS ns kr w a k s) G=.nx (zS ns kr w a k s) b/\Lv G0 b kr its (rows.set a.toNat c)/\c.length<=r.length+1:=by refine⟨r.reverse,G.set k (vG r.reverse),?_,R.v.wr R.it R.k1,by rw[a2p];omega⟩;have:=Aj (m:=zT 5) (ρ:=zS ns kr w a k s) (G1:=G) rfl R.c;rw[<- a2a,<- a2a]at this;exact this
def z4(R:Rw G0 G kr its rows a s k r):∃c b,n6 (zT 5) (zJ (zT 6) (zJ (hP [true,true] (mOp pIx (vC (zb (mC (.s "none")) (zb (mC (.s "")) (zb (mC (.s "xx")) zk)))) (zg zf (zb (zc 0) (zb (mOp zP (zc 1) (mC (.i 4))) (zb (mC (.i 3)) zk)))))) Je)) (zS ns kr w a k s) G=.nx (zS ns kr w a k s) b/\Lv G0 b kr its (rows.set a.toNat c)/\c.length<=r.length+1:=by obtain⟨d,f,e,g⟩:=yj (ns:=ns) (k:=104) (m:=3) `b `b `b;obtain⟨z,_,h⟩:=Y8 (xs:=(["none","","xx"]:List Str)) f e;have n:=R.s1;have l:=R.s0;have j:=R.l;refine⟨r.take s.toNat++z::r.drop s.toNat,G.set k (vG (r.take s.toNat++z::r.drop s.toNat)),?_,R.v.wr R.it R.k1,by rw[R7,R4,a0x,a0D];omega⟩;have:=mK (mo:=zT 5) (m1:=zT 6) (m2:=hP [true,true] (mOp pIx (vC (zb (mC (.s "none")) (zb (mC (.s "")) (zb (mC (.s "xx")) zk)))) (zg zf (zb (zc 0) (zb (mOp zP (zc 1) (mC (.i 4))) (zb (mC (.i 3)) zk)))))) (ρ:=zS ns kr w a k s) (i:=s) (y:=.v (.s z)) rfl rfl (XW (r:=[some (.sc ns),some (.i 100),none,none,none,none,none]) rfl (zo (we rfl (S5 rfl)) (zw (xs:=[.sc ns,.i 104,.i 3]) rfl g) h)) R.c R.s0 (by rw[f8,f8];omega) (by rw[f8,f8];omega);rw[<- a1g,<- a1g,<- a1u,<- a1u]at this;rw[show vG (r.take s.toNat++z::r.drop s.toNat)=Cell.l ((((r.take s.toNat).map PV.s).map HV.v)++HV.v (.s z)::(((r.drop s.toNat).map PV.s).map HV.v)) by unfold vG;rw[T5,T5];rfl];exact this
end
def Lv.er(V:Lv G0 G kr its rows):Lv G0 (G.set kr (.l (its.eraseIdx n))) kr (its.eraseIdx n) (rows.eraseIdx n):=by
 refine V.lst (by rw[a1K,a1K,V.len]) (λi h r a b=>?_) λi j k a d=>?_
 .rw[a3c]at a b;split at a
  .rename_i c;rw[if_pos c]at b;exact .inr ⟨_,a,b⟩
  .rename_i c;rw[if_neg c]at b;exact .inr ⟨_,a,b⟩
 .rw[a3c]at a d;split at a<;>split at d<;>(have:=V.inj _ _ _ a d;omega)
def z8(V:Lv G0 G kr its rows)(c:0<=a)(b:a<(rows.length:Int))(d:rows.length<=900):Xf (zT 2) (zT 4) (sS ns kr w a o5 o6) G=.nx (sS ns kr w a o5 o6) (G.set kr (.l (its.eraseIdx a.toNat))):=
 Ai rfl rfl V.c c (by rw[V.len];exact b) (by rw[V.len];omega)
def z2(R:Rw G0 G kr its rows a s k r)(H:∀(i:Nat) h,its[i]?=some h->∃k,h=.g k/\k≠kr/\G0.length<=k/\k<`e)(K:rows.length<=900)(C:∀r∈rows,r.length<=900):∃(j:Nat)(p v:RS)(u:AH),sI (hIx (zT 2) (hP [true,true,true] (zg zf (zb (zc 0) (zb (mOp zP (zc 1) (mC (.i 3))) (zb (zg vq (zb (zc 2) zk)) zk)))))) (hP [false,false,false,false,false,true,true] (mOp pIx (zc 5) (zc 6))) (zS ns kr w a k s) G=.nx (zS ns kr w a k s) u/\Lv G0 u kr its (rows.set j v)/\p∈rows/\v.length<=p.length+1:=by
 have q:0<rows.length:=by have:=(R8.mp R.row).1;omega
 obtain⟨d,I,N,E⟩:=yj (ns:=ns) (k:=103) (m:=(rows.length:Int)) `b `b `a;have B:d.toNat<its.length:=by rw[R.v.len];omega
 obtain⟨M,c⟩:∃h,its[d.toNat]?=some h:=⟨_,S6 B⟩;obtain⟨g,rfl,J,A,F⟩:=H _ _ c;obtain⟨b,er⟩:∃r,rows[d.toNat]?=some r:=⟨_,S6 (show d.toNat<rows.length by omega)⟩;have o:G[g]?=some (vG b):=by
  rcases R.v.it _ _ _ c er with z|⟨L,z,_,_,e⟩
  .cases z
  .cases z;exact e
 have l:=a0H er;obtain⟨z,hz⟩:∃z,r[s.toNat]?=some z:=⟨_,S6 (show s.toNat<r.length by have:=R.s0;have:=R.s1;omega)⟩;have ix:pIx (y9 r) (.i s)=.ok (.s z):=by
  have:=ixn hz
  rwa [Int.toNat_of_nonneg R.s0]at this
 refine⟨d.toNat,b,b++[z],G.set g (vG (b++[z])),?_,R.v.wr c ⟨J,A,F⟩,l,by rw[R7];exact S0 _⟩;have D:hIx (zT 2) (hP [true,true,true] (zg zf (zb (zc 0) (zb (mOp zP (zc 1) (mC (.i 3))) (zb (zg vq (zb (zc 2) zk)) zk))))) (zS ns kr w a k s) G=.ok (.g g) G:=by refine Ez (x:=.g kr) (y:=.v (.i d)) rfl (AW rfl (jH rfl (jH rfl (jH R.v.res (Y4 (Y4 (Y4 (Y4 d8))))))) (zw (xs:=[.sc ns,.i 103,.i (rows.length:Int)]) (zq rfl (zq (zo rfl rfl rfl) (zq (zw (zq rfl rfl) (kN (f:=y9) (xs:=rows))) rfl))) E) rfl) ?_;unfold ixH;dsimp only;rw[R.v.c];show atI its d=_;rw[bL I];exact c
 have:=mF (mo:=hIx (zT 2) (hP [true,true,true] (zg zf (zb (zc 0) (zb (mOp zP (zc 1) (mC (.i 3))) (zb (zg vq (zb (zc 2) zk)) zk)))))) (ma:=hP [false,false,false,false,false,true,true] (mOp pIx (zc 5) (zc 6))) (ρ:=zS ns kr w a k s) D o (AW rfl (qX (qX (qX (qX (qX (jH (QE (n:=6) R.c) (jH rfl d8))))))) (zo rfl rfl ix) rfl) o (by rw[f8,f8];have:=C b l;omega);rw[show vG (b++[z])=Cell.l (((b.map PV.s).map HV.v)++[HV.v (.s z)]) by unfold vG;rw[T5,T5];rfl];exact this
def pw(f:mv ρ G=.ok y G1)(d:mo ρ G1=.ok (.g k) G1)(g:mk ρ G1=.ok (.v (.i i)) G1)(e:G1[k]?=some (.l a))(b:0<=i)(c:i<a.length):df mo mk mv ρ G=.nx ρ (G1.set k (.l (a.set i.toNat y))):=by unfold df;rw[f];show((mo ρ G1).fw _)=_;rw[d];show((mk ρ G1).fw _)=_;rw[g];show(match G1[k]? with|some (.l a)=>_|_=>_)=_;rw[e];show(match ixN a.length i with|some t=>HFw.nx ρ (G1.set k (.l (a.set t y)))|none=>_)=_;unfold ixN;rw[if_pos b,if_pos c]
def Ng(h:mo ρ G=.ok (.g k) G)(g:m1 ρ G=.ok (.v (.i i)) G)(d:m2 ρ G=.ok y G1)(b:G[k]?=some (.l a))(l:G1[k]?=some (.l a))(e:0<=i)(f:i.toNat<=a.length)(c:a.length<=1000):n6 mo (zJ m1 (zJ m2 Je)) ρ G=.nx ρ (G1.set k (.l (a.take i.toNat++y::a.drop i.toNat))):=by
 unfold n6;rw[h];show(match G[k]? with|some (.l _)=>_|_=>_)=_;rw[b];have j:zJ m1 (zJ m2 Je) ρ G=.ok [.v (.i i),y] G1:=by unfold zJ;rw[g];show(HX.bind ((m2 ρ G).bind _) _)=_;rw[d];rfl
 rw[j];show(match G1[k]? with|some (.l a)=>_|_=>_)=_;rw[l];exact if_pos ⟨e,f,a1b c `b⟩
section
variable {G0 G:AH}{kr k:Nat}{its:List HV}{rows:Sv}{r r0:RS}{ns:Sw}{w a s:Int}{c:Cell}
def gL'(h:G[k]?=some x):(G++[c])[k]?=some x:=by rw[a0a (R8.mp h).1];exact h
def Lv.gl(V:Lv G0 G kr its rows):G0.length<=G.length:=by have:=V.k0;have:=(R8.mp V.c).1;omega
def Lv.app(V:Lv G0 G kr its rows):Lv G0 (G++[c]) kr its rows:=by
 refine⟨gL' V.c,V.len,λi h r b d=>?_,V.inj,λi b=>by rw[a0a (T7 b V.gl)];exact V.fr i b,V.k0⟩;rcases V.it i h r b d with rfl|⟨k,rfl,x,y,e⟩
 .exact .inl rfl
 .exact .inr ⟨k,rfl,x,y,gL' e⟩
def Lv.lt(V:Lv G0 G kr its rows){i:Nat}(h:its[i]?=some (.g k)):k<G.length:=by
 obtain⟨r,b⟩:∃r,rows[i]?=some r:=⟨_,S6 (by rw[<- V.len];exact(R8.mp h).1)⟩;rcases V.it i _ r h b with z|⟨d,z,_,_,e⟩
 .cases z
 .cases z;exact(R8.mp e).1
def Lv.lg(V:Lv G0 G kr its rows)(p:G[k]?=some (vG r0))(d:k≠kr/\G0.length<=k)(m:its'.length=rows'.length)(h:∀(i:Nat) h r,its'[i]?=some h->rows'[i]?=some r->(h=.g k/\r=r0)\/∃j:Nat,its[j]?=some h/\rows[j]?=some r)(f:∀(i j:Nat) k,its'[i]?=some (.g k)->its'[j]?=some (.g k)->i=j):Lv G0 (G.set kr (.l its')) kr its' rows':=by
 refine⟨a0j (R8.mp V.c).1,m,λi x r g o=>?_,f,λj f=>by rw[T8 (by have:=V.k0;omega)];exact V.fr j f,V.k0⟩;rcases h i x r g o with⟨rfl,rfl⟩|⟨j,l,n⟩
 .exact .inr ⟨k,rfl,d.1,d.2,by rw[T8 (Ne.symm d.1)];exact p⟩
 .rcases V.it j x r l n with rfl|⟨k,rfl,a,b,e⟩
  .exact .inl rfl
  .exact .inr ⟨k,rfl,a,b,by rw[T8 (Ne.symm a)];exact e⟩
def Lv.P9(V:Lv G0 G kr its rows):Lv G0 ((G++[vG r0]).set kr (.l (its.set n (.g `e)))) kr (its.set n (.g `e)) (rows.set n r0):=by
 have q:=(R8.mp V.c).1;refine(V.app).lg a0B ⟨`d,V.gl⟩ (by rw[a0s,a0s,V.len]) (λi h u b e=>?_) λi j k b o=>?_
 .by_cases c:n=i
  .subst c;have d:=by have:=(R8.mp b).1;rwa [a0s]at this
   rw[a0j d]at b;rw[a0j (by rw[<- V.len];exact d)]at e;cases b;cases e;exact .inl ⟨rfl,rfl⟩
  .rw[T8 c]at b e;exact .inr ⟨i,b,e⟩
 .have l:∀{i:Nat},(its.set n (.g `e))[i]?=some (.g k)->(i=n/\k=`e)\/its[i]?=some (.g k)/\k<G.length:=λ{i} h=>by
   by_cases c:n=i
   .subst c;have d:=by have:=(R8.mp h).1;rwa [a0s]at this
    rw[a0j d]at h;cases h;exact .inl ⟨rfl,rfl⟩
   .rw[T8 c]at h;exact .inr ⟨h,V.lt h⟩
  rcases l b with⟨f,m⟩|⟨f,m⟩<;>rcases l o with⟨g,p⟩|⟨g,p⟩
  .omega
  .omega
  .omega
  .exact V.inj i j k f g
def Lv.RM(V:Lv G0 G kr its rows):Lv G0 ((G++[vG r0]).set kr (.l (its.take i++.g `e::its.drop i))) kr (its.take i++.g `e::its.drop i) (rows.take i++r0::rows.drop i):=by
 have A:=(R8.mp V.c).1;have g:(its.take i).length=(rows.take i).length:=by rw[a0x,a0x,V.len]
 refine(V.app).lg a0B ⟨`d,V.gl⟩ (by rw[R7,R7,R4,R4,g,a0D,a0D,V.len]) (λj h D b e=>?_) λC F k y u=>?_
 .rcases a13 j (its.take i).length with c|c|c
  .rw[a0a c]at b;rw[a0a (by rw[<- g];exact c)]at e;rw[a1W]at b e;split at b
   .rename_i d;rw[if_pos d]at e;exact .inr ⟨j,b,e⟩
   .cases b
  .subst c;rw[a0b (S0 _),a0W]at b;rw[g,a0b (S0 _),a0W]at e;cases b;cases e;exact .inl ⟨rfl,rfl⟩
  .obtain⟨d,rfl⟩:∃d,j=(its.take i).length+(d+1):=⟨j-(its.take i).length-1,`d⟩;rw[a0b `a,a0M,a0h,a1d]at b;rw[g,a0b `a,a0M,a0h,a1d]at e;exact .inr ⟨_,b,e⟩
 .have f:∀{j:Nat},(its.take i++HV.g `e::its.drop i)[j]?=some (.g k)->(j=(its.take i).length/\k=`e)\/k<`e/\∃l,its[l]?=some (.g k)/\((j<(its.take i).length/\l=j/\l<i)\/∃d,j=(its.take i).length+(d+1)/\l=i+d):=λ{j} h=>by
   rcases a13 j (its.take i).length with c|c|c
   .rw[a0a c,a1W]at h;split at h
    .rename_i d;exact .inr ⟨V.lt h,j,h,.inl ⟨c,rfl,d⟩⟩
    .cases h
   .subst c;rw[a0b (S0 _),a0W]at h;cases h;exact .inl ⟨rfl,rfl⟩
   .obtain⟨d,rfl⟩:∃d,j=(its.take i).length+(d+1):=⟨j-(its.take i).length-1,`d⟩;rw[a0b `a,a0M,a0h,a1d]at h;exact .inr ⟨V.lt h,i+d,h,.inr ⟨d,rfl,rfl⟩⟩
  rcases f y with⟨m,v⟩|⟨v,q,m,z⟩<;>rcases f u with⟨n,p⟩|⟨p,o,n,x⟩
  .omega
  .omega
  .omega
  .have:=V.inj q o k m n;rcases z with⟨_,_,_⟩|⟨E,_,_⟩<;>rcases x with⟨_,_,_⟩|⟨B,_,_⟩<;>omega
def Rw.RN(R:Rw G0 G kr its rows a s k r):Yu G [false,false,false,false,false,true,true] (zS ns kr w a k s)=some [none,none,none,none,none,some (y9 r),some (.i s)]:=qX (qX (qX (qX (qX (jH (QE (n:=6) R.c) (jH rfl d8))))))
end
def Nh(b:V3 bs ρ=none)(e:Yu G bs ρ=some r)(a:m r=.ok x)(d:OL x=true)(f:uV x=some c):hF bs m ρ G=.ok (.g `e) (G++[c]):=by unfold hF;rw[b,e];dsimp only;rw[a];dsimp only;rw[if_pos d,f]
section
variable {G0 G:AH}{kr k:Nat}{its:List HV}{rows:Sv}{r r0:RS}{ns:Sw}{w a s:Int}{o5 o6:Option HV}
structure Yn(m n:Nat)(rows:Sv):Prop where
 l:rows.length<=m
 r:∀r∈rows,r.length<=n
def Yn.set(h:Yn m n rows)(c:r.length<=n):Yn m n (rows.set i r):=
 ⟨by rw[a0s];exact h.l,λx b=>by
  rcases List.mem_or_eq_of_mem_set b with z|rfl
  .exact h.r x z
  .exact c⟩
def Yn.mono(h:Yn m n rows)(c:m<=m')(b:n<=n'):Yn m' n' rows:=⟨a0l h.l c,λr d=>a0l (h.r r d) b⟩
def Yn.er(h:Yn m n rows):Yn m n (rows.eraseIdx i):=⟨by rw[a1K];have:=h.l;split<;>omega,λr b=>h.r r (List.mem_of_mem_eraseIdx b)⟩
def Yn.ins(h:Yn m n rows)(c:r.length<=n):Yn (m+1) n (rows.take i++r::rows.drop i):=
 ⟨by have:=h.l;rw[R7,R4,a0x,a0D];omega,λx b=>by
  rcases a0o.mp b with z|z
  .exact h.r x (List.mem_of_mem_take z)
  .rcases T6.mp z with rfl|z
   .exact c
   .exact h.r x (List.mem_of_mem_drop z)⟩
def EA{xs:RS}{c b:SQ}:(Jl xs c b).length<=xs.length:=by unfold Jl;rw[a0x,a0D];omega
def z5(R:Rw G0 G kr its rows a s k r)(h:0<a)(f:Yn 60 60 rows):∃d b i,(qd (df (zT 2) (hP [false,false,false,false,true] (mOp Wv (zc 4) `f)) (hF [false,false,true,false,true,true] (mOp lE (mOp pIx (zc 2) (mOp Wv (zc 4) `f)) (zc 5)))) (Xf (zT 2) (zT 4))) (zS ns kr w a k s) G=.nx (zS ns kr w a k s) i/\Lv G0 i kr d b/\Yn 100 200 b:=by
 have x:=(R8.mp R.row).1;obtain⟨c,j⟩:∃c,rows[(a-1).toNat]?=some c:=⟨_,S6 `a⟩;have u:=f.r c (a0H j);have q:=f.r r (a0H R.row);have v:=(R8.mp R.v.c).1;have o:pIx (psV rows) (.i (a-1))=.ok (y9 c):=by rw[BL,bL `a,a0d,j];rfl
 have p:hF [false,false,true,false,true,true] (mOp lE (mOp pIx (zc 2) (mOp Wv (zc 4) `f)) (zc 5)) (zS ns kr w a k s) G=.ok (.g `e) (G++[vG (c++r)]):=by refine Nh rfl (qX (qX (jH R.v.res (qX (jH rfl (jH (QE (n:=6) R.c) (Y4 d8))))))) (zo (zo rfl (zo rfl rfl rfl) o) rfl (show _=Out.ok (y9 (c++r))from ?_)) Jh rfl;unfold lE;dsimp only;rw[if_pos (by rw[f8,f8];exact a0l (by omega:_<=1000) `b),<- T5]
 have g:=R.v.P9 (n:=(a-1).toNat) (r0:=c++r);have l:=pw (mo:=zT 2) (mk:=hP [false,false,false,false,true] (mOp Wv (zc 4) `f)) (ρ:=zS ns kr w a k s) p rfl (XW rfl (zo rfl rfl rfl)) (gL' R.v.c) `a (by rw[R.v.len];omega);have e:Yn 60 120 (rows.set (a-1).toNat (c++r)):=(f.mono (S0 _) `b).set (by rw[R7];omega);have m:=z8 (ns:=ns) (w:=w) (a:=a) (o5:=some (.g k)) (o6:=some (.v (.i s))) g `a (by rw[a0s];omega) (by have:=e.l;omega);exact⟨_,_,_,zx l m,g.er,e.er.mono `b `b⟩
def z6(R:Rw G0 G kr its rows a s k r)(h:0<=a)(l:Yn 60 60 rows):∃d b v,(qd (n6 (zT 2) (zJ (hP [false,false,false,false,true] (mOp zP (zc 4) `f)) (zJ (hF [false,false,false,false,false,true,true] (mSl sG (zc 5) (wZ (zc 6)) iJ)) Je))) (df (zT 2) (zT 4) (hF [false,false,false,false,false,true,true] (mSl sG (zc 5) iJ (wZ (zc 6)))))) (zS ns kr w a k s) G=.nx (zS ns kr w a k s) v/\Lv G0 v kr d b/\Yn 100 200 b:=by
 have D:=(R8.mp R.row).1;have q:=l.r r (a0H R.row);have C:=l.l;have p:∀f g,sG (y9 r) f g=.ok (y9 (Jl r f g)):=λf g=>by show Out.ok (PV.l (Jl (r.map PV.s) f g))=_;unfold Jl;rw[f8,<- a1u,<- a1g]
 have A:hF [false,false,false,false,false,true,true] (mSl sG (zc 5) (wZ (zc 6)) iJ) (zS ns kr w a k s) G=.ok (.g `e) (G++[vG (Jl r (some s) none)]):=
  Nh rfl R.RN (p (some s) none) Jh rfl
 have u:=Ng (mo:=zT 2) (m1:=hP [false,false,false,false,true] (mOp zP (zc 4) `f)) rfl (XW rfl (zo rfl rfl rfl)) A R.v.c (gL' R.v.c) `a (by rw[R.v.len];omega) (by rw[R.v.len];omega);have e:=R.v.RM (i:=(a+1).toNat) (r0:=Jl r (some s) none);have j:Yn 61 60 (rows.take (a+1).toNat++Jl r (some s) none::rows.drop (a+1).toNat):=l.ins (a0l EA q);obtain⟨c,o⟩:∃c,(G++[vG (Jl r (some s) none)]).set kr (.l (its.take (a+1).toNat++.g G.length::its.drop (a+1).toNat))=c:=⟨_,rfl⟩;have z:c[k]?=some (vG r):=by rw[<- o,T8 (Ne.symm R.k1.1)];exact gL' R.c
 rw[o]at u e;have m:hF [false,false,false,false,false,true,true] (mSl sG (zc 5) iJ (wZ (zc 6))) (zS ns kr w a k s) c=.ok (.g c.length) (c++[vG (Jl r none (some s))]):=
  Nh rfl (qX (qX (qX (qX (qX (jH (QE z) (jH rfl d8))))))) (p none (some s)) Jh rfl
 have x:=e.P9 (n:=a.toNat) (r0:=Jl r none (some s));have y:=pw (mo:=zT 2) (mk:=zT 4) m rfl rfl (gL' e.c) h (by rw[e.len,R7,R4,a0x];omega);exact⟨_,_,_,zx u y,x,(j.set (a0l EA q)).mono `b `b⟩
end
def Al:hPT [false,false,false,true,true] (cQ (zU (mOp (jG false) (zc 3) (mC (.i 5)))) (zU (mOp pGt (zc 4) (mC (.i 0))))) (sS ns kr w a o5 o6) G=.ok (decide (w=5)&&decide (a>0)) G:=b7 (r:=[none,none,none,some (.i w),some (.i a),none,none]) rfl (gX (oG rfl) (QD rfl))
def no5(h:¬(w=5/\a>0))(b:q (sS ns kr w a o5 o6) G=o):qd (hIf (hPT [false,false,false,true,true] (cQ (zU (mOp (jG false) (zc 3) (mC (.i 5)))) (zU (mOp pGt (zc 4) (mC (.i 0)))))) A qv) q (sS ns kr w a o5 o6) G=o:=
 zx ((Vy (by rw[Al,<- a25,S7 h])).trans rfl) b
def RO(h:w=5/\a>0)(b:A (sS ns kr w a o5 o6) G=.nx ρ G')(c:q ρ G'=o):qd (hIf (hPT [false,false,false,true,true] (cQ (zU (mOp (jG false) (zc 3) (mC (.i 5)))) (zU (mOp pGt (zc 4) (mC (.i 0)))))) A qv) q (sS ns kr w a o5 o6) G=o:=
 zx ((ag (by rw[Al,<- a25,S8 h])).trans b) c
def GY(R:Rw G0 G kr its rows a s k r)(y:0<=a)(C:∀(i:Nat) h,its[i]?=some h->∃k,h=.g k/\k≠kr/\G0.length<=k/\k<`e)(d:Yn 60 60 rows):∃f b c,(qd (hIf (hPT [false,false,false,true] (zU (mOp (jG false) (zc 3) `f))) (Xf (zT 5) (zT 6)) qv) (qd (hIf (hPT [false,false,false,true] (zU (mOp (jG false) (zc 3) (mC (.i 2))))) (sI (hIx (zT 2) (hP [true,true,true] (zg zf (zb (zc 0) (zb (mOp zP (zc 1) (mC (.i 3))) (zb (zg vq (zb (zc 2) zk)) zk)))))) (hP [false,false,false,false,false,true,true] (mOp pIx (zc 5) (zc 6)))) qv) (qd (hIf (hPT [false,false,false,true] (zU (mOp (jG false) (zc 3) (mC (.i 3))))) (gm (zT 5)) qv) (qd (hIf (hPT [false,false,false,true] (zU (mOp (jG false) (zc 3) (mC (.i 4))))) (n6 (zT 5) (zJ (zT 6) (zJ (hP [true,true] (mOp pIx (vC (zb (mC (.s "none")) (zb (mC (.s "")) (zb (mC (.s "xx")) zk)))) (zg zf (zb (zc 0) (zb (mOp zP (zc 1) (mC (.i 4))) (zb (mC (.i 3)) zk)))))) Je))) qv) (qd (hIf (hPT [false,false,false,true,true] (cQ (zU (mOp (jG false) (zc 3) (mC (.i 5)))) (zU (mOp pGt (zc 4) (mC (.i 0)))))) (qd (df (zT 2) (hP [false,false,false,false,true] (mOp Wv (zc 4) `f)) (hF [false,false,true,false,true,true] (mOp lE (mOp pIx (zc 2) (mOp Wv (zc 4) `f)) (zc 5)))) (Xf (zT 2) (zT 4))) qv) (qd (hIf (hPT [false,false,false,true] (zU (mOp (jG false) (zc 3) (mC (.i 6))))) (qd (n6 (zT 2) (zJ (hP [false,false,false,false,true] (mOp zP (zc 4) `f)) (zJ (hF [false,false,false,false,false,true,true] (mSl sG (zc 5) (wZ (zc 6)) iJ)) Je))) (df (zT 2) (zT 4) (hF [false,false,false,false,false,true,true] (mSl sG (zc 5) iJ (wZ (zc 6)))))) qv) (qd (hIf (hPT [false,false,false,true] (zU (mOp (jG false) (zc 3) (mC (.i 8))))) (Xf (zT 2) (zT 4)) qv) (lL (zT 2))))))))) (zS ns kr w a k s) G=.rt (.g kr) c/\Lv G0 c kr f b/\Yn 100 200 b:=by
 have E:=d.l;have D:=d.r r (a0H R.row);by_cases g:w=1
 .obtain⟨x,c,e,V,l⟩:=z1 R;exact⟨_,_,c,KA g e (z_ `a (z_ `a (z_ `a (no5 `a (z_ `a (z_ `a rfl)))))),V,(d.mono `b `b).set `a⟩
 by_cases o:w=2
 .obtain⟨j,B,x,c,e,V,m,l⟩:=z2 R C `a λr A=>a0l (d.r r A) `b;exact⟨_,_,c,z_ g (KA o e (z_ `a (z_ `a (no5 `a (z_ `a (z_ `a rfl)))))),V,(d.mono `b `b).set (by have:=d.r B m;omega)⟩
 by_cases p:w=3
 .obtain⟨x,c,e,V,l⟩:=z3 R;exact⟨_,_,c,z_ g (z_ o (KA p e (z_ `a (no5 `a (z_ `a (z_ `a rfl)))))),V,(d.mono `b `b).set `a⟩
 by_cases u:w=4
 .obtain⟨x,c,e,V,l⟩:=z4 R;exact⟨_,_,c,z_ g (z_ o (z_ p (KA u e (no5 `a (z_ `a (z_ `a rfl)))))),V,(d.mono `b `b).set `a⟩
 by_cases q:w=5/\a>0
 .obtain⟨f,b,c,e,V,n⟩:=z5 R q.2 d;exact⟨_,_,c,z_ g (z_ o (z_ p (z_ u (RO q e (z_ `a (z_ `a rfl)))))),V,n⟩
 by_cases v:w=6
 .obtain⟨f,b,c,e,V,n⟩:=z6 R y d;exact⟨_,_,c,z_ g (z_ o (z_ p (z_ u (no5 q (KA v e (z_ `a rfl)))))),V,n⟩
 by_cases z:w=8
 .have e:=z8 (ns:=ns) (w:=w) (o5:=some (.g k)) (o6:=some (.v (.i s))) R.v y (by have:=(R8.mp R.row).1;omega) `a;exact⟨_,_,_,z_ g (z_ o (z_ p (z_ u (no5 q (z_ v (KA z e rfl)))))),R.v.er,d.er.mono `b `b⟩
 exact⟨_,_,_,z_ g (z_ o (z_ p (z_ u (no5 q (z_ v (z_ z rfl)))))),R.v,d.mono `b `b⟩
def Am(F:qx G0 8 x=some (psV rows))(f:Yn 60 60 rows):∃k g b,Yh [.v (.sc ns),.v (.i 100),x] G0=.ok (.g k) g/\qx g 8 (.g k)=some (psV b)/\(∀i,i<G0.length->g[i]?=G0[i]?)/\Yn 100 200 b:=by
 have W:=f.l;obtain⟨j,G,p,V,E⟩:=RK (ns:=ns) F `a;obtain⟨w,a,X,R,d,U,v,q⟩:=RL (ns:=ns) V;by_cases u:w=7
 .have O:=mK (mo:=zT 2) (m1:=zT 4) (m2:=hP [] (vC zk)) (ρ:=sS ns (G0.length+rows.length) w a none none) (i:=a) (y:=.v (y9 [])) rfl rfl (hPc λ_=>we rfl (S5 rfl)) V.c d (by rw[V.len];omega) (by rw[V.len];omega);have o:=V.ins (i:=a.toNat) (r:=[]);have P:(rows.take a.toNat++[]::rows.drop a.toNat)[a.toNat]?=some []:=by rw[a0b (by rw[a0x];omega),a0x,show a.toNat-min a.toNat rows.length=0 by omega];rfl
  rcases Ah (ns:=ns) (w:=w) (o5:=none) (o6:=none) o d with⟨r,c,A,_⟩|t
  .rw[P]at c;cases c;exact absurd rfl A
  .exact⟨_,_,_,Wn (zx p (zx v (zx q (KA u O (xD ((ag t).trans (mr rfl))))))),o.res,o.fr,(f.ins (a0A _)).mono `b `b⟩
 .rcases Ah (ns:=ns) (w:=w) (o5:=none) (o6:=none) V d with⟨r,c,A,t⟩|t
  .obtain⟨h,l⟩:∃h,j[a.toNat]?=some h:=⟨_,S6 (by rw[V.len];exact(R8.mp c).1)⟩;obtain⟨k,rfl,J,H,L⟩:=E _ _ l;have C:G[k]?=some (vG r):=by
    rcases V.it _ _ _ l c with z|⟨T,z,_,_,e⟩
    .cases z
    .cases z;exact e
   have Y:=a2r.mpr A;have S:=f.r r (a0H c);obtain⟨s,Q,I,N⟩:=yj (ns:=ns) (k:=102) (m:=(r.length:Int)) `b `b `a;have M:kA 5 (hIx (zT 2) (zT 4)) (sS ns (G0.length+rows.length) w a none none) G=.nx (sS ns (G0.length+rows.length) w a (some (.g k)) none) G:=yd (Ez (x:=.g (G0.length+rows.length)) (y:=.v (.i a)) rfl rfl (by
    unfold ixH;dsimp only;rw[V.c];show atI j a=_;rw[bL d];exact l))
   have K:kA 6 (hP [true,true,false,false,false,true] (zg zf (zb (zc 0) (zb (mOp zP (zc 1) (mC (.i 2))) (zb (zg vq (zb (zc 5) zk)) zk))))) (sS ns (G0.length+rows.length) w a (some (.g k)) none) G=.nx (zS ns (G0.length+rows.length) w a k s) G:=yd (AW rfl (jH rfl (jH rfl (qX (qX (qX (jH (QE (n:=6) C) (Y4 d8))))))) (zw (xs:=[.sc ns,.i 102,.i (r.length:Int)]) (zq rfl (zq (zo rfl rfl rfl) (zq (zw (zq rfl rfl) kN) rfl))) N) rfl);obtain⟨B,b,g,e,D,n⟩:=GY (ns:=ns) (w:=w) ⟨V,l,c,⟨J,H,L⟩,C,Q,I,`d⟩ d E f;exact⟨_,g,b,Wn (zx p (zx v (zx q (z_ u (zx ((Vy t).trans rfl) (zx M (zx K e))))))),D.res,D.fr,n⟩
  .exact⟨_,G,rows,Wn (zx p (zx v (zx q (z_ u (xD ((ag t).trans (mr rfl))))))),V.res,V.fr,f.mono `b `b⟩
def Ext(G G':AH):Prop:=∀i,i<`e->G'[i]?=G[i]?
def Ext.get{G G':AH}{k:Nat}{c:Cell}(h:Ext G G')(e:G[k]?=some c):G'[k]?=some c:=(h k (R8.mp e).1).trans e
def Ext.app:Ext G (G++B):=λi a=>a0a a
def Ext.le(h:Ext G G'):`e<=G'.length:=by refine Nat.le_of_not_lt λc=>?_;have:=h G'.length c;rw[List.getElem?_eq_none (S0 _),S6 c]at this;cases this
def Ext.trans(h:Ext G G1)(b:Ext G1 G2):Ext G G2:=λi a=>(b i (T7 a h.le)).trans (h i a)
theorem au{f g:HV->Option PV}(h:∀x y,f x=some y->g x=some y):∀{b:List HV}{a:Sn},e9 f b=some a->e9 g b=some a
 |[],_,e=>e
 |x::b,a,e=>by unfold e9 at e ⊢;obtain⟨y,c,e⟩:=a0f.mp e;obtain⟨i,d,rfl⟩:=v0.mp e;rw[h _ _ c,au h d];rfl
theorem VC{c:Type}{f g:HV->Option PV}(h:∀x y,f x=some y->g x=some y):∀{b:List (c×HV)}{a:List (c×PV)},lJ f b=some a->lJ g b=some a
 |[],_,e=>e
 |x::b,a,e=>by unfold lJ at e ⊢;obtain⟨y,d,e⟩:=a0f.mp e;obtain⟨j,i,rfl⟩:=v0.mp e;rw[h _ _ d,VC h i];rfl
theorem kJ{G G':AH}(h:Ext G G'):∀{n:Nat}(x:HV)(y:PV),qx G n x=some y->qx G' n x=some y
 |0,x,y,e=>by unfold qx at e;cases e
 |n+1,x,y,e=>by
  cases x with
  |v x=>exact e
  |t f=>unfold qx at e ⊢;obtain⟨b,a,rfl⟩:=v0.mp e;rw[au (kJ h (n:=n)) a];rfl
  |g k=>
   unfold qx at e ⊢;cases i:G[k]? with
   |none=>rw[i]at e;cases e
   |some c=>
    rw[i]at e;rw[h.get i];cases c with
    |l f=>obtain⟨b,a,rfl⟩:=v0.mp e;dsimp only;rw[au (kJ h (n:=n)) a];rfl
    |d f=>obtain⟨b,a,rfl⟩:=v0.mp e;dsimp only;rw[VC (kJ h (n:=n)) a];rfl
    |z f=>obtain⟨b,a,rfl⟩:=v0.mp e;dsimp only;rw[VC (kJ h (n:=n)) a];rfl
    |o q f=>obtain⟨b,a,rfl⟩:=v0.mp e;dsimp only;rw[VC (kJ h (n:=n)) a];rfl
    |w j=>exact e
    |_=>cases e
section
variable {P:RS}{W:List Wy}{F:Str->Ht}{T R:List Tp}{home:Str}{l:Int}{ns:RS}{G G':AH}
structure Tb(P:RS)(W:List Wy)(F:Str->Ht)(T:List Tp)(G:AH)(ns:RS):Prop where
 t0:G[0]?=some (.o 10 [("roads",.v (roP P W F)),("by_name",.g 1),("order",.v (sO T))])
 t1:G[1]?=some (.d (vK (vd T)))
 nm:G[2]?=some (vG ns)
def Tb.ext(E:Tb P W F T G ns)(h:Ext G G'):Tb P W F T G' ns:=⟨h.get E.t0,h.get E.t1,h.get E.nm⟩
def Tb.tab(E:Tb P W F T G ns):qx G 8 (.g 0)=some (tb P W F T):=GF (n:=5) E.t0 E.t1
def Tb.names(E:Tb P W F T G ns):qx G 8 (.g 2)=some (y9 ns):=QE E.nm
def Tb.put(E:Tb P W F T G ns):Tb P W F T (G.set 2 (vG ns')) ns':=
 ⟨by rw[T8 `b];exact E.t0,by rw[T8 `b];exact E.t1,a0j (R8.mp E.nm).1⟩
def px:(R.map (·.1)).map PV.s=nms R:=by rw[a0q];rfl
def CS(nd:(T.map (·.1)).Nodup):Uz [.l (T.map λt=>.t [.s t.1,tP t])]=.ok (.d (vd T)):=by
 have pk:∀{T:List Tp},AS (T.map λt=>.t [.s t.1,tP t])=some (vd T):=λ{T}=>by
  induction T with
  |nil=>rfl
  |cons t T ih=>show(AS (T.map λt=>.t [.s t.1,tP t])).map ((sk t.1,tP t)::·)=_;rw[ih];rfl
 have kn:((vd T).map (·.1)).Nodup:=by unfold vd;rw[a0q];show(List.map (λt:Tp=>sk t.1) T).Nodup;rw[show(λt:Tp=>sk t.1)=sk∘(·.1)from rfl,<- a0q];exact List.Pairwise.map _ (λa b h e=>h (a1j e)) nd
 show ZH ((AS (T.map λt=>.t [.s t.1,tP t])).map λes=>PV.d (Uy es))=_;rw[pk];show Out.ok (PV.d (Uy (vd T)))=_;unfold Uy;rw[oM (by rw[a1w];exact kn)];rfl
def Gud.rf0(g:Gud P F T home l ns R):rfs F home l R=none:=by
 have:∀{a:List Tp},(∀t∈a,t∈R)->rfs F home l a=none:=λ{a}=>by
  induction a with
  |nil=>exact λ_=>rfl
  |cons t a d=>
   intro h;have f:=g.si t (h t v4);have b:rf F home l t=none:=by unfold rf;rw[Zq f.to,Zq f.fro];exact if_pos f.le
   unfold rfs;rw[b];exact d λy c=>h y (R9 _ c)
 exact this λ_ h=>h
def An:Ext G (AL G D):=Ext.app
def Ao:qx (AL G (D.map nms)) 8 (.g `e)=some (psV (nmS D)):=by
 rw[x8,a0q];show some (PV.l (D.map λd=>.l (d.map λt=>.s t.1)))=some (PV.l ((D.map (·.map (·.1))).map y9));rw[a0q];congr 3
 funext d
 show _=y9 (d.map (·.1));rw[show y9 (d.map (·.1))=PV.l ((d.map (·.1)).map .s)from rfl,a0q];rfl
end
def jV(h:m ρ G=.ok x G1)(a:ms ρ G1=.ok xs G2):zJ m ms ρ G=.ok (x::xs) G2:=by unfold zJ;rw[h];show(ms ρ G1).bind _=_;rw[a];rfl
def Ap(h:ms ρ G=.ok xs G1)(a:xs.length<=sizeLine):AU ms ρ G=.ok (.g G1.length) (G1++[.l xs]):=by unfold AU;rw[h];show(if xs.length<=sizeLine then HX.ok (HV.g G1.length) (G1++[.l xs])else .wall)=_;rw[if_pos a]
def X3(h:ms ρ G=.ok xs G1)(a:f xs G1=o):K5 f ms ρ G=o:=by unfold K5;rw[h];exact a
def Ph(b:m1 ρ G=.ok x G1)(a:m2 ρ G1=.ok y G1)(h:ixH G1 x y=some z):hIx m1 m2 ρ G=.ok z G1:=by unfold hIx;rw[b];show((m2 ρ G1).bind _)=_;rw[a];show(match ixH G1 x y with|some z=>_|none=>_)=_;rw[h]
def Ni(h:m1 ρ G=.ok (.v (.b true)) G1)(a:m2 ρ G1=o):rK m1 m2 ρ G=o:=by unfold rK;rw[h];show(if true=true then m2 ρ G1 else HX.ok (.v (.b false)) G1)=o;rw[if_pos rfl];exact a
def Nj(f:m1 ρ G=.ok x G1)(c:m2 ρ G1=.ok y G2)(g:qx G2 8 x=some a)(d:qx G2 8 y=some b)(h:p a b=.ok z)(e:imm z=true):hOp p m1 m2 ρ G=.ok (.v z) G2:=by unfold hOp;rw[f];show((m2 ρ G1).bind _)=_;rw[c];show LZ G2 x y p=_;unfold LZ;rw[g,d];dsimp only;rw[h];exact if_pos e
def lsR:∃G',F4 G (psV rows)=.ok (.g (`e+rows.length)) G'/\Ext G G'/\qx G' 8 (.g (`e+rows.length))=some (psV rows):=by
 have lm:((G++rows.map vG).length:Nat)=`e+rows.length:=by rw[R7,f8]
 refine⟨(G++rows.map vG)++[.l ((List.range rows.length).map λj=>.g (`e+j))],?_,Ext.app.trans Ext.app,?_⟩
 .show HX.ok (HV.g (`e+(rows.map y9).length)) ((G++(rows.map y9).map wx)++[.l ((List.range (rows.map y9).length).map λj=>.g (`e+j))])=_;rw[f8,a0q];rfl
 .unfold qx;rw[<- lm,a0B];show(e9 (qx _ 7) _).map PV.l=_;rw[eJ (ys:=rows.map y9) (by simp) λi x y hx hy=>by
   rw[a0d]at hx hy;obtain⟨j,hj,rfl⟩:=v0.mp hx;obtain⟨r,hr,rfl⟩:=v0.mp hy;obtain⟨hi,e⟩:=R8.mp hj;rw[a0P]at e;subst e;rw[a0v]at hi;exact QE (by rw[a0a `a,a0b `a,a0M,a0d,hr];rfl)]
  rfl
section
variable {P:RS}{W:List Wy}{F:Str->Ht}{T R:List Tp}{home:Str}{l c:Int}{ns:RS}{sc:Sw}{G G':AH}{L:Lst}{x:HV}{ps:Sv}{x11 x12 x13 x14:Option HV}
abbrev lS(sc:Sw)(c:Int)(P:RS)(W:List Wy)(L:Lst)(T:List Tp)(home:Str)(l:Int)(x11 x12 x13 x14:Option HV):Jc:=[some (.v (.sc sc)),some (.v (.i c)),some (.v (.l (P.map .s))),some (.v (.l (W.map wP))),some (.v (.dt L)),some (.v (.l (T.map tP))),some (.g 0),some (.v (.d (vd T))),some (.v (.s home)),some (.g 2),some (.v (.i l)),x11,x12,x13,x14]
theorem Yn.flat{m n:Nat}:∀{ps:Sv},(∀r∈ps,r.length<=n)->ps.flatten.length<=ps.length*n
 |[],_=>a0A _
 |p::ps,h=>by rw[a0u,R7,R4,Nat.succ_mul];have:=Yn.flat (m:=m) (ps:=ps) λr a=>h r (R9 _ a);have:=h p v4;omega
def Yn.fl(h:Yn 100 200 ps):ps.length<=1000/\ps.flatten.length<=100000:=by have a:=h.l;have b:=Yn.flat (m:=0) h.r;have:ps.length*200<=100*200:=Nat.mul_le_mul_right _ a;omega
def ip(B:Tbl P W F T)(a:LOk P L F)(d:ns.length<=12):∃b,yW [.dt L,.l (P.map .s),.d (vd T),.s home,.l (ns.map .s),.i l]=.ok (.b b)/\(b=true->∃R,Gud P F T home l ns R)/\(b=false->¬ ∃R,Gud P F T home l ns R):=by
 by_cases h:∃R,Gud P F T home l ns R
 .exact⟨true,Ac B a `a h.choose_spec,λ_=>h,λe=>by cases e⟩
 .exact⟨false,CO B a `a h,λe=>(by cases e),λ_=>h⟩
def eR(E:Tb P W F T G ns):Yu G [false,false,true,false,true,false,false,true,true,true,true] (lS sc c P W L T home l x11 x12 x13 x14)=some [none,none,some (.l (P.map .s)),none,some (.dt L),none,none,some (.d (vd T)),some (.s home),some (y9 ns),some (.i l),none,none,none,none]:=qX (qX (jH rfl (qX (jH rfl (qX (qX (jH rfl (jH rfl (jH E.names (jH rfl (Y4 (Y4 (Y4 (Y4 d8))))))))))))))
def GZ(E:Tb P W F T G ns):Yu G `h (lS sc c P W L T home l x11 x12 x13 x14)=some [none,none,none,none,none,none,none,none,none,some (y9 ns),none,none,none,none,none]:=qX (qX (qX (qX (qX (qX (qX (qX (qX (jH E.names (Y4 (Y4 (Y4 (Y4 (Y4 d8))))))))))))))
def EB(B:Tbl P W F T)(g:Gud P F T home l ns R)(b:R.length<=12)(a:Yn 100 200 ps):zZ [tb P W F T,.s home,y9 ns,.i l,psV ps]=.ok (.b (decide (ps=nmS (ib (ln F home) l R)))):=Nf B g b a.fl.1 a.fl.2
def EC(B:Tbl P W F T)(e:LOk P L F)(E:Tb P W F T G ns)(a:ns.length<=12)(f:qx G 8 x=some (psV ps))(h:Yn 100 200 ps){b:Bool}(j:b=true->∃R,Gud P F T home l ns R)(i:b=false->¬ ∃R,Gud P F T home l ns R):∃w G',rK (zT 13) (hOp (jG false) (zT 11) (K5 qC (zJ (zT 4) (zJ (zT 7) (zJ (zT 8) (zJ (zT 9) (zJ (zT 10) Je))))))) (lS sc c P W L T home l (some x) x12 (some (.v (.b b))) x14) G=.ok (.v (.b w)) G'/\Ext G G'/\zZ [tb P W F T,.s home,y9 ns,.i l,psV ps]=.ok (.b w):=by
 cases b with
 |false=>exact⟨false,G,rfl,λ_ _=>rfl,Pg (Nb B a (i rfl))⟩
 |true=>
  obtain⟨R,g⟩:=j rfl;have d:R.length<=12:=by rw[g.nms,f8]at a;exact a
  have K:=Gud.tab B g.lc g.here g.sub d;have m:G[2]?=some (.l ((nms R).map HV.v)):=by have:=E.nm;rw[g.nms,vG,px]at this;exact this
  refine⟨decide (ps=nmS (ib (ln F home) l R)),AL G ((ib (ln F home) l R).map nms),?_,An,EB B g d h⟩;exact Ni rfl (Nj rfl (X3 rfl (pq (l:=l) B e K g.si m)) (kJ An _ _ f) Ao (Pf.trans (by rw[a1F])) rfl)
def Aq(E:Tb P W F T G ns)(a:qx G 8 x=some (psV ps)):Yu G [false,false,false,false,false,false,true,false,true,true,true,true,false,false,true] (lS sc c P W L T home l (some x) x12 x13 (some (.v w)))=some [none,none,none,none,none,none,some (tb P W F T),none,some (.s home),some (y9 ns),some (.i l),some (psV ps),none,none,some w]:=qX (qX (qX (qX (qX (qX (jH E.tab (qX (jH rfl (jH E.names (jH rfl (jH a (qX (qX (jH rfl d8))))))))))))))
def CT(E:Tb P W F T G ns)(a:qx G 8 x=some (psV ps)):Yu G [false,false,false,false,false,false,true,false,true,true,true,true] (lS sc c P W L T home l (some x) x12 x13 x14)=some [none,none,none,none,none,none,some (tb P W F T),none,some (.s home),some (y9 ns),some (.i l),some (psV ps),none,none,none]:=qX (qX (qX (qX (qX (qX (jH E.tab (qX (jH rfl (jH E.names (jH rfl (jH a (Y4 (Y4 (Y4 d8))))))))))))))
def Nk(E:Tb P W F T G ns)(a:qx G 8 x=some (psV ps))(d:Yn 100 200 ps)(h:zZ [tb P W F T,.s home,y9 ns,.i l,psV ps]=.ok (.b w)):hIf (hPT [false,false,false,false,false,false,true,false,true,true,true,true,false,false,true] (sF (zU (zg yG (zb (zc 6) (zb (zc 8) (zb (zc 9) (zb (zc 10) (zb (zc 11) (zb (zc 14) zk)))))))))) (lL (hP [] (mC (.b false)))) qv (lS sc c P W L T home l (some x) x12 x13 (some (.v (.b w)))) G=.nx (lS sc c P W L T home l (some x) x12 x13 (some (.v (.b w)))) G:=
 (Vy (Yl rfl (Aq E a) (b6 (zW (zw rfl (mJ h d.fl.1)))))).trans rfl
def G9(E:Tb P W F T G ns)(a:qx G 8 x=some (psV ps))(d:Yn 100 200 ps)(h:zZ [tb P W F T,.s home,y9 ns,.i l,psV ps]=.ok (.b true)):hIf (hPT [false,false,false,false,false,false,true,false,true,true,true,true] (sF (zU (zg yG (zb (zc 6) (zb (zc 8) (zb (zc 9) (zb (zc 10) (zb (zc 11) (zb (mC (.b true)) zk)))))))))) (lL (hP [] (mC (.b false)))) qv (lS sc c P W L T home l (some x) x12 x13 x14) G=.nx (lS sc c P W L T home l (some x) x12 x13 x14) G:=
 (Vy (Yl rfl (CT E a) (b6 (zW (zw rfl (mJ h d.fl.1)))))).trans rfl
def G_(E:Tb P W F T G ns)(a:qx G 8 x=some (psV ps))(b:Yn 100 200 ps)(h:zZ [tb P W F T,.s home,y9 ns,.i l,psV ps]=.ok (.b w)):hP [false,false,false,false,false,false,true,false,true,true,true,true,false,false,true] (zg yG (zb (zc 6) (zb (zc 8) (zb (zc 9) (zb (zc 10) (zb (zc 11) (zb (zc 14) zk))))))) (lS sc c P W L T home l (some x) x12 x13 (some (.v (.b w)))) G=.ok (.v (.b true)) G:=
 AW rfl (Aq E a) (zw rfl (mJ h b.fl.1)) rfl
def pA(g:Gud P F T home l ns R)(i:R.length<=12):Yn 60 60 (nmS (ib (ln F home) l R)):=by have h:=xZ λt b=>(g.si t b).le;have a:=X2 (GR h);rw[o_]at a;refine⟨by rw[f8];omega,λr f=>?_⟩;obtain⟨d,e,rfl⟩:=a0F.mp f;have:=(a1c e).length_le;rw[o_]at this;rw[f8];omega
def Yn.up(h:Yn 60 60 ps):Yn 100 200 ps:=h.mono `b `b
def Nl(B:Tbl P W F T)(E:Tb P W F T G ns)(d:ns.length<=12)(g:Gud P F T home l ns R):∃f G',qd (kA 11 (K5 bY (zJ (zT 6) (zJ (zT 8) (zJ (hF `h (zg qW (zb (zc 9) zk))) (zJ (zT 10) Je))))))
  (hIf (hPT [false,false,false,false,false,false,true,false,true,true,true,true] (sF (zU (zg yG (zb (zc 6) (zb (zc 8) (zb (zc 9) (zb (zc 10) (zb (zc 11) (zb (mC (.b true)) zk)))))))))) (lL (hP [] (mC (.b false)))) qv) (lS sc c P W L T home l x11 x12 x13 x14) G=.nx (lS sc c P W L T home l f x12 x13 x14) G'/\Ext G G':=by
 have a:R.length<=12:=by rw[g.nms,f8]at d;exact d
 have K:=Gud.tab B g.lc g.here g.sub a;have i:GK P W F T R 0 G.length (G++[vG ns]):=⟨λC=>((E.ext Ext.app).ext Ext.app).tab,by
  rw[a0B,g.nms,vG,px]⟩
 have b:=M8 (l:=l) K i;rw[g.rf0]at b;have e:kA 11 (K5 bY (zJ (zT 6) (zJ (zT 8) (zJ (hF `h (zg qW (zb (zc 9) zk))) (zJ (zT 10) Je))))) (lS sc c P W L T home l x11 x12 x13 x14) G=.nx (lS sc c P W L T home l (some (.g (G++[vG ns]).length)) x12 x13 x14) (AL (G++[vG ns]) ((ib (ln F home) l R).map nms)):=
  yd (X3 (jV rfl (jV rfl (jV (Nh (c:=vG ns) rfl (GZ E) (zw (zq rfl rfl) rfl) Jh rfl) rfl))) b)
 have X:Ext G (AL (G++[vG ns]) ((ib (ln F home) l R).map nms)):=Ext.app.trans Ext.app;have N:=(pA g a).up;have h:=EB B g a N;rw[S8 rfl]at h;exact⟨_,_,zx e (G9 (E.ext X) Ao N h),X⟩
def some_at(E:Tb P W F T G ns)(M:ns.length<=12):∃x ps G',kA 11 (hIx (AU (zJ (sL `h (mLC (ye (zc 9)) [none] Vs Vt (mLI Vu))) (zJ (AU (zJ (hF `h (zg qW (zb (zc 9) zk))) Je)) Je))) (hP [true] (zg zf (zb (zc 0) (zb (mC (.i 68)) (zb (mC (.i 2)) zk)))))) (lS sc c P W L T home l x11 x12 x13 x14) G=.nx (lS sc c P W L T home l (some x) x12 x13 x14) G'/\Ext G G'/\qx G' 8 x=some (psV ps)/\Yn 60 60 ps:=by
 obtain⟨d,O,N,D⟩:=yj (ns:=sc) (k:=68) (m:=2) `b `b `b;obtain⟨a,I,s,B⟩:=lsR (G:=G) (rows:=ns.map λn=>[n]);have H:lcP Vs Vt (mLI Vu) (ns.map .s) [none] []=.ok (psV (ns.map λn=>[n])):=by
  refine(w_ PV.s (λn=>PV.l [.s n]) (λC=>∃o,C=[o]) ns _ ⟨none,rfl⟩ (λn _ C ⟨o,e⟩=>by
   subst e;exact⟨_,rfl,⟨_,rfl⟩,rfl⟩) `a).trans ?_
  show _=Out.ok (PV.l ((ns.map λn=>[n]).map y9));rw[a0q];rfl
 have A:sL `h (mLC (ye (zc 9)) [none] Vs Vt (mLI Vu)) (lS sc c P W L T home l x11 x12 x13 x14) G=.ok (.g (`e+(ns.map λn=>[n]).length)) a:=by unfold sL;rw[GZ E];dsimp only;rw[Uw (yc rfl) H];exact I
 have J:=E.ext s;have q:AU (zJ (hF `h (zg qW (zb (zc 9) zk))) Je) (lS sc c P W L T home l x11 x12 x13 x14) a=.ok (.g (a++[vG ns]).length) (a++[vG ns]++[.l [.g a.length]]):=
  Ap (jV (Nh (c:=vG ns) rfl (GZ J) (zw (zq rfl rfl) rfl) Jh rfl) rfl) (S5 rfl)
 obtain⟨b,u⟩:∃b,a++[vG ns]++[.l [.g a.length]]=b:=⟨_,rfl⟩;have w:qx b 8 (.g (a++[vG ns]).length)=some (psV [ns]):=by rw[<- u];unfold qx;rw[a0B];show(e9 (qx _ 7) _).map PV.l=_;unfold e9;rw[QE (n:=5) (xs:=ns.map PV.s) (by rw[a0a (by rw[R7,a0g];omega),a0B])];rfl
 have j:Ext a b:=by rw[<- u];exact Ext.app.trans Ext.app
 rw[u]at q;obtain⟨g,i⟩:∃k,G.length+(ns.map λn=>[n]).length=k:=⟨_,rfl⟩;obtain⟨f,v⟩:∃k,(a++[vG ns]).length=k:=⟨_,rfl⟩;rw[i]at A B;rw[v]at q w;have K:=Ap (xs:=[.g g,.g f]) (jV A (jV (ms:=Je) q rfl)) (S5 rfl);have h:Ext b (b++[.l [.g g,.g f]]):=Ext.app;have ix:∀(z:HV),atI [HV.g g,.g f] d=some z->kA 11 (hIx (AU (zJ (sL `h (mLC (ye (zc 9)) [none] Vs Vt (mLI Vu))) (zJ (AU (zJ (hF `h (zg qW (zb (zc 9) zk))) Je)) Je))) (hP [true] (zg zf (zb (zc 0) (zb (mC (.i 68)) (zb (mC (.i 2)) zk)))))) (lS sc c P W L T home l x11 x12 x13 x14) G=.nx (lS sc c P W L T home l (some z) x12 x13 x14) (b++[.l [.g g,.g f]]):=λz hz=>
  yd (Ph (y:=.v (.i d)) K (XW rfl (zw (xs:=[.sc sc,.i 68,.i 2]) rfl D)) (by
   unfold ixH;dsimp only;rw[a0B];exact hz))
 rcases(by omega:d=0\/d=1)with rfl|rfl
 .exact⟨_,_,_,ix (.g g) rfl,s.trans (j.trans h),kJ (j.trans h) _ _ B,⟨by rw[f8];omega,λr p=>by
   obtain⟨n,_,rfl⟩:=a0F.mp p;exact S5 rfl⟩⟩
 .exact⟨_,_,_,ix (.g f) rfl,s.trans (j.trans h),kJ h _ _ w,⟨S5 rfl,λr p=>by
   rw[T9.mp p];omega⟩⟩
def Nn(B:Tbl P W F T)(j:LOk P L F)(E:Tb P W F T G ns)(f:ns.length<=12)(n:qx G 8 x=some (psV ps))(o:Yn 60 60 ps){b:Bool}(q:b=true->∃R,Gud P F T home l ns R):∃h a G',hIf (hPT [true,false,false,false,false,false,false,false,false,false,false,false,false,true] (cQ (zU (zc 13)) (zU (mOp pGt (zg zf (zb (zc 0) (zb (mC (.i 69)) (zb (mC (.i 3)) zk)))) (mC (.i 0)))))) (kA 11 (K5 qC (zJ (zT 4) (zJ (zT 7) (zJ (zT 8) (zJ (zT 9) (zJ (zT 10) Je))))))) qv (lS sc c P W L T home l (some x) x12 (some (.v (.b b))) x14) G=.nx (lS sc c P W L T home l (some h) x12 (some (.v (.b b))) x14) G'/\Ext G G'/\qx G' 8 h=some (psV a)/\Yn 60 60 a:=by
 obtain⟨d,_,_,p⟩:=yj (k:=69) (m:=3) `b `b `b;have t:hPT [true,false,false,false,false,false,false,false,false,false,false,false,false,true] (cQ (zU (zc 13)) (zU (mOp pGt (zg zf (zb (zc 0) (zb (mC (.i 69)) (zb (mC (.i 3)) zk)))) (mC (.i 0))))) (lS sc c P W L T home l (some x) x12 (some (.v (.b b))) x14) G=.ok (b&&decide (d>0)) G:=
  b7 rfl (gX (zW rfl) (QD (zw rfl p)))
 cases e:b&&decide (d>0)with
 |false=>rw[e]at t;exact⟨x,ps,G,(Vy t).trans rfl,λ_ _=>rfl,n,o⟩
 |true=>
  rw[e]at t;obtain⟨R,g⟩:=q ((a2K _ _).mp e).1;have i:=by rw[g.nms,f8]at f;exact f
  have K:=Gud.tab B g.lc g.here g.sub i;have s:=by have:=E.nm;rw[g.nms,vG,px]at this;exact this
  exact⟨_,_,_,(ag t).trans (yd (X3 rfl (pq B j K g.si s))),An,Ao,pA g i⟩
end
def Ha(f:0<=q)(e:q<=1000):∃b,hPT [true] (zU (mOp (jG false) (zg zf (zb (zc 0) (zb (mC (.i q)) (zb (mC (.i 8)) zk)))) `f)) (lS sc c P W L T home l x11 x12 x13 x14) G=.ok b G:=by obtain⟨d,_,_,a⟩:=yj (ns:=sc) (k:=q) (m:=8) f e `b;exact⟨_,b7 (r:=[some (.sc sc),none,none,none,none,none,none,none,none,none,none,none,none,none,none]) rfl (oG (zw (xs:=[.sc sc,.i q,.i 8]) rfl a))⟩
def Np(E:Tb P W F T G ns):∃a d,hIf (hPT [true] (zU (mOp (jG false) (zg zf (zb (zc 0) (zb (mC (.i 63)) (zb (mC (.i 8)) zk)))) `f))) (gm (zT 9)) qv (lS sc c P W L T home l x11 x12 x13 x14) G=.nx (lS sc c P W L T home l x11 x12 x13 x14) d/\Tb P W F T d a/\a.length=ns.length:=by
 obtain⟨b,t⟩:=Ha (q:=63) (sc:=sc) (c:=c) (P:=P) (W:=W) (L:=L) (T:=T) (home:=home) (l:=l) (x11:=x11) (x12:=x12) (x13:=x13) (x14:=x14) (G:=G) `b `b;cases b with
 |false=>exact⟨ns,G,(Vy t).trans rfl,E,rfl⟩
 |true=>have e:=Aj (m:=zT 9) (ρ:=lS sc c P W L T home l x11 x12 x13 x14) (G1:=G) rfl E.nm;rw[<- a2a,<- a2a]at e;exact⟨ns.reverse,_,(ag t).trans e,E.put,a2p⟩
def Nq(E:Tb P W F T G ns)(j:ns.length<=100):∃a f,hIf (hPT [true] (zU (mOp (jG false) (zg zf (zb (zc 0) (zb (mC (.i 64)) (zb (mC (.i 8)) zk)))) `f))) (n6 (zT 9) (zJ (hP [true,false,false,false,false,false,false,false,false,true] (zg zf (zb (zc 0) (zb (mC (.i 65)) (zb (mOp zP `f (zg vq (zb (zc 9) zk))) zk))))) (zJ (zT 12) Je))) qv (lS sc c P W L T home l x11 (some (.v (.s z))) x13 x14) G=.nx (lS sc c P W L T home l x11 (some (.v (.s z))) x13 x14) f/\Tb P W F T f a/\a.length<=ns.length+1:=by
 obtain⟨b,t⟩:=Ha (q:=64) (sc:=sc) (c:=c) (P:=P) (W:=W) (L:=L) (T:=T) (home:=home) (l:=l) (x11:=x11) (x12:=some (.v (.s z))) (x13:=x13) (x14:=x14) (G:=G) `b `b;cases b with
 |false=>exact⟨ns,G,(Vy t).trans rfl,E,`d⟩
 |true=>
  obtain⟨d,h,n,g⟩:=yj (ns:=sc) (k:=65) (m:=1+(ns.length:Int)) `b `b `a;have i:hP [true,false,false,false,false,false,false,false,false,true] (zg zf (zb (zc 0) (zb (mC (.i 65)) (zb (mOp zP `f (zg vq (zb (zc 9) zk))) zk)))) (lS sc c P W L T home l x11 (some (.v (.s z))) x13 x14) G=.ok (.v (.i d)) G:=
   AW rfl (jH rfl (qX (qX (qX (qX (qX (qX (qX (qX (jH E.names (Y4 (Y4 (Y4 (Y4 (Y4 d8))))))))))))))) (zw (xs:=[.sc sc,.i 65,.i (1+(ns.length:Int))]) (zq rfl (zq rfl (zq (zo rfl (zw (zq rfl rfl) kN) rfl) rfl))) g) rfl
  have e:=mK (mo:=zT 9) (m2:=zT 12) (ρ:=lS sc c P W L T home l x11 (some (.v (.s z))) x13 x14) (y:=.v (.s z)) rfl i rfl E.nm h (by rw[f8,f8];omega) (by rw[f8,f8];omega);rw[<- a1g,<- a1g,<- a1u,<- a1u]at e;refine⟨ns.take d.toNat++z::ns.drop d.toNat,_,(ag t).trans e,?_,by rw[R7,R4,a0x,a0D];omega⟩;rw[show Cell.l ((((ns.take d.toNat).map PV.s).map HV.v)++HV.v (.s z)::(((ns.drop d.toNat).map PV.s).map HV.v))=vG (ns.take d.toNat++z::ns.drop d.toNat) by unfold vG;rw[T5,T5];rfl];exact E.put
def Hb:∃a,hIf (hPT [true] (zU (mOp (jG false) (zg zf (zb (zc 0) (zb (mC (.i 67)) (zb (mC (.i 8)) zk)))) `f))) (kA 8 (zT 12)) qv (lS sc c P W L T home l x11 (some (.v (.s z))) x13 x14) G=.nx (lS sc c P W L T a l x11 (some (.v (.s z))) x13 x14) G:=by
 obtain⟨b,t⟩:=Ha (q:=67) (sc:=sc) (c:=c) (P:=P) (W:=W) (L:=L) (T:=T) (home:=home) (l:=l) (x11:=x11) (x12:=some (.v (.s z))) (x13:=x13) (x14:=x14) (G:=G) `b `b;cases b with
 |false=>exact⟨home,(Vy t).trans rfl⟩
 |true=>exact⟨z,(ag t).trans rfl⟩
def Nr(h:ms ρ G=.ok xs G1)(b:g (.g G1.length::xs) (G1++[.o c []])=.ok (.v .n) a):Mb c g ms ρ G=.ok (.g G1.length) a:=by
 unfold Mb;rw[h];show(match g (.g G1.length::xs) (G1++[.o c []])with
  |.ok (.v .n) a=>HX.ok (HV.g G1.length) a
  |.exc c fs a=>.exc c fs a
  |_=>.wall)=_
 rw[b]
def rok(a:WS P W)(b:P.Nodup)(hP:∀z∈P,Nm z)(d:P.length<=5)(c:W.length<=13):ROk P W:=by constructor<;>first|exact b|exact hP|omega|exact a.ok
def CU(ns:Sw)(_:ns.length<=k):∃G,D8 [.v (.sc ns)] []=.ok (.v (.b true)) G:=by
 obtain⟨x1,x10,i,U⟩:=yj (k:=3) (m:=3) `b `b `b;obtain⟨c,hc,ec⟩:=D9 (xs:=[1,40,100000]) x10 i;have r:1<=c/\c<=100000:=by simp only[List.mem_cons,List.not_mem_nil,or_false]at hc;omega
 obtain⟨x2,O,x21,ex2⟩:=yj (k:=2) (m:=5) `b `b `b;obtain⟨n,hn⟩:=a1r O;subst hn;obtain⟨a,b,ab,ea⟩:=oZ (k:=0) `b `b;obtain⟨a',b',Q,ea'⟩:=oZ (k:=7) `b `b;obtain⟨P,I⟩:∃P:List Str,(List.range (1+n)).map (nmX a b)=P:=⟨_,rfl⟩;have lP:P.length=1+n:=by rw[<- I,f8,a0v]
 have ndP:P.Nodup:=by rw[<- I];exact Eh `a
 have nmP:∀z∈P,Nm z:=λz hz=>by rw[<- I]at hz;obtain⟨k,E,rfl⟩:=a0F.mp hz;exact Eg ab (by have:=a0Z.mp E;omega)
 have s2:lcP ou ow oy (aJ 0 (1+n)) [none,some (.sc ns)] []=.ok (.l (P.map .s)):=by rw[nN,<- I,a0q];exact w_ (λk:Nat=>PV.i (k:Int)) (λk=>PV.s (nmX a b k)) (λq=>∃o,q=[o,some (.sc ns)]) _ _ ⟨none,rfl⟩ (λk E q ⟨o,u⟩=>by subst u;exact⟨_,rfl,⟨_,rfl⟩,zw rfl (ea k (by have:=a0Z.mp E;omega))⟩) (by rw[a0v];omega)
 obtain⟨x3,_,_,Z⟩:=yj (k:=9) (m:=4) `b `b `b;obtain⟨W,lW,p,eW⟩:=CF (N:=P) `a `a r.1 r.2;have R:=rok p ndP nmP `a lW;obtain⟨F,kF⟩:=my R;have w:=λz=>(kF z).1;obtain⟨L,v,eL⟩:=mz p `a `a w;have Y:∀o∈P,∀z y,zM (F o) (sk z)=some y->0<=y/\y<=12000000:=λo u z y e=>by have:=rZ p (w o) u e;omega
 have nn:∀a b,0<=fd F a b:=λa b=>by
  unfold fd;cases e:zM (F a) (sk b)with
  |none=>exact a0R _
  |some y=>exact(w a).1.pos _ _ e
 obtain⟨x4,x40,x41,ex4⟩:=yj (k:=8) (m:=9) `b `b `b;obtain⟨m,hm⟩:=a1r x40;subst hm;obtain⟨T,C,lT,bT,eT⟩:=xV (m:=m) p w v `a Y r.1 r.2 ea' `a;have s:(T.map (·.1)).Nodup:=by rw[C.nms];exact Eh `a
 have nmT:∀z∈T.map (·.1),Nm z:=λz hz=>by rw[C.nms]at hz;obtain⟨k,E,rfl⟩:=a0F.mp hz;exact Eg Q (by have:=a0Z.mp E;omega)
 have i1:=Gw R (λz=>(kF z).2);obtain⟨x6,M,x61,ex6⟩:=yj (k:=18) (m:=(P.length:Int)) `b `b `a;obtain⟨f,hh,eh⟩:=Y8 M x61;have B:Tbl P W F T:=⟨p,w,s,C.ok,λo _=>(w o).1.own,`d⟩;obtain⟨l,el⟩:=CQ B v hh C.lnk;obtain⟨N,eN⟩:∃N:List Str,T.map (·.1)=N:=⟨_,rfl⟩;have lN:N.length<=8:=by rw[<- eN,f8];omega
 have lcb:lcP oz oA oB (T.map tP) [none] []=.ok (.l (T.map λt=>.t [.s t.1,tP t])):=
  w_ tP (λt=>PV.t [.s t.1,tP t]) (λq=>∃o,q=[o]) _ _ ⟨none,rfl⟩ (λt _ q ⟨o,u⟩=>by subst u;exact⟨_,rfl,⟨_,rfl⟩,gY (zq (zo rfl rfl rfl) (zq rfl rfl)) (S5 rfl)⟩) `a
 have lcn:lcP oC oE oF (T.map tP) [none] []=.ok (y9 N):=by rw[<- eN,y9,px];exact w_ tP (λt=>PV.s t.1) (λq=>∃o,q=[o]) _ _ ⟨none,rfl⟩ (λt _ q ⟨o,u⟩=>by subst u;exact⟨_,rfl,⟨_,rfl⟩,zo rfl rfl rfl⟩) `a
 have E0:Tb P W F T (Hu [] (roP P W F) T++[vG N]) N:=⟨rfl,rfl,rfl⟩;obtain⟨i,G1,e11,E1⟩:∃i J,hIf (hPT [false,false,true,false,true,false,false,true,true,true,true] (zU (zg yW (zb (zc 4) (zb (zc 2) (zb (zc 7) (zb (zc 8) (zb (zc 9) (zb (zc 10) zk))))))))) (qd (kA 11 (K5 bY (zJ (zT 6) (zJ (zT 8) (zJ (hF `h (zg qW (zb (zc 9) zk))) (zJ (zT 10) Je))))))
   (hIf (hPT [false,false,false,false,false,false,true,false,true,true,true,true] (sF (zU (zg yG (zb (zc 6) (zb (zc 8) (zb (zc 9) (zb (zc 10) (zb (zc 11) (zb (mC (.b true)) zk)))))))))) (lL (hP [] (mC (.b false)))) qv)) qv (lS ns c P W L T f l none none none none) (Hu [] (roP P W F) T++[vG N])=.nx (lS ns c P W L T f l i none none none) J/\Tb P W F T J N:=by
  obtain⟨b,K,D,_⟩:=ip (ns:=N) B v `a;cases b with
  |false=>exact⟨none,_,(Vy (Yl rfl (eR E0) (zW (zw rfl K)))).trans rfl,E0⟩
  |true=>obtain⟨R,g⟩:=D rfl;obtain⟨x',J,e,X⟩:=Nl B E0 `a g;exact⟨x',J,(ag (Yl rfl (eR E0) (zW (zw rfl K)))).trans e,E0.ext X⟩
 obtain⟨N2,G2,e12,E2,l2⟩:=Np E1;obtain⟨d3,S,d31,ed3⟩:=yj (k:=66) (m:=3) `b `b `b;obtain⟨z,_,ez⟩:=Y8 (xs:=(["none","","xx"]:List Str)) S d31;obtain⟨N3,G3,e14,E3,l3⟩:=Nq E2 `a;obtain⟨j,e15⟩:=Hb;have H:N3.length<=12:=`d
 obtain⟨b,K,D,h0⟩:=ip B v H;obtain⟨y,ps,G4,e17,X4,r4,n4⟩:=some_at E3 H;have E4:=E3.ext X4;obtain⟨y5,ps5,G5,e18,X5,r5,n5⟩:=Nn B v E4 H r4 n4 D;have E5:=E4.ext X5;obtain⟨w6,G6,e19,X6,q6⟩:=EC B v E5 H r5 n5.up D h0;have E6:=E5.ext X6;have r6:=kJ X6 _ _ r5;obtain⟨k7,G7,ps7,e21,r7,X7,n7⟩:=Am r6 n5;have E7:=E6.ext X7;obtain⟨w8,G8,e22,X8,q8⟩:=EC B v E7 H r7 n7 D h0;have g5:∀{q:Sto},zc 2 q=.ok (.l (P.map .s))->zg vq (zb (zc 2) zk) q=.ok (.i (P.length:Int)):=λh=>zw (zq h rfl) kN;exact⟨G8,Wn (zx (yd (XW rfl (zo (we rfl (S5 rfl)) (zw rfl U) ec)))
  (zx (yd (XW rfl (Uw (lG (zq (zo rfl (zw rfl ex2) rfl) rfl) `a `a) (by rw[show(1+(n:Int)).toNat=1+n by omega];exact s2))))
  (zx (yd (XW rfl (zw (zq rfl (zq rfl (zq rfl (zq (zo (zw rfl Z) rfl rfl) rfl)))) eW)))
  (zx (yd (XW rfl (zw rfl eL)))
  (zx (yd (XW rfl (zw (zq rfl (zq rfl (zq rfl (zq rfl (zq (zw rfl ex4) rfl))))) eT)))
  (zx (yd (Nr (jV (XW rfl (zw rfl i1)) (jV (XW rfl (zw (zq rfl rfl) rfl)) rfl)) (CD (λt ht=>⟨C.ok t ht,nmT _ (a1q ht)⟩) s `a)))
  (zx (yd (XW rfl (zw (zq (Uw (yc rfl) lcb) rfl) (CS s))))
  (zx (yd (XW rfl (zo rfl (zw (zq rfl (zq rfl (zq (g5 rfl) rfl))) ex6) eh)))
  (zx (yd (GJ rfl (Uw (yc rfl) lcn) rfl))
  (zx (yd (XW rfl (zw rfl el)))
  (zx e11 (zx e12
  (zx (yd (XW rfl (zo (we rfl (S5 rfl)) (zw rfl ed3) ez)))
  (zx e14 (zx e15
  (zx (yd (AW rfl (eR E3) (zw rfl K) rfl))
  (zx e17 (zx e18 (zx (yd e19) (zx (Nk E6 r6 n5.up q6)
  (zx (yd (X3 (jV rfl (jV (hPc λ_=>rfl) (jV rfl rfl))) e21))
  (zx (yd e22) (mr (G_ (E7.ext X8) (kJ X8 _ _ r7) n7 q8))))))))))))))))))))))))⟩
end NCS
def Ar(K:SD):Sp:=λc H Q _=>∃(a:Addr)(b:Sw),c=[.ref a]/\SqL K H a (b.map V.int)/\b.length<=63/\∀d,Q (.bl true) d
def all_mk{l:W.OpenLaw}{w:So}{K:SD}{h:Heap}{y:RU}{fa b j r x o u g n q i d c f m W4 W2 Q4 W3 VP F JT U YQ ZE vo J QY C Y wU O N S Ka wW A J9 VW VU JS M D Q5 AB cB R Y0 z VN VS QW YO vk Q1 JN pC QS W7 YV JW YN B Av VX mO:Addr}{W5 WZ Q2 W9 V0 YY JP YX YW JZ vn YM Q3 YS wR wX ZT JO YU JV wV JQ Kc VY VQ J6 QX JM Q6 AA cC ZV YR QR VL VZ Q7 YJ YK QQ J7 pD QT W6 YL JY YT J_ Aw VR Z:Sq}{iz Kb YI JR pE cA pF iB cD iC QZ VT:Tok}(X:K.In h)(G:h.Ns mainGlobals y)(P:y "law"=some (.ref fa))
  (lZ:W.nsIn K mainGlobals "LIMIT"=some (some (.int 1000000000 iz)))
  (Qq:W.nsIn K mainGlobals "NAME_SIGNS"=some (some (.str "abcdefghijklmnopqrstuvwxyz0123456789" Kb)))
  (Zl:W.nsIn K mainGlobals "LONGEST_NAME"=some (some (.int 12 YI)))
  (Qr:W.nsIn K mainGlobals "MOST_TRIPS"=some (some (.int 40 JR)))
  (Wx:W.nsIn K mainGlobals "NAME"=some (some (.int 0 pE)))
  (Ye:W.nsIn K mainGlobals "ORIGIN"=some (some (.int 1 cA)))
  (UM:W.nsIn K mainGlobals "GOAL"=some (some (.int 2 pF)))
  (Qs:W.nsIn K mainGlobals "START"=some (some (.int 3 iB)))
  (wH:W.nsIn K mainGlobals "FINISH"=some (some (.int 4 cD)))
  (l0:W.nsIn K mainGlobals "SEATS"=some (some (.int 5 iC)))
  (Yf:W.nsIn K mainGlobals "MOST_PLACES"=some (some (.int 12 QZ)))
  (Kv:W.nsIn K mainGlobals "MOST_WAYS"=some (some (.int 60 VT)))
  (Qt:NsR K "FleetError" b)
  (Vb:NsR K "BadName" j)
  (Kw:NsR K "BadNumber" r)
  (UN:NsR K "TooMany" x)
  (l6:NsR K "Twice" o)
  (UO:NsR K "NoPlace" u)
  (dC:NsR K "NoWay" g)
  (dD:NsR K "NoTrip" n)
  (Wg:NsR K "Backward" q)
  (UP:NsR K "TooFast" i)
  (l7:NsR K "Table" d)
  (l8:NsR K "Roads" c)
  (Wh:NsR K "Unlinked" f)
  (UQ:NsR K "TooLong" m)
  (Gk:NsN K "all")
  (Gm:NsN K "any")
  (xn:NsN K "bool")
  (og:NsN K "dict")
  (Qu:NsN K "isinstance")
  (vS:NsN K "len")
  (ZR:NsN K "list")
  (Ck:NsN K "max")
  (Qv:NsN K "range")
  (dE:NsN K "sorted")
  (Cm:NsN K "zip")
  (zp:DfN K "_law_draw" V_ W4 W5)
  (vD:DfN K "_law_ways" Wa W2 WZ)
  (qN:DfN K "_law_lengths" Z7 Q4 Q2)
  (ZS:DfN K "_law_name" Wb W3 W9)
  (j9:DfN K "_law_trips" Kl VP V0)
  (sr:XMk K x F)
  (JL:Fun K "__init__" "TooMany.__init__" Za F YY)
  (jw:DfN K "check_most" Qe JT JP)
  (sA:XMk K j U)
  (JU:Fun K "__init__" "BadName.__init__" Zb U YX)
  (kC:DfN K "checked_name" Zc YQ YW)
  (C0:XMk K o ZE)
  (W0:Fun K "__init__" "Twice.__init__" Qf ZE JZ)
  (yO:DfN K "checked_new_name" jK vo vn)
  (sC:XMk K u J)
  (J8:Fun K "__init__" "NoPlace.__init__" Zd J YM)
  (yP:DfN K "check_place" Z8 QY Q3)
  (bw:W.findIn K (.ref c) "length"=some (some (.ref C)))
  (L:Fun K "length" "Roads.length" Ze C YS)
  (iG:XMk K r Y)
  (YZ:Fun K "__init__" "BadNumber.__init__" kY Y wR)
  (yz:DfN K "checked_number" kZ wU wX)
  (mW:XMk K q O)
  (QU:Fun K "__init__" "Backward.__init__" vO O ZT)
  (CZ:XMk K g N)
  (W8:Fun K "__init__" "NoWay.__init__" Qg N JO)
  (sv:XMk K i S)
  (JX:Fun K "__init__" "TooFast.__init__" Zf S YU)
  (wI:DfN K "check_trip" Qh Ka JV)
  (qj:DfN K "place_in_order" k8 wW wV)
  (iD:W.findIn K (.ref d) "__init__"=some (some (.ref A)))
  (WY:Fun K "__init__" "Table.__init__" Qi A JQ)
  (jx:DfN K "_law_length" Qj J9 Kc)
  (Yg:DfN K "_law_limit" Km VW VY)
  (vT:DfN K "_law_right" Kn VU VQ)
  (jA:DfN K "_law_spoilt" Qk JS J6)
  (AE:XMk K n M)
  (VM:Fun K "__init__" "NoTrip.__init__" Z9 M QX)
  (iE:W.findIn K (.ref d) "trip"=some (some (.ref D)))
  (I:Fun K "trip" "Table.trip" Ql D JM)
  (vw:DfN K "check_trips" Z_ Q5 Q6)
  (Cn:DfN K "gap" Gh AB AA)
  (XU:DfN K "linked" dv cB cC)
  (mR:XMk K f R)
  (QV:Fun K "__init__" "Unlinked.__init__" vP R ZV)
  (kD:DfN K "check_linked" Zg Y0 YR)
  (eX:W.findIn K (.ref c) "names"=some (some (.ref z)))
  (Ys:Fun K "names" "Roads.names" Ya z QR)
  (j_:DfN K "check_row" Ko VN VL)
  (vU:DfN K "check_way" Kp VS VZ)
  (vx:DfN K "check_block" Yb QW Q7)
  (yU:DfN K "block_length" Zh YO YJ)
  (sx:XMk K m vk)
  (J3:Fun K "__init__" "TooLong.__init__" Zi vk YK)
  (jM:DfN K "check_short" Yc Q1 QQ)
  (wJ:DfN K "can_be_cut" Qm JN J7)
  (bS:DfN K "flat" xm pC pD)
  (vy:DfN K "pieces_hold" Yd QS QT)
  (vE:DfN K "_law_true" Wc W7 W6)
  (kE:DfN K "check_places" Zj YV YL)
  (wK:DfN K "check_ways" Qn JW JY)
  (qo:DfN K "heights_from" Zk YN YT)
  (iu:W.findIn K (.ref c) "__init__"=some (some (.ref B)))
  (W_:Fun K "__init__" "Roads.__init__" Qo B J_)
  (rL:DfN K "cut" Gi Av Aw)
  (yA:DfN K "_law_parts" Kq VX VR)
  (xo:DfN K "law" Gj mO Z)
  (mP:Y5 K j)
  (mZ:Catch K j b true)
  (Xu:W.takerIn K j "name"=some none)
  (eU:Y5 K r)
  (eV:Catch K r b true)
  (KG:W.takerIn K r "value"=some none)
  (mM:Y5 K x)
  (mN:Catch K x b true)
  (Xx:W.takerIn K x "most"=some none)
  (AJ:Y5 K o)
  (AG:Catch K o b true)
  (bB:W.takerIn K o "name"=some none)
  (mV:Y5 K u)
  (mQ:Catch K u b true)
  (Xy:W.takerIn K u "name"=some none)
  (AI:Y5 K g)
  (AD:Catch K g b true)
  (XA:W.takerIn K g "origin"=some none)
  (br:W.takerIn K g "goal"=some none)
  (sj:Y5 K n)
  (so:Catch K n b true)
  (aH:W.takerIn K n "name"=some none)
  (iy:Y5 K q)
  (iA:Catch K q b true)
  (Wq:W.takerIn K q "name"=some none)
  (mT:Y5 K i)
  (mS:Catch K i b true)
  (Xz:W.takerIn K i "name"=some none)
  (iw:Y5 K f)
  (iF:Catch K f b true)
  (VO:W.takerIn K f "first"=some none)
  (KD:W.takerIn K f "second"=some none)
  (mU:Y5 K m)
  (mY:Catch K m b true)
  (Xv:W.takerIn K m "name"=some none)
  (Az:Cls K d)
  (Ax:W.makesIn K d=true)
  (Ay:W.keepIn K (.ref d)=true)
  (Wr:W.findIn K (.ref d) "by_name"=some none)
  (aG:W.findIn K (.ref d) "order"=some none)
  (aF:W.findIn K (.ref d) "roads"=some none)
  (bz:W.isFn K (.ref D)=true)
  (bA:W.isFn K (.ref A)=true)
  (AF:Cls K c)
  (As:W.makesIn K c=true)
  (Au:W.keepIn K (.ref c)=true)
  (Wo:W.findIn K (.ref c) "lengths"=some none)
  (XB:W.findIn K (.ref c) "places"=some none)
  (bx:W.findIn K (.ref c) "ways"=some none)
  (Xw:W.isFn K (.ref C)=true)
  (aE:W.isFn K (.ref z)=true)
  (bu:W.isFn K (.ref B)=true)
  (Qw:W.kitOne K (.type "bool") (.type "bool")=some true)
  (Kx:W.kitOne K (.type "int") (.type "bool")=some false)
  : ∃fd:FuncData,(∀(s:RZ)(v:Value),BindsTo s fd ⟨[v],[]⟩ [("_law_script",v)])/\∀a:Heap,K.In a->a.Ns mainGlobals y->y_ l.prog w K y a (CXe l.prog w) 15 fa fd ["_law_script"] (Ar K):=by
 have e:mO=fa:=by have e:=P.symm.trans (a0J X G xo.1);injection e with e;injection e with e;exact e.symm
 subst e;have T:Txt K y ⟨b,j,r,x,o,u,g,n,q,i,d,c,f,m,W4,W2,Q4,W3,VP,F,JT,U,YQ,ZE,vo,J,QY,C,Y,wU,O,N,S,Ka,wW,A,J9,VW,VU,JS,M,D,Q5,AB,cB,R,Y0,z,VN,VS,QW,YO,vk,Q1,JN,pC,QS,W7,YV,JW,YN,B,Av,VX,mO,W5,WZ,Q2,W9,V0,YY,JP,YX,YW,JZ,vn,YM,Q3,YS,wR,wX,ZT,JO,YU,JV,wV,JQ,Kc,VY,VQ,J6,QX,JM,Q6,AA,cC,ZV,YR,QR,VL,VZ,Q7,YJ,YK,QQ,J7,pD,QT,W6,YL,JY,YT,J_,Aw,VR,Z,iz,Kb,YI,JR,pE,cA,pF,iB,cD,iC,QZ,VT⟩:=⟨⟨a0J X G lZ,a0J X G Qq,a0J X G Zl,a0J X G Qr,a0J X G Wx,a0J X G Ye,a0J X G UM,a0J X G Qs⟩,⟨a0J X G wH,a0J X G l0,a0J X G Yf,a0J X G Kv,a0J X G Qt,a0J X G Vb,a0J X G Kw,a0J X G UN⟩,⟨a0J X G l6,a0J X G UO,a0J X G dC,a0J X G dD,a0J X G Wg,a0J X G UP,a0J X G l7,a0J X G l8⟩,⟨a0J X G Wh,a0J X G UQ,a02 X G Gk,a02 X G Gm,a02 X G xn,a02 X G og,a02 X G Qu,a02 X G vS⟩,⟨a02 X G ZR,a02 X G Ck,a02 X G Qv,a02 X G dE,a02 X G Cm,yw X G zp bn3,yw X G vD bn4,yw X G qN bn2⟩,⟨yw X G ZS bn3,yw X G j9 bn5,JL,JL.binds bn2,yw X G jw bn2,JU,JU.binds bn2,yw X G kC bn1⟩,⟨W0,W0.binds bn2,yw X G yO bn2,J8,J8.binds bn2,yw X G yP bn2,L,L.binds bn3⟩,⟨YZ,YZ.binds bn2,yw X G yz bn2,QU,QU.binds bn2,W8,W8.binds bn3,JX⟩,⟨JX.binds bn2,yw X G wI bn3,yw X G qj bn1,WY,WY.binds bn3,yw X G jx bn3,yw X G Yg bn4,yw X G vT bn6⟩,⟨yw X G jA bn3,VM,VM.binds bn2,I,I.binds bn2,yw X G vw bn2,yw X G Cn bn3,yw X G XU bn3⟩,⟨QV,QV.binds bn3,yw X G kD bn2,Ys,Ys.binds bn1,yw X G j_ bn3,yw X G vU bn3,yw X G vx bn3⟩,⟨yw X G yU bn3,J3,J3.binds bn2,yw X G jM bn4,yw X G wJ bn4,yw X G bS bn1,yw X G vy bn5,yw X G vE bn6⟩,⟨yw X G kE bn1,yw X G wK bn2,yw X G qo bn2,W_,W_.binds bn3,yw X G rL bn4,yw X G yA bn5,yw X G xo bn1⟩,⟨mP,sA,mZ,Xu,eU,iG,eV,KG⟩,⟨mM,sr,mN,Xx,AJ,C0,AG,bB⟩,⟨mV,sC,mQ,Xy,AI,CZ,AD,XA⟩,⟨br,sj,AE,so,aH,iy,mW,iA⟩,⟨Wq,mT,sv,mS,Xz,iw,mR,iF⟩,⟨VO,KD,mU,sx,mY,Xv,Az,Wr⟩,⟨aG,aF,⟨iE,bz,I.kp⟩,⟨Ax,iD,bA,Ay⟩,AF,Wo,XB,bx⟩,⟨⟨bw,Xw,L.kp⟩,⟨eX,aE,Ys.kp⟩,⟨As,iu,bu,Au⟩,Qw,Kx⟩⟩;have eb:∀(s:RZ)(v:Value),BindsTo s Z ⟨[v],[]⟩ [("_law_script",v)]:=by obtain⟨_,_,_,_,_,_,_,_,_,rfl,_,_⟩:=xo.2.ex;exact λs v=>.of_eq rfl
 refine⟨_,eb,λa _ _=>(MD T).imp λvs H Q E ⟨p,ns,e,hS,hl,k⟩=>?_⟩;subst e;exact FX hS (CU ns hl) k
def walk{l:W.OpenLaw}{q:Sl}{c:RS}{j:(Str->Option Value)->Heap->Prop}{i:World->Heap->Prop}{d:DefRec}{K:Params->W.Frag}(r:l.most=some 63)(g:d.params.defaults=[])
  (y:∀(w:So)(h:Heap),i w h->(K w.params).In h)
  (F:∀(w:So)(e:RU)(fa:Addr)(h:Heap),(K w.params).In h->h.Ns mainGlobals e->e d.name=some (.ref fa)->
   ∃fd:FuncData,(∀(s:RZ)(u:Value),BindsTo s fd ⟨[u],[]⟩ [("_law_script",u)])/\∀b:Heap,(K w.params).In b->b.Ns mainGlobals e->y_ l.prog w (K w.params) e b (CXe l.prog w) 15 fa fd ["_law_script"] (Ar (K w.params))):
  W.WalkO q c j i l.row.toRowW d [] (λf p=>PySem.call f p):=
 L2.Fd (n:=63) (k:=15) (x:="_law_script") (CX:=λw=>CXe l.prog w) (sp:=λw=>Ar (K w.params)) r `b g ⟨rfl,by decide,by decide⟩ y F (λ_ H a v o A m=>⟨a,v,rfl,m,o,λ_=>rfl⟩) λ_ _ _ _ _ z=>f6 z
end K83
open PySem PySem.W PyProof.Rows
namespace PySem.W.Fast
def tw17321626542854563224:=()
def tw8126708384387182820:=()
def tw354867033695191910:=()
def tw12170286653145843215:=()
def tw9531213083102189284:=()
def tw1373838454110396974:=()
def tw13125004711621000315:=()
def tw7370566490772088394:=()
def tw711574571917924848:=()
def tw6953896655754135690:=()
def tw16283092378489649474:=()
def tw8041669945442220281:=()
def tw5289084919017094650:=()
def tw6657053596259213020:=()
def tw17549615763913283791:=()
def tw10867225898211947817:=()
def tw13086242197747841466:=()
def tw16217938653152396518:=()
def tw15689227813607691517:=()
def tw12456996012111680513:=()
def tw4036798251628228889:=()
def tw11762327310400099204:=()
def tw4171778580855249396:=()
def tw9400206467183359617:=()
def tw1892421041495814210:=()
def tw1739183737811557188:=()
def tw8763201370152976793:=()
def tw5380110940901301529:=()
def tw15862190856970605321:=()
def tw10274826046679992147:=()
def tw4911163037176101190:=()
def tw17930146606068686256:=()
def tw251590796441115569:=()
def tw7404513900944722726:=()
def tw3302638402766043193:=()
def tw14372864782074404720:=()
def tw11091437043826385540:=()
def tw2679968888406706420:=()
def tw1938693845982209690:=()
def tw9606684563426002221:=()
def tw7896772090622244554:=()
def tw7497672063646331182:=()
def tw6304436539457573931:=()
def tw5073622204851108045:=()
def tw3749739101572594824:=()
def tw12567180448089758812:=()
def tw14574711480254109448:=()
def tw11704411604415356321:=()
def tw2693006745889833909:=()
def tw14914647022982955773:=()
def tw12681231472337525479:=()
def tw18370864666994454845:=()
def tw1266536438682050308:=()
def tw17623195603240287287:=()
def tw17256657495542475314:=()
def tw17963534581217407498:=()
def tw7438830707940459159:=()
def tw2389897701696396071:=()
def tw14806093796595426527:=()
def tw985187728613418782:=()
def tw9488356340583521370:=()
def tw733489371221078683:=()
def tw7012678613990103089:=()
def tw2699157039065207032:=()
def tw18403908087448585836:=()
def tw14935860143986614448:=()
def tw13848573623095158895:=()
def tw13810518496992531332:=()
def tw13781005267899035583:=()
def tw7590631896854882173:=()
def tw12582183651720211865:=()
def tw15634476199428340835:=()
def tw14192108777958650461:=()
def tw7858405604312403273:=()
def tw7629336013185172779:=()
def tw7542972743818561606:=()
def tw4844781594424507003:=()
def tw2110126252009425842:=()
def tw13655777640963524640:=()
def tw12485346873546898827:=()
def tw12138369607022282865:=()
def tw1183476220617802340:=()
def tw11819405633188847141:=()
def tw1001792976945721284:=()
def tw12771304327598948805:=()
def tw9432227238722640479:=()
def tw8914176116234077273:=()
def tw8173923713388672170:=()
def tw4995108687049514000:=()
def tw4816022174304508925:=()
def tw4716951323938837583:=()
def tw4155106395046356273:=()
def tw3252586628025465844:=()
def tw13234461729622837516:=()
def tw12572697484388694750:=()
def tw11777846161131253276:=()
def tw1158044860772316652:=()
def tw1077156356996636708:=()
def tw10661841089105528138:=()
def tw74888533803813717:=()
def tw4056346352288191725:=()
def tw3642545898705036763:=()
def tw3358570345824248251:=()
def tw3307749304067834704:=()
def tw18359094751150897423:=()
def tw18198953940867997740:=()
def tw17712219518150121375:=()
def tw1575082388257100898:=()
def tw15602091891271665893:=()
def tw13559355179111423942:=()
def tw129480976553033234:=()
def tw12138557195288626973:=()
def tw1107865762432738596:=()
def tw329315249812379161:=()
def tw6843606842619798092:=()
def tw6096088215317144663:=()
def tw5266043881485436417:=()
def tw3458434448034410778:=()
def tw2149282258662757966:=()
def tw17212998195712120361:=()
def tw16563832095575307066:=()
def tw14671418770356966698:=()
def tw13252443469319386928:=()
def tw13197192945921635800:=()
def tw12169127051106164348:=()
def tw9133262154944358213:=()
def tw7722374086422502279:=()
def tw6714416993934711159:=()
def tw6690894601249763187:=()
def tw4748565442220796073:=()
def tw3358085074557450584:=()
def tw2092142644330022416:=()
def tw17877491838763695022:=()
def tw16570275463620199133:=()
def tw1613502498370002268:=()
def tw15371225131770852237:=()
def tw14640087081247316013:=()
def tw13874164788101530535:=()
def tw12513934986920982154:=()
def tw9870447871333174473:=()
def tw9417890936787488985:=()
def tw9389672984370355276:=()
def tw9194641013309457733:=()
def tw9077747055133999485:=()
def tw8967682424501290444:=()
def tw8513495267237363605:=()
def tw8394448639137769973:=()
def tw8343654071582556113:=()
def tw7974272778750183839:=()
def tw7913250341770178789:=()
def tw7634490752746041603:=()
def tw7376778605967694534:=()
def tw7305284832325828482:=()
def tw7170517815353070103:=()
def tw7001368387739814225:=()
def tw651409852902931130:=()
def tw6304407835284144635:=()
def tw6172217060400003491:=()
def tw6108938350064659134:=()
def tw6062703683248036038:=()
def tw6021015871358733512:=()
def tw5986316312268951599:=()
def tw5960152420618550551:=()
def tw572572116041621554:=()
def tw5657952832536815645:=()
def tw5573785903551280717:=()
def tw5447314533023205761:=()
def tw5445174295716477663:=()
def tw5443968508638642316:=()
def tw5443884739779334306:=()
def tw5342579349148800566:=()
def tw5185422116786381654:=()
def tw4937428006244486261:=()
def tw4796778231809382406:=()
def tw4765946335350101779:=()
def tw4658319286286196405:=()
def tw4464590077826557371:=()
def tw4444345216962092555:=()
def tw4315294940045660176:=()
def tw3921023153130426913:=()
def tw3748372059734795759:=()
def tw3711478867811763193:=()
def tw3606391062207825637:=()
def tw3541373145661426961:=()
def tw3372821982526139125:=()
def tw3353998271676364939:=()
def tw3331709948762813204:=()
def tw3188646960132830244:=()
def tw3082880362445452490:=()
def tw3075687500172216136:=()
def tw2981964909969989561:=()
def tw2756140188532531837:=()
def tw2314807686215799307:=()
def tw2002420309617139712:=()
def tw1937193212376820877:=()
def tw1901847213382485374:=()
def tw1831566609550797811:=()
def tw1830519129835160787:=()
def tw18250583423009781705:=()
def tw18090093215824430241:=()
def tw17909979481976586096:=()
def tw17728931475273227398:=()
def tw17456267693084534803:=()
def tw17411658776382491980:=()
def tw17378779071412653441:=()
def tw17157415204785215558:=()
def tw17033619816622266623:=()
def tw17006302563267680276:=()
def tw16891514854555393380:=()
def tw16881508583994365020:=()
def tw16872038681434374181:=()
def tw1684900055789715798:=()
def tw16823392297520002240:=()
def tw16753483727855021159:=()
def tw16660452142556968741:=()
def tw16592159841734785532:=()
def tw16540029717618737143:=()
def tw16520515453050603909:=()
def tw16486421024650042065:=()
def tw16461115461892620051:=()
def tw16439997176816621643:=()
def tw16140902474654028735:=()
def tw1576024025308666606:=()
def tw15688790934201924457:=()
def tw15454341911672671016:=()
def tw15388822429331987582:=()
def tw15286436817336384426:=()
def tw15192712395582170064:=()
def tw15171613640213562762:=()
def tw15142931968527641788:=()
def tw15105603698986423754:=()
def tw14897306293794843257:=()
def tw14863430138160285869:=()
def tw14858069447238504185:=()
def tw14811950160110770879:=()
def tw14677469678099242372:=()
def tw14640321354378584279:=()
def tw14199330033676374320:=()
def tw13776262984747870606:=()
def tw13484091155726016858:=()
def tw13363042820171661680:=()
def tw13274119748950852310:=()
def tw13257420458842815468:=()
def tw13174519058458532837:=()
def tw12880693373022192545:=()
def tw12532674958799565966:=()
def tw12421209603277926158:=()
def tw12346928286199079587:=()
def tw11963504982222806748:=()
def tw11576389654118473589:=()
def tw11368849980297185122:=()
def tw10951225084436536410:=()
def tw10780885879422086578:=()
def tw10755586769561103239:=()
def tw10424961187525763259:=()
def tw10374943913860966546:=()
def tw10306096886383482933:=()
def tw10224503504290483641:=()
def tw101799227005085483:=()
def tw10055084928754959908:=()
def tw10000603249470787655:=()
def tw1621242269275444013:=()
def tw5133229394995531673:=()
def tw16912294633583808626:=()
def tw5015412330216346439:=()
def tw555517481072006042:=()
def tw16764984134666216724:=()
def tw1852478085583299147:=()
def tw9551805699876813467:=()
def tw6582129898386549336:=()
def tw3846253613350775217:=()
def tw3299527094313164205:=()
def tw10462038576453892146:=()
def tw7542017591837584337:=()
def tw3485102207983721829:=()
def tw431622630595153704:=()
def tw11090455703533391143:=()
def tw9664910369445063779:=()
def tw4560167082406628055:=()
def tw12436344530170958879:=()
def tw3920217843518784858:=()
def tw6274940070400834844:=()
def tw16627037377464292365:=()
def tw14986846028209498990:=()
def tw16969070718390482837:=()
def tw9178190916895687306:=()
def tw4909593611329195422:=()
def tw4446911383329076980:=()
def tw13182866331639845752:=()
def tw17509190250017931115:=()
def tw10043056520804498846:=()
def tw1726588605833696690:=()
def tw13215484138421564165:=()
def tw16531086063969530450:=()
def tw7551921313808793630:=()
def tw13764800355951334497:=()
def tw4453421051266816461:=()
def tw5462930268952818351:=()
def tw5256665558731183600:=()
def tw5828215101366242789:=()
def tw2919611538966295620:=()
def tw17132646524498918699:=()
def tw5340317143426424480:=()
def tw18121327250838732924:=()
def tw1172288950454459674:=()
def tw1902520468037483662:=()
def tw12457259156468316784:=()
def tw3323837516614299964:=()
def tw16016035908681988686:=()
def tw2736339774025794740:=()
def tw1899618531016046057:=()
def tw123533596098493438:=()
def tw17724991021341995210:=()
def tw12856163918931196537:=()
def tw16140239566381849611:=()
def tw5104692763086192568:=()
def tw14124553161560029171:=()
def tw16384080864536057395:=()
def tw12527170701487765770:=()
def tw11612285802194824792:=()
def tw5761653727113991708:=()
def tw6922695981537621578:=()
def tw7060285227667939794:=()
def tw8265072400410213225:=()
def tw15915642191578622923:=()
def tw7062157299969416843:=()
def tw4373088369712668613:=()
def tw3226847963356101913:=()
def tw5198077747327531399:=()
def tw10043127242677640656:=()
def tw8586397482060339928:=()
def tw10070869595693789538:=()
def tw1359610894320128215:=()
def tw7606029339864009133:=()
def tw10265748943389574210:=()
def tw8162155285597548540:=()
def tw11511669101538266751:=()
def tw12648353510496253099:=()
def tw16866002308835084005:=()
def tw289549228147424047:=()
def tw10520340348456152985:=()
def tw3445380122156172585:=()
def tw13832678349573678887:=()
def tw1519661826803746849:=()
def tw3786683411599696741:=()
def tw6072929371845613880:=()
def tw9758384796275344737:=()
def tw17814266691149817604:=()
def tw10988464753161591183:=()
def tw15258623911508286292:=()
def tw17783378568973860041:=()
def tw5779913318991616244:=()
def tw8942591998959565551:=()
def tw5705784798139446901:=()
def tw16820976756650666655:=()
def tw8628781851580624649:=()
def tw9570540507515928524:=()
def tw1426475017260567388:=()
def tw11148259093880030440:=()
def tw18184333026519085390:=()
def tw14494208163925190168:=()
def tw2968752400638186273:=()
def tw11310279926541750181:=()
def tw8908666728864214904:=()
def tw12322936686323725191:=()
def tw17539139903999225432:=()
def tw8829490174665879258:=()
def tw16324289174998564281:=()
def tw3555224972037521284:=()
def tw3624472006610975748:=()
def tw5958160401708323161:=()
def tw15635265903226477403:=()
def tw2580109605069016669:=()
def tw16637623927508339954:=()
def tw7551077311989100565:=()
def tw14967981686911641524:=()
def tw483040739489441735:=()
def tw4771380304479077380:=()
def tw8622904518756349665:=()
def tw13634927323982559840:=()
def tw5001129094358736497:=()
def tw265521877343853937:=()
def tw8502130139025212790:=()
def tw898581336945377073:=()
def tw11572453306807512687:=()
def tw12017853342663736311:=()
def tw12327637887844149000:=()
def tw18119934742821997939:=()
def tw5912363972276984466:=()
def tw16418816069196427350:=()
def tw4710134476619598568:=()
def tw4455996437414753385:=()
def tw3982314342649666087:=()
def tw7145761670407849068:=()
def tw17570974678876369827:=()
def tw2732124346985359883:=()
def tw16450380331803595227:=()
def tw11691392512625431379:=()
def tw7245726445671413104:=()
def tw7401123158773622236:=()
def tw428956594978613424:=()
def tw2098299531413199667:=()
def tw13345793012815787910:=()
def tw14572230565275052917:=()
def tw10879087280493529235:=()
def tw9143117257062666902:=()
def tw12300588067754426845:=()
def tw11675375961501705233:=()
def tw10216282414190076732:=()
def tw3084922235488527606:=()
def tw9140304343875123204:=()
def tw13061865471735819365:=()
def tw12819985924711731757:=()
def tw11338589378434473514:=()
def tw3676589199055346571:=()
def tw6273549036828610394:=()
def tw1618420842487521096:=()
def tw8830139513101859480:=()
def tw13262038387048922936:=()
def tw15775798993763311968:=()
def tw13392477841709787139:=()
def tw12878765626634503660:=()
def tw8407418939571338274:=()
def tw15384366820918761069:=()
def tw18377624224314005438:=()
def tw17282174942488124225:=()
def tw5255926604208412167:=()
def tw1586349812616987596:=()
def tw8883126979684651643:=()
def tw10050261713483352752:=()
def tw3649855254075931828:=()
def tw16533305715376352568:=()
def tw9167130982992622084:=()
def tw4501718222536317082:=()
def tw1503026401095725832:=()
def tw12388922405409227554:=()
def tw11521158065070755343:=()
def tw3744321164831411223:=()
def tw6573947685336648489:=()
def tw13585432327769749331:=()
def tw4489723882086872929:=()
def tw2506223798838823690:=()
def tw8596417686766838095:=()
def tw11894642378731028207:=()
def tw4679128771907572717:=()
def tw6379150057571310201:=()
def tw15830724993204691562:=()
def tw18183378414966627410:=()
def tw12951936726987571783:=()
def tw10573070790569202761:=()
def tw18421909191793458315:=()
def tw1769224962220825188:=()
def tw5682741815983979876:=()
def tw2144407418661900195:=()
def tw2269195190075914621:=()
def tw4089756702760296335:=()
def tw5152865149073814694:=()
def tw3404149638027416000:=()
def tw6818258602813636994:=()
def tw484741902464640175:=()
def tw12947610422552683379:=()
def tw18021170546144497453:=()
def tw3882439225944535353:=()
def tw16456224642462095922:=()
def tw12391461936875021408:=()
def tw8639368847566755723:=()
def tw5655958178557061396:=()
def tw5380032917356274615:=()
def tw5267823053956249282:=()
def tw17996719213322627466:=()
def tw772450652169037611:=()
def tw2537214756143753338:=()
def tw17941528870000855683:=()
def tw11423308731940661010:=()
def tw2698632219820264484:=()
def tw6958415955537227052:=()
def tw18194313006637421:=()
def tw17921962705921649637:=()
def tw13474349036881350476:=()
def tw6169947878780742623:=()
def tw7863597414129282748:=()
def tw763090301903678032:=()
def tw8455970979394916268:=()
def tw10904198782451686344:=()
def tw10290033618187945980:=()
def tw14777300233314629644:=()
def tw11527910110019387804:=()
def tw3543070494776668900:=()
def tw14474990026097534996:=()
def tw7330633136447744243:=()
def tw14840854681541515519:=()
def tw16105394189569820073:=()
def tw5802032598422304645:=()
def tw15924599693754751262:=()
def tw10888761086123729748:=()
def tw2605108068534769248:=()
def tw10768554223374478706:=()
def tw9999223252265105316:=()
def tw12221215480707056652:=()
def tw4444411074197618225:=()
def tw1926449740836371268:=()
def tw5322739230455039497:=()
def tw5724831958957043258:=()
def tw3609444649308250559:=()
def tw6128705053055845736:=()
def tw4880368263217727300:=()
def tw16713388122627822617:=()
def tw17687204298826015445:=()
def tw87887960435176485:=()
def tw6899734913656896038:=()
def tw9594548117833354336:=()
def tw10395108674351697648:=()
def tw11830157408794016886:=()
def tw1657480327750127876:=()
def tw9629958621746233642:=()
def tw6439965971727384629:=()
def tw3174267554288021801:=()
def tw7277029004885154043:=()
def tw14633064823256104906:=()
def tw13355658406916128730:=()
def tw16614582402441536381:=()
def tw10534439179668187118:=()
def tw4058627677917275573:=()
def tw1153786509514124122:=()
def tw4966371407647897357:=()
def tw12978934282530542536:=()
def tw2331359216059931333:=()
def tw5313545258058290867:=()
def tw14342565035069134774:=()
def tw7910283188472568775:=()
def tw1049227235542128413:=()
def tw1826807992970216681:=()
def tw4294924382470570918:=()
def tw1216387715122276069:=()
def tw8697872293353988977:=()
def tw11366035276831015079:=()
def tw18444374008316465021:=()
def tw8238717475290703327:=()
def tw17705281586646661223:=()
def tw16730060203733407986:=()
def tw13485088903811836612:=()
def tw3295695536940473557:=()
def tw11547841303012064870:=()
def tw16602230119986638694:=()
def tw12828266264157027799:=()
def tw12338352626515746739:=()
def tw10219171972737131925:=()
def tw11745733410855885434:=()
end PySem.W.Fast
set_option maxRecDepth 100000 in
set_option maxHeartbeats 0 in
theorem PySem.Challenge.cw_fleetpath_k83_pieces_held_holds : PySem.Challenge.rw_fleetpath_k83_pieces_held.Holds := by
 w_on;o_law;k_head;(case hw=>w_witness2)
 k_fill
 refine K83.walk (l:=PySem.Challenge.rw_fleetpath_k83_pieces_held) rfl rfl (λw h Y=>PySem.W.kIn_of Y) ?F
 case F=>
  intro w mg fa h KX G hmg;refine' K83.all_mk KX G hmg ?_ ?_ ?_ ?_ ?_ ?_ ?_ ?_ ?_ ?_ ?_ ?_ ?_ ?_ ?_ ?_ ?_ ?_ ?_ ?_ ?_ ?_ ?_ ?_ ?_ ?_ ?_ ?_ ?_ ?_ ?_ ?_ ?_ ?_ ?_ ?_ ?_ ?_ ?_ ?_ ?_ ?_ ?_ ?_ ?_ ?_ ?_ ?_ ?_ ?_ ?_ ?_ ?_ ?_ ?_ ?_ ?_ ?_ ?_ ?_ ?_ ?_ ?_ ?_ ?_ ?_ ?_ ?_ ?_ ?_ ?_ ?_ ?_ ?_ ?_ ?_ ?_ ?_ ?_ ?_ ?_ ?_ ?_ ?_ ?_ ?_ ?_ ?_ ?_ ?_ ?_ ?_ ?_ ?_ ?_ ?_ ?_ ?_ ?_ ?_ ?_ ?_ ?_ ?_ ?_ ?_ ?_ ?_ ?_ ?_ ?_ ?_ ?_ ?_ ?_ ?_ ?_ ?_ ?_ ?_ ?_ ?_ ?_ ?_ ?_ ?_ ?_ ?_ ?_ ?_ ?_ ?_ ?_ ?_ ?_ ?_ ?_ ?_ ?_ ?_ ?_ ?_ ?_ ?_ ?_ ?_ ?_ ?_ ?_ ?_ ?_ ?_ ?_ ?_ ?_ ?_ ?_ ?_
  all_goals try(first|((first|refine'⟨?_,L2.Df ?_ ?_ ?_⟩|refine' L2.Df ?_ ?_ ?_|refine' K83.Ml ?_ ?_ ?_ ?_ ?_)<;>try first|k_is|kernel_rfl)|(show _=_;first|k_is|kernel_rfl)|(first|refine⟨?_,?_,?_,?_,?_⟩|refine⟨?_,?_,?_,?_⟩|refine⟨?_,?_,?_⟩)<;>first|k_is|kernel_rfl)
#print axioms PySem.Challenge.cw_fleetpath_k83_pieces_held_holds
